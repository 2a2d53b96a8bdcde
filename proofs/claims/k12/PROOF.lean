import PyProof.Rows.All
import KE.KRevIter
import PyProof.FactsAll.range_2
import Wide.All
import OpenK.AllK
import Wide.FinOn
import PyProof.EqAt
import PyProof.EqKinds
import PyProof.NeKinds
import PyProof.TupleCall
import PyProof.CompFree
import PyProof.CompMap
import PyProof.ReprRoads
import PyProof.CallFns
import PyProof.ReprBulk
import PyProof.CompUse
import KE.KRevSl
import PyProof.Rows.SetFrom
import PyProof.AttrMissSeq
import KE.KDictOf
import PyProof.DictUpdate
import PyProof.ListRange
import PyProof.Rows.SumAny
import PyProof.Rows.SortRev
import PyProof.Rows.CallKwBuiltin
import PyProof.ListMulAny
import PyProof.TupleOps
import PyProof.ZipIter
import PyProof.Draws
import PyProof.TupleIter
import PyProof.EnumMake
import PyProof.DictCompW
import PyProof.DictItems
import PyProof.DictItemsLoops
import PyProof.ExcAttrAll.ValueError
import KE.KTryMore
import KE.KLam
import KE.KTupSum
import KE.KMinKey
import PyProof.FactsAll.tuple_0
import PyProof.FactsAll.tuple_2
import PyProof.FactsAll.tuple_3
import KE.KSortTup
import PyProof.DictValues
import PyProof.DictWalks
import PyProof.SumWalkG
import PyProof.CollectWalk
import PyProof.FactsAll.dict_values
import KE.KDictList
import KE.KItemsList
import PyProof.TupleKey
import PyProof.DictDisplay
import PyProof.DictTable
import PyProof.ReprDict
import PyProof.ReprNest
import PyProof.ReprReads
import PySem.Challenge.RW_emptierbox_k12_moves_looked_at
set_option Elab.async false
set_option linter.all false
set_option maxRecDepth 100000
set_option maxHeartbeats 4000000
namespace MA
end MA

set_option Elab.async false
set_option linter.all false
set_option maxRecDepth 100000
set_option maxHeartbeats 4000000
/-! THE HAND LAYER, for ints, bools, texts, own classes, LISTS and tuples (index, slices, in, append, pop ..), calls, loops. Paste it whole ahead of your own text; what your proof does not reach may be deleted. -/
namespace L2
open PySem PySem.Spec PyProof.Rows

/-- a key: an int or a str -/
abbrev Key := Sum Int Str
def keyIs : Key → Value → Bool
  | .inl k, v => Value.isInt k v
  | .inr x, v => Value.isStrOf x v
def keyH (w : World) : Key → Int
  | .inl k => hashInt k
  | .inr x => hashStr w x
theorem keyIs_shape : ∀ {k : Key} {v : Value}, keyIs k v = true → (∃ i t, k = Sum.inl i ∧ v = Value.int i t) ∨ (∃ x t, k = Sum.inr x ∧ v = Value.str x t)
  | .inl i, v, h => by
    obtain ⟨t, e⟩ := Value.isInt_shape (k := i) (v := v) h
    exact .inl ⟨i, t, rfl, e⟩
  | .inr x, v, h => by
    obtain ⟨t, e⟩ := Value.isStrOf_shape (x := x) (v := v) h
    exact .inr ⟨x, t, rfl, e⟩
theorem keyIs_int (i : Int) (t : Tok) : keyIs (.inl i) (.int i t) = true := by simp [keyIs, Value.isInt]
theorem keyIs_str (x : Str) (t : Tok) : keyIs (.inr x) (.str x t) = true := by simp [keyIs, Value.isStrOf]
theorem key_ll (a b : Int) : decide ((Sum.inl a : Key) = Sum.inl b) = (a == b) := by
  by_cases e : a = b
  · subst e; simp
  · have h : ¬ (Sum.inl a : Key) = Sum.inl b := fun q => e (Sum.inl.inj q)
    rw [decide_eq_false h]
    exact (beq_eq_false_iff_ne.mpr e).symm
theorem key_rr (a b : Str) : decide ((Sum.inr a : Key) = Sum.inr b) = decide (a = b) := by
  by_cases e : a = b
  · subst e; simp
  · have h : ¬ (Sum.inr a : Key) = Sum.inr b := fun q => e (Sum.inr.inj q)
    rw [decide_eq_false h, decide_eq_false e]
theorem key_lr (a : Int) (b : Str) : decide ((Sum.inl a : Key) = Sum.inr b) = false := decide_eq_false (fun q => nomatch q)
theorem key_rl (a : Str) (b : Int) : decide ((Sum.inr a : Key) = Sum.inl b) = false := decide_eq_false (fun q => nomatch q)

def mixKind (prog : Program) (w : World) : PySem.KeyKind prog w Key where
  is := keyIs
  hash := keyH w
  inj := fun v a b ha hb => by
    rcases keyIs_shape ha with ⟨i, t, rfl, rfl⟩ | ⟨x, t, rfl, rfl⟩
    · rcases keyIs_shape hb with ⟨j, u, rfl, e⟩ | ⟨y, u, rfl, e⟩
      · injection e with e1 _; rw [e1]
      · exact nomatch e
    · rcases keyIs_shape hb with ⟨j, u, rfl, e⟩ | ⟨y, u, rfl, e⟩
      · exact nomatch e
      · injection e with e1 _; rw [e1]
  byValue := fun k v h => by
    rcases keyIs_shape h with ⟨i, t, rfl, rfl⟩ | ⟨x, t, rfl, rfl⟩ <;> rfl
  pyHash := fun hv h => by
    rcases keyIs_shape hv with ⟨i, t, rfl, rfl⟩ | ⟨x, t, rfl, rfl⟩
    · exact wpAny_pyHash_int h
    · exact wpAny_pyHash_str h
  eqBool := fun hu hv h => by
    rcases keyIs_shape hu with ⟨i, t, rfl, rfl⟩ | ⟨x, t, rfl, rfl⟩
    · rcases keyIs_shape hv with ⟨j, u, rfl, rfl⟩ | ⟨y, u, rfl, rfl⟩
      · rw [key_ll] at h; exact wpAny_eqBool_int h
      · rw [key_lr] at h; exact SeqAt.EqAt.int_str i t y u _ _ _ _ h
    · rcases keyIs_shape hv with ⟨j, u, rfl, rfl⟩ | ⟨y, u, rfl, rfl⟩
      · rw [key_rl] at h; exact SeqAt.EqAt.str_int x t j u _ _ _ _ h
      · rw [key_rr] at h; exact wpAny_eqBool_str h
  «strs» := fun k x t v h => by
    rcases keyIs_shape h with ⟨i, u, rfl, e⟩ | ⟨y, u, rfl, e⟩
    · exact nomatch e
    · injection e with e1 _
      subst e1
      cases v <;> rfl

theorem mixKind_int (prog : Program) (w : World) (i : Int) (t : Tok) : (mixKind prog w).is (.inl i) (.int i t) = true := keyIs_int i t
theorem mixKind_str (prog : Program) (w : World) (x : Str) (t : Tok) : (mixKind prog w).is (.inr x) (.str x t) = true := keyIs_str x t
end L2

namespace L2
open PySem PySem.Spec PyProof.Rows

/-- a value, without the heap -/
inductive V where
  | non | bl (b : Bool) | int (i : Int) | str (x : Str) | byt (b : Array UInt8) | flt (b : UInt64) | ref (a : Addr) | ty (n : String)
  deriving DecidableEq

def RelV : V → Value → Prop
  | .non, u => u = Value.none
  | .bl b, u => u = Value.bool b
  | .int i, u => ∃ t, u = Value.int i t
  | .str x, u => ∃ t, u = Value.str x t
  | .byt b, u => ∃ t, u = Value.bytes b t
  | .flt b, u => ∃ t, u = Value.float b t
  | .ref a, u => u = Value.ref a
  | .ty n, u => u = Value.type n

abbrev Vals : List V → List Value → Prop := Paired RelV
theorem Vals.length {xs : List V} {us : List Value} (r : Vals xs us) : xs.length = us.length := Paired.length r
theorem Vals.get : ∀ {xs : List V} {us : List Value} {i : Nat} {x : V}, Vals xs us → xs[i]? = some x → ∃ u, us[i]? = some u ∧ RelV x u
  | _, _, _, _, .nil, e => by simp at e
  | _, _, 0, _, .cons r _, e => by simp at e; subst e; exact ⟨_, rfl, r⟩
  | _, _, i + 1, x, .cons _ t, e => by
    obtain ⟨u, h1, h2⟩ := Vals.get (i := i) (x := x) t (by simpa using e)
    exact ⟨u, by simpa using h1, h2⟩
theorem Vals.set {x : V} {u : Value} (r : RelV x u) : ∀ {xs : List V} {us : List Value} (i : Nat), Vals xs us → Vals (xs.set i x) (us.set i u)
  | _, _, _, .nil => .nil
  | _, _, 0, .cons _ t => .cons r t
  | _, _, i + 1, .cons q t => .cons q (Vals.set r i t)
theorem Vals.append : ∀ {xs ys : List V} {us ws : List Value}, Vals xs us → Vals ys ws → Vals (xs ++ ys) (us ++ ws)
  | _, _, _, _, .nil, s => s
  | _, _, _, _, .cons r t, s => .cons r (Vals.append t s)
theorem Vals.take : ∀ {xs : List V} {us : List Value} (n : Nat), Vals xs us → Vals (xs.take n) (us.take n)
  | _, _, 0, _ => .nil
  | _, _, _ + 1, .nil => .nil
  | _, _, n + 1, .cons r t => .cons r (Vals.take n t)
theorem Vals.drop : ∀ {xs : List V} {us : List Value} (n : Nat), Vals xs us → Vals (xs.drop n) (us.drop n)
  | _, _, 0, r => r
  | _, _, _ + 1, .nil => .nil
  | _, _, n + 1, .cons _ t => Vals.drop n t
def RelO : Option V → Option Value → Prop
  | some v, some u => RelV v u
  | none, none => True
  | _, _ => False
def KV {κ : Type} : List (κ × V) → List (κ × Value) → Prop := Paired fun (p : κ × V) (q : κ × Value) => p.1 = q.1 ∧ RelV p.2 q.2

/-- a key of a dict (00_mix): an int or a text -/
def kV : Key → V
  | .inl i => .int i
  | .inr x => .str x

/-- what stands at a tracked address -/
inductive HO where
  /-- a list -/
  | lst (xs : List V)
  /-- a tuple (never changes) -/
  | tup (xs : List V)
  /-- a dict whose keys are ints and texts; one whose keys are tuples of ints and texts (the empty one is both) -/
  | dK (kvs : List (Key × V)) | dT (kvs : List (List Key × V))
  /-- a set of ints: its members, its size -/
  | set (S : Int → Bool) (n : Nat)
  /-- an instance of the class at C, its dict at dx, its attributes -/
  | ins (C dx : Addr) (fs : List (Str × V))
  /-- the dict of the instance at x -/
  | own (x : Addr)
  /-- the dict of an exception -/
  | xd (fs : List (Str × V))
  /-- a bound method, f of x -/
  | met (f x : Addr)
  /-- a range object lo, lo + 1, .. below hi -/
  | rng (lo hi : Int)
  /-- a thing that is known to the object (the script; a dict while a loop walks it): read, never written while it is so -/
  | frz (o : Obj) (u : HO)
  /-- a code object's table -/
  | tbl (ps : Array Value)
  /-- the table of the lambdas of a def, whose qualname is q -/
  | tab (q : Str)
  /-- any other thing, by what is true of its one object (a def of one's own: SetO a S n := HO.ext fun h => ..) -/
  | ext (φ : Heap → Prop)

abbrev Hp := Addr → Option HO
def upd (H : Hp) (a : Addr) (o : HO) : Hp := fun b => if b = a then some o else H b
theorem upd_same {H : Hp} {a : Addr} {o : HO} : upd H a o a = some o := by unfold upd; rw [if_pos rfl]
theorem upd_ne {H : Hp} {a b : Addr} {o : HO} (h : b ≠ a) : upd H a o b = H b := by unfold upd; rw [if_neg h]
theorem upd_upd {H : Hp} {a : Addr} {o u : HO} : upd (upd H a o) a u = upd H a u := by
  funext b; unfold upd; split <;> rfl
/-- two objects of different content stand apart -/
theorem ne_of {H : Hp} {a b : Addr} {o u : HO} (h : H a = some o) (h' : H b = some u) (d : o ≠ u) : a ≠ b := by
  intro e; subst e; rw [h] at h'; exact d (Option.some.inj h')
theorem ne_of_none {H : Hp} {a b : Addr} {o : HO} (h : H a = some o) (h' : H b = none) : a ≠ b := by
  intro e; subst e; rw [h] at h'; cases h'

/-- a tuple, with no dict of its own -/
def IsTupN (h : Heap) (a : Addr) (items : Array Value) : Prop := ∃ o, h.get? a = some o ∧ o.cls = .type "tuple" ∧ ∃ n, o.data = .seq items n ∧ o.dict = none
theorem IsTupN.tup {h : Heap} {a : Addr} {items : Array Value} (x : IsTupN h a items) : PyProof.Rows.IsTup h a items := let ⟨o, e, c, n, d, _⟩ := x; ⟨o, e, c, n, d⟩
theorem IsTupN.new (h : Heap) (items : Array Value) : IsTupN (h.push { cls := .type "tuple", data := .seq items }) h.objs.size items := ⟨_, Heap.get?_push_size _ rfl, rfl, _, rfl, rfl⟩
theorem IsTupN.lt {h : Heap} {a : Addr} {items : Array Value} (x : IsTupN h a items) : a < h.objs.size := let ⟨_, e, _⟩ := x; Heap.lt_size e

section
variable (P : Program) (w : World)
def ObjOk (H : Hp) (h : Heap) (a : Addr) : HO → Prop
  | .lst xs => xs.length ≤ sizeLine ∧ ∃ (its : List Value) (n : Nat), Vals xs its ∧ h.get? a = some { cls := .type "list", data := .seq its.toArray n }
  | .tup xs => xs.length ≤ sizeLine ∧ ∃ its : List Value, Vals xs its ∧ IsTupN h a its.toArray
  | .dK kvs => kvs.length ≤ sizeLine ∧ (a == sysModules) = false ∧ ∃ vs, KV kvs vs ∧ h.DictOf (mixKind P w) a vs
  | .dT kvs => kvs.length ≤ sizeLine ∧ (a == sysModules) = false ∧ ∃ xs : List (List Key × Addr × Value),
      Paired (fun (p : List Key × V) (q : List Key × Addr × Value) => p.1 = q.1 ∧ H q.2.1 = some (.tup (p.1.map kV)) ∧ RelV p.2 q.2.2) kvs xs ∧
      ∃ o es ep, h.get? a = some o ∧ o.ExactDict ∧ o.data = .dict es ep ∧ es.toList = xs.map (entryOfKey (tupleKind (mixKind P w))) ∧ (xs.map (·.1)).Nodup
  | .set S n => h.SetOf (intKind P w) a S n
  | .ins C dx fs => H dx = some (.own a) ∧ fs.length ≤ 1000 ∧ dx ≠ a ∧ h.get? a = some (PySem.W.instObj C dx) ∧
      ∃ mA, h.Ns1 dx mA ∧ (∀ f, RelO (fs.lookup f) (mA f)) ∧ PySem.Within mA (fs.map (·.1))
  | .own _ => ∃ o, h.get? a = some o
  | .xd fs => ∃ mA, h.Ns1 a mA ∧ ∀ f, RelO (fs.lookup f) (mA f)
  | .rng lo hi => ∃ t u v, h.get? a = some { cls := .type "range", data := .fields #[.int lo t, .int hi u, .int 1 v] }
  | .frz o u => h.get? a = some o ∧ ObjOk H h a u
  | .tbl ps => h.get? a = some { cls := .none, data := .fields ps }
  | .tab q => ∃ ps : Array Value, h.get? a = some { cls := .none, data := .fields ps } ∧ TriplesOk ps.toList ∧ ∀ pos cv, codeAmong pos ps.toList = some cv →
      ∃ c oc vs t, cv = .ref c ∧ H c = some (.frz oc (.own 0)) ∧ oc.data = .fields vs ∧ vs[1]? = some (.str q t)
  | .met f x => h.get? a = some (PySem.W.methodObj (.ref f) (.ref x))
  | .ext φ => φ h ∧ (∃ o, h.get? a = some o) ∧ ∀ h1 h2 : Heap, φ h1 → (∀ o, h1.get? a = some o → h2.get? a = some o) → φ h2
/-- the abstract heap is held -/
def HOk (H : Hp) (h : Heap) : Prop := ∀ a o, H a = some o → ObjOk P w H h a o
end

section
variable {P : Program} {w : World} {H H' : Hp} {h h' : Heap} {a : Addr} {o : HO}
theorem ObjOk.lt (x : ObjOk P w H h a o) : a < h.objs.size := by
  cases o with
  | lst xs => obtain ⟨_, _, _, _, e⟩ := x; exact Heap.lt_size e
  | tup xs => obtain ⟨_, _, _, p⟩ := x; exact p.lt
  | dK kvs => obtain ⟨_, _, _, _, o, _, _, e, _⟩ := x; exact Heap.lt_size e
  | dT kvs => obtain ⟨_, _, _, _, o, _, _, e, _⟩ := x; exact Heap.lt_size e
  | set S n => obtain ⟨o, _, _, _, e, _⟩ := x; exact Heap.lt_size e
  | ins C dx fs => obtain ⟨_, _, _, e, _⟩ := x; exact Heap.lt_size e
  | own y => obtain ⟨_, e⟩ := x; exact Heap.lt_size e
  | xd fs => obtain ⟨_, ⟨_, _, _, e, _⟩, _⟩ := x; exact Heap.lt_size e
  | rng lo hi => obtain ⟨_, _, _, e⟩ := x; exact Heap.lt_size e
  | frz ob u => obtain ⟨e, _⟩ := x; exact Heap.lt_size e
  | tbl ps => exact Heap.lt_size (show h.get? a = some _ from x)
  | tab q => obtain ⟨_, e, _⟩ := x; exact Heap.lt_size e
  | met f y => exact Heap.lt_size (show h.get? a = some _ from x)
  | ext φ => obtain ⟨_, ⟨_, e⟩, _⟩ := x; exact Heap.lt_size e
theorem Paired.mapP {α β : Type} {F G : α → β → Prop} : ∀ {l₁ : List α} {l₂ : List β}, Paired F l₁ l₂ → (∀ a b, F a b → G a b) → Paired G l₁ l₂
  | _, _, .nil, _ => .nil
  | _, _, .cons r t, f => .cons (f _ _ r) (Paired.mapP t f)
/-- what an object's description leans on: its own object, its own dict, the tuples -/
theorem ObjOk.stay (x : ObjOk P w H h a o) (k : ∀ b u, (b = a ∨ H b = some (.own a)) → h.get? b = some u → h'.get? b = some u)
    (ho : ∀ b, H b = some (.own a) → H' b = some (.own a)) (ht : ∀ b xs, H b = some (.tup xs) → H' b = some (.tup xs)) (hz : ∀ b ob, H b = some (.frz ob (.own 0)) → H' b = some (.frz ob (.own 0)) := by exact fun _ _ q => q) : ObjOk P w H' h' a o := by
  induction o with
  | lst xs => obtain ⟨z, its, n, r, e⟩ := x; exact ⟨z, its, n, r, k _ _ (.inl rfl) e⟩
  | tup xs => obtain ⟨z, its, r, ob, e, c⟩ := x; exact ⟨z, its, r, ob, k _ _ (.inl rfl) e, c⟩
  | dK kvs => obtain ⟨z, y, vs, r, ob, es, ep, e, c⟩ := x; exact ⟨z, y, vs, r, ob, es, ep, k _ _ (.inl rfl) e, c⟩
  | dT kvs =>
    obtain ⟨z, y, xs, r, ob, es, ep, e, c⟩ := x
    exact ⟨z, y, xs, Paired.mapP r fun p q z => ⟨z.1, ht _ _ z.2.1, z.2.2⟩, ob, es, ep, k _ _ (.inl rfl) e, c⟩
  | set S n => obtain ⟨ob, es, ep, t, e, c⟩ := x; exact ⟨ob, es, ep, t, k _ _ (.inl rfl) e, c⟩
  | ins C dx fs =>
    obtain ⟨d, z, ne, e, mA, ⟨od, es, ep, e2, c⟩, r⟩ := x
    exact ⟨ho _ d, z, ne, k _ _ (.inl rfl) e, mA, ⟨od, es, ep, k _ _ (.inr d) e2, c⟩, r⟩
  | own y => obtain ⟨ob, e⟩ := x; exact ⟨ob, k _ _ (.inl rfl) e⟩
  | xd fs => obtain ⟨mA, ⟨od, es, ep, e, c⟩, r⟩ := x; exact ⟨mA, ⟨od, es, ep, k _ _ (.inl rfl) e, c⟩, r⟩
  | rng lo hi => obtain ⟨t, u, v, e⟩ := x; exact ⟨t, u, v, k _ _ (.inl rfl) e⟩
  | frz ob u ih => obtain ⟨e, q⟩ := x; exact ⟨k _ _ (.inl rfl) e, ih q⟩
  | tab q =>
    obtain ⟨ps, e, tr, cs⟩ := x
    refine ⟨ps, k a _ (.inl rfl) e, tr, fun pos cv hc => ?_⟩
    obtain ⟨c, oc, vs, t, h1, h2, h3⟩ := cs pos cv hc
    exact ⟨c, oc, vs, t, h1, hz c oc h2, h3⟩
  | tbl ps =>
    have e : h.get? a = some { cls := .none, data := .fields ps } := x
    show h'.get? a = some { cls := .none, data := .fields ps }
    exact k a _ (.inl rfl) e
  | met f y =>
    have e : h.get? a = some (PySem.W.methodObj (.ref f) (.ref y)) := x
    show h'.get? a = some (PySem.W.methodObj (.ref f) (.ref y))
    exact k a _ (.inl rfl) e
  | ext φ => obtain ⟨p, ⟨o, e⟩, st⟩ := x; exact ⟨st _ _ p fun o q => k _ _ (.inl rfl) q, ⟨o, k _ _ (.inl rfl) e⟩, st⟩
theorem HOk.lt (x : HOk P w H h) (e : H a = some o) : a < h.objs.size := (x a o e).lt
theorem HOk.fresh (x : HOk P w H h) (e : h.objs.size ≤ a) : H a = none := by
  cases q : H a with
  | none => rfl
  | some u => exact absurd (Nat.lt_of_lt_of_le (x.lt q) e) (Nat.lt_irrefl _)
/-- every object of the heap is kept -/
theorem HOk.kept (x : HOk P w H h) (k : ∀ b u, h.get? b = some u → h'.get? b = some u) : HOk P w H h' := fun a o e =>
  (x a o e).stay (fun b u _ q => k b u q) (fun _ q => q) fun _ _ q => q
/-- a new object is laid and tracked -/
theorem HOk.laid (x : HOk P w H h) (k : ∀ b u, h.get? b = some u → h'.get? b = some u) (hp : h.objs.size ≤ a) (new : ObjOk P w (upd H a o) h' a o) : HOk P w (upd H a o) h' := fun b u e => by
  have hn := x.fresh hp
  by_cases hb : b = a
  · subst hb; rw [upd_same] at e; cases e; exact new
  · rw [upd_ne hb] at e
    exact (x b u e).stay (fun c v _ q => k c v q) (fun c q => by rw [upd_ne (ne_of_none q hn)]; exact q) (fun c xs q => by rw [upd_ne (ne_of_none q hn)]; exact q) fun c ob q => by rw [upd_ne (ne_of_none q hn)]; exact q
end

/-- what may be read as u: it is u, or a known u -/
def Rd (H : Hp) (a : Addr) (u : HO) : Prop := H a = some u ∨ ∃ o, H a = some (.frz o u)
theorem Rd.ok {P : Program} {w : World} {H : Hp} {h : Heap} {a : Addr} {u : HO} (r : Rd H a u) (x : HOk P w H h) : ObjOk P w H h a u := by
  rcases r with r | ⟨o, r⟩
  · exact x a u r
  · obtain ⟨_, q⟩ := x a _ r
    exact q
/-- what may be written -/
def Mut : Option HO → Prop
  | some (.lst _) => True
  | some (.dK _) => True
  | some (.dT _) => True
  | some (.set _ _) => True
  | some (.ins _ _ _) => True
  | some (.ext _) => True
  | some (.tab _) => True
  | _ => False
section
variable {P : Program} {w : World} {H : Hp} {h h' : Heap} {x e : Addr} {o' : HO}
/-- the object at e is changed: x itself, or the dict of the instance x -/
theorem HOk.write (ok : HOk P w H h) (mu : Mut (H x)) (he : e = x ∨ H e = some (.own x)) (k : ∀ b u, b ≠ e → h.get? b = some u → h'.get? b = some u) (heo : ∃ u, h'.get? e = some u)
    (new : ObjOk P w (upd H x o') h' x o') : HOk P w (upd H x o') h' := fun b u q => by
  have nown : ∀ c y, H c = some (.own y) → c ≠ x := fun c y r z => by subst z; rw [r] at mu; exact mu
  have ntup : ∀ c xs, H c = some (.tup xs) → c ≠ x := fun c xs r z => by subst z; rw [r] at mu; exact mu
  by_cases hb : b = x
  · subst hb; rw [upd_same] at q; cases q; exact new
  · rw [upd_ne hb] at q
    by_cases hbe : b = e
    · have q' : H b = some (.own x) := by
        rcases he with z | z
        · exact absurd (hbe.trans z) hb
        · rw [hbe]; exact z
      rw [q] at q'; cases q'
      obtain ⟨v, hv⟩ := heo
      exact ⟨v, by rw [hbe]; exact hv⟩
    · refine (ok b u q).stay (fun c v hc r => k c v ?_ r) (fun c r => by rw [upd_ne (nown c b r)]; exact r) (fun c xs r => by rw [upd_ne (ntup c xs r)]; exact r) (fun c ob r => by rw [upd_ne (fun z => by subst z; rw [r] at mu; exact mu)]; exact r)
      rcases hc with rfl | hc
      · exact hbe
      · rintro rfl
        rcases he with z | z
        · exact nown c b hc z
        · rw [hc] at z; cases z; exact hb rfl
end

/-! ### kept unless tracked; of the frames at fs (the callers') the slots may change (an exception that passes writes there); of the records at ex (iterators) nothing is said -/
structure Un (fs ex : List Addr) (H H' : Hp) (h h' : Heap) : Prop where
  keep : ∀ b o, h.get? b = some o → H b = none → b ∉ fs → b ∉ ex → h'.get? b = some o
  slot : ∀ b o, h.get? b = some o → H b = none → b ∈ fs → b ∉ ex → ∃ sl, h'.get? b = some { o with slots := sl }
  free : ∀ b o, h.get? b = some o → H b = none → b ∉ ex → H' b = none
  there : ∀ b o, h.get? b = some o → b ∉ ex → ∃ o', h'.get? b = some o'
  tups : ∀ b xs, H b = some (.tup xs) → H' b = some (.tup xs)
  frzs : ∀ b o u, H b = some (.frz o u) → H' b = some (.frz o u)
  tbls : ∀ b ps, H b = some (.tbl ps) → ∃ more, H' b = some (.tbl (ps ++ more))
section
variable {fs fs' ex ex' : List Addr} {H H1 H2 : Hp} {h h1 h2 h' : Heap} {a x e : Addr} {o : HO}
theorem Un.any (u : Un fs ex H H1 h h1) {b : Addr} {ob : Obj} (q : h.get? b = some ob) (n : H b = none) (hx : b ∉ ex) : ∃ sl, h1.get? b = some { ob with slots := sl } := by
  by_cases hb : b ∈ fs
  · exact u.slot b ob q n hb hx
  · exact ⟨ob.slots, u.keep b ob q n hb hx⟩
theorem Un.kept (k : ∀ b u, h.get? b = some u → h'.get? b = some u) : Un fs ex H H h h' :=
  ⟨fun b ob q _ _ _ => k b ob q, fun b ob q _ _ _ => ⟨ob.slots, k b ob q⟩, fun _ _ _ n _ => n, fun b ob q _ => ⟨ob, k b ob q⟩, fun _ _ q => q, fun _ _ _ q => q, fun _ ps q => ⟨#[], by rw [q]; simp⟩⟩
theorem Un.refl : Un fs ex H H h h := Un.kept fun _ _ q => q
theorem Un.laid (k : ∀ b u, h.get? b = some u → h'.get? b = some u) (hp : h.objs.size ≤ a) (hn : H a = none) : Un fs ex H (upd H a o) h h' where
  keep := fun b u q _ _ _ => k b u q
  slot := fun b u q _ _ _ => ⟨u.slots, k b u q⟩
  free := fun b u q n _ => by rw [upd_ne (Nat.ne_of_lt (Nat.lt_of_lt_of_le (Heap.lt_size q) hp))]; exact n
  there := fun b u q _ => ⟨u, k b u q⟩
  tups := fun b xs q => by rw [upd_ne (ne_of_none q hn)]; exact q
  frzs := fun b u xs q => by rw [upd_ne (ne_of_none q hn)]; exact q
  tbls := fun b ps q => ⟨#[], by rw [upd_ne (ne_of_none q hn), q]; simp⟩
theorem Un.write (mu : Mut (H x)) (he : e = x ∨ H e = some (.own x)) (k : ∀ b u, b ≠ e → h.get? b = some u → h'.get? b = some u) (heo : ∃ u, h'.get? e = some u) : Un fs ex H (upd H x o) h h' := by
  have hx : ∀ b, H b = none → b ≠ x := fun b n z => by subst z; rw [n] at mu; exact mu
  have hb : ∀ b, H b = none → b ≠ e := fun b n z => by
    subst z
    rcases he with r | r
    · exact hx b n r
    · rw [n] at r; cases r
  have hm : ∀ b u, H b = some u → ¬ Mut (some u) → b ≠ x := fun b u q nm z => by subst z; rw [q] at mu; exact nm mu
  refine ⟨fun b u q n _ _ => k b u (hb b n) q, fun b u q n _ _ => ⟨u.slots, k b u (hb b n) q⟩, fun b u q n _ => by rw [upd_ne (hx b n)]; exact n, fun b u q _ => ?_,
    fun b xs q => by rw [upd_ne (hm b _ q fun z => z)]; exact q, fun b u xs q => by rw [upd_ne (hm b _ q fun z => z)]; exact q, fun b ps q => ⟨#[], by rw [upd_ne (hm b _ q fun z => z), q]; simp⟩⟩
  by_cases hbe : b = e
  · subst hbe; exact heo
  · exact ⟨u, k b u hbe q⟩
end

/-! ### the heap without what is tracked -/
def trk (h : Heap) (H : Hp) : List Addr := (List.range h.objs.size).filter fun a => (H a).isSome
def hidT (h : Heap) (H : Hp) : Heap := PySem.W.hideAll h (trk h H)
theorem hidT_size (h : Heap) (H : Hp) : (hidT h H).objs.size = h.objs.size := PySem.W.hideAll_size _ _
theorem hidT_get {h : Heap} {H : Hp} {b : Addr} {o : Obj} (e : h.get? b = some o) (n : H b = none) : (hidT h H).get? b = some o :=
  PySem.W.hideAll_get _ e fun hm => by
    have q : (H b).isSome = true := (List.mem_filter.mp hm).2
    rw [n] at q; simp at q
theorem of_hidT {h : Heap} {H : Hp} {b : Addr} {o : Obj} (e : (hidT h H).get? b = some o) : h.get? b = some o ∧ H b = none := by
  have e' : h.get? b = some o := PySem.W.of_hideAll (trk h H) e
  refine ⟨e', ?_⟩
  cases q : H b with
  | none => rfl
  | some x =>
    have hm : b ∈ trk h H := List.mem_filter.mpr ⟨List.mem_range.mpr (Heap.lt_size e'), by simp [q]⟩
    have z : (hidT h H).get? b = none := PySem.W.hideAll_none (trk h H) hm
    rw [z] at e; cases e

/-! ### OpenK's ledger, filled with every new object but one -/
end L2

namespace L2
open PySem PySem.Spec PyProof.Rows

/-- the module's facts, over the base: the heap at the law's entry without what is tracked there -/
structure Mod (K : PySem.W.Frag) (mg : Str → Option Value) (base : Heap) : Prop where
  kin : K.In base
  glob : base.Ns mainGlobals mg
  blt : ∃ mb, base.Ns builtinsNs mb ∧ ∀ x : Str, x ≠ "__name__" → mb x = bootBuiltins x
  nolimit : base.NoLimit

/-- the context: a def's body (or a comprehension's block) running. base: fixed through the whole law; s₀, H₀: the entry; outer: the frames whose slots others may change (a def's callers); stack: all frames that run;
   ex: iterators that were made ahead of the entry and are walked here (a comprehension's); fn: the names whose cells were made at the entry (a def: all; a comprehension's block: its own); calm: not within an except suite; pn: pins that every state bears; xe: what is wanted of an exception that leaves the code -/
structure Cx where
  prog : Program
  w : World
  K : PySem.W.Frag
  mg : Str → Option Value
  base : Heap
  A : Around
  N : List Str
  s₀ : Shared
  H₀ : Hp
  env : Env
  outer : List Env
  stack : List Env
  ex : List Addr
  fn : Str → Bool
  calm : Bool
  pn : List (Addr × Obj)
  xe : Value → Shared → Prop
/-- the callers' frames -/
def frs (l : List Env) : List Addr := l.filterMap (·.frame)
abbrev Cx.fs (X : Cx) : List Addr := frs X.outer

def Vis (sc : Scope) (x : Str) : Prop := sc.names.lookup x = some .local ∨ sc.names.lookup x = some .cell ∨ sc.names.lookup x = some .free
def Loc (sc : Scope) (x : Str) : Prop := sc.names.lookup x = some .local ∨ sc.names.lookup x = some .cell
def Look (env : Env) (h : Heap) (m : Str → Option Value) (x : Str) (u : Value) : Prop :=
  (env.kindOf x = some .local ∧ m x = some u) ∨ ((env.kindOf x = some .cell ∨ env.kindOf x = some .free) ∧ ∃ c, env.cells.lookup x = some c ∧ h.IsCell c (some u))

structure Cx.Ok (X : Cx) : Prop where
  mod : Mod X.K X.mg X.base
  kind : X.env.scope.kind = .function
  glob : X.env.globals = mainGlobals
  blt : X.env.builtins = builtinsNs
  above : X.s₀.heap.objs.size ≤ X.env.locals
  inj : ∀ x y c, X.env.cells.lookup x = some c → X.env.cells.lookup y = some c → x = y
  has : ∀ x, (X.env.kindOf x = some .cell ∨ X.env.kindOf x = some .free) → ∃ c, X.env.cells.lookup x = some c
  cab : ∀ x c, X.fn x = true → X.env.cells.lookup x = some c → X.s₀.heap.objs.size ≤ c
  hd : X.calm = true → X.A.handled = none
  frames : X.A.frames = some X.stack
  stk : X.stack = X.outer ∨ (X.stack = X.env :: X.outer ∧ X.env.frame = some X.env.locals)
  exf : ∀ b ∈ X.ex, b ≠ X.env.locals ∧ ∀ x c, X.env.cells.lookup x = some c → c ≠ b
  bs : ∀ b o, X.base.get? b = some o → X.s₀.heap.get? b = some o ∧ X.H₀ b = none
  bsz : X.base.objs.size ≤ X.s₀.heap.objs.size
  noex : ∀ b o, X.base.get? b = some o → b ∉ X.ex
  exfs : ∀ b ∈ X.ex, b ∉ X.fs
  funs : X.s₀.heap.FunFrames X.base X.outer
  frf : ∀ b ∈ X.fs, X.H₀ b = none

structure Inv (X : Cx) (pins : List (Addr × Obj)) (σ : List (Option V)) (H : Hp) (s : Shared) : Prop where
  ok : X.Ok
  os : s.os = X.s₀.os
  bare : AllBare s.gens
  base : Un X.fs X.ex X.H₀ H X.s₀.heap s.heap
  loc : ∃ m, s.heap.Ns X.env.locals m ∧ ∀ (i : Nat) (x : Str) (v : V), X.N[i]? = some x → σ[i]? = some (some v) → Vis X.env.scope x → ∃ u, RelV v u ∧ Look X.env s.heap m x u
  cell : ∀ x c, X.env.cells.lookup x = some c → ∃ v, s.heap.IsCell c v
  free : H X.env.locals = none
  freeC : ∀ x c, X.env.cells.lookup x = some c → H c = none
  pin : ∀ p ∈ X.pn ++ pins, s.heap.get? p.1 = some p.2 ∧ H p.1 = none ∧ p.1 ≠ X.env.locals ∧ p.1 ∉ X.fs ∧ ∀ v, p.2.data ≠ .cell v
  hok : HOk X.prog X.w H s.heap
  len : σ.length = X.N.length

section
variable {X : Cx} {pins : List (Addr × Obj)} {σ : List (Option V)} {H H' : Hp} {s : Shared} {h' : Heap}

theorem Cx.Ok.nofr (ok : X.Ok) {b : Addr} {o : Obj} (e : X.base.get? b = some o) : b ∉ X.fs := fun hb => by
  have := (ok.funs.mem hb).1
  rw [e] at this; cases this
theorem Inv.bs (I : Inv X pins σ H s) : ∀ b o, X.base.get? b = some o → s.heap.get? b = some o ∧ H b = none := fun b o e =>
  ⟨I.base.keep b o (I.ok.bs b o e).1 (I.ok.bs b o e).2 (I.ok.nofr e) (I.ok.noex b o e), I.base.free b o (I.ok.bs b o e).1 (I.ok.bs b o e).2 (I.ok.noex b o e)⟩
theorem Inv.bk (I : Inv X pins σ H s) : ∀ b o, X.base.get? b = some o → s.heap.get? b = some o := fun b o e => (I.bs b o e).1
theorem Inv.mod (I : Inv X pins σ H s) : Mod X.K X.mg X.base := I.ok.mod
theorem Inv.kIn (I : Inv X pins σ H s) : X.K.In s.heap := I.ok.mod.kin.keeps I.bk
theorem Inv.lt (I : Inv X pins σ H s) : X.env.locals < s.heap.objs.size := let ⟨_, hn, _⟩ := I.loc; hn.lt
theorem Inv.sz (I : Inv X pins σ H s) : X.s₀.heap.objs.size ≤ s.heap.objs.size := Nat.le_trans I.ok.above (Nat.le_of_lt I.lt)
theorem Inv.nofs (I : Inv X pins σ H s) {a : Addr} (h : s.heap.objs.size ≤ a) : a ∉ X.fs := fun hb => by
  obtain ⟨_, o, ho, _⟩ := I.ok.funs.mem hb
  exact absurd (Nat.lt_of_lt_of_le (Heap.lt_size ho) (Nat.le_trans I.sz h)) (Nat.lt_irrefl _)
theorem Inv.cne (I : Inv X pins σ H s) : ∀ x c, X.env.cells.lookup x = some c → c ≠ X.env.locals := fun x c e z => by
  obtain ⟨v, o, ho, hd⟩ := I.cell x c e
  obtain ⟨m, ⟨o', es, ep, ho', hd', _⟩, _⟩ := I.loc
  rw [z, ho'] at ho; cases ho; rw [hd'] at hd; cases hd
theorem Inv.funs (I : Inv X pins σ H s) : s.heap.FunFrames X.base X.outer := by
  have all : ∀ (l : List Env), (∀ b ∈ frs l, b ∈ X.fs) → X.s₀.heap.FunFrames X.base l → s.heap.FunFrames X.base l := by
    intro l
    induction l with
    | nil => intro _ _; trivial
    | cons env r ih =>
      intro hs hl
      obtain ⟨hk, ⟨L, o, hf, hn, ho, hd⟩, hr⟩ := hl
      have hL : L ∈ X.fs := hs L (by unfold frs; rw [List.filterMap_cons, hf]; exact List.mem_cons_self)
      obtain ⟨sl, e⟩ := I.base.slot L o ho (I.ok.frf L hL) hL fun z => I.ok.exfs L z hL
      exact ⟨hk, ⟨L, _, hf, hn, e, hd⟩, ih (fun b hb => hs b (by unfold frs; rw [List.filterMap_cons, hf]; exact List.mem_cons_of_mem _ hb)) hr⟩
  exact all X.outer (fun _ hb => hb) I.ok.funs

/-- the frames that run, for a call -/
theorem Inv.stack (I : Inv X pins σ H s) : s.heap.FunFrames X.base X.stack := by
  rcases I.ok.stk with e | ⟨e, hf⟩
  · rw [e]; exact I.funs
  · rw [e]
    obtain ⟨m, hn, _⟩ := I.loc
    refine .cons (by rw [I.ok.kind]; decide) hf hn ?_ I.funs
    exact Heap.get?_none_of_le (Nat.le_trans I.ok.bsz I.ok.above)
theorem Inv.stkSub (I : Inv X pins σ H s) : ∀ b ∈ frs X.stack, b ∈ X.env.locals :: X.fs := fun b hb => by
  rcases I.ok.stk with e | ⟨e, hf⟩
  · rw [e] at hb; exact List.mem_cons_of_mem _ hb
  · rw [e] at hb
    unfold frs at hb
    rw [List.filterMap_cons, hf] at hb
    exact hb
theorem Inv.stkFree (I : Inv X pins σ H s) : ∀ b ∈ frs X.stack, H b = none := fun b hb => by
  rcases List.mem_cons.mp (I.stkSub b hb) with e | hb
  · rw [e]; exact I.free
  · obtain ⟨_, o, ho, _⟩ := I.ok.funs.mem hb
    exact I.base.free b o ho (I.ok.frf b hb) fun z => I.ok.exfs b z hb

/-- THE STEP: the untracked objects but the frame and the records at ch are kept (the callers' frames up to slots), the frame's map is kept, the new abstract heap is held -/
theorem Inv.step {g' : Array GenState} {t' : Nat} {d' : Drawn} {ch : List Addr} (I : Inv X pins σ H s)
    (hch : ∀ b ∈ ch, (b ∈ X.ex ∨ X.s₀.heap.objs.size ≤ b) ∧ b ≠ X.env.locals ∧ (∀ x c, X.env.cells.lookup x = some c → c ≠ b) ∧ ∀ p ∈ X.pn ++ pins, p.1 ≠ b)
    (keep : ∀ b o, b ≠ X.env.locals → b ∉ X.fs → b ∉ ch → s.heap.get? b = some o → H b = none → h'.get? b = some o)
    (slot : ∀ b o, b ≠ X.env.locals → b ∈ X.fs → b ∉ ch → s.heap.get? b = some o → H b = none → ∃ sl, h'.get? b = some { o with slots := sl }) (free : ∀ b o, b ∉ ch → s.heap.get? b = some o → H b = none → H' b = none)
    (there : ∀ b o, b ∉ ch → s.heap.get? b = some o → ∃ o', h'.get? b = some o')
    (tups : ∀ b xs, H b = some (.tup xs) → H' b = some (.tup xs)) (frzs : ∀ b o u, H b = some (.frz o u) → H' b = some (.frz o u)) (tbls : ∀ b ps, H b = some (.tbl ps) → ∃ more, H' b = some (.tbl (ps ++ more)))
    (ns : ∀ m, s.heap.Ns X.env.locals m → h'.Ns X.env.locals m) (hok : HOk X.prog X.w H' h') (hg : AllBare g') :
    Inv X pins σ H' { s with heap := h', gens := g', drawn := d', toks := t' } := by
  have neL : ∀ b o, X.s₀.heap.get? b = some o → b ≠ X.env.locals := fun b o e => Nat.ne_of_lt (Nat.lt_of_lt_of_le (Heap.lt_size e) I.ok.above)
  have neC : ∀ b o, X.s₀.heap.get? b = some o → b ∉ X.ex → b ∉ ch := fun b o e hx hb => by
    rcases (hch b hb).1 with z | z
    · exact hx z
    · exact absurd (Nat.lt_of_lt_of_le (Heap.lt_size e) z) (Nat.lt_irrefl _)
  have cellK : ∀ x c, X.env.cells.lookup x = some c → ∀ v, s.heap.IsCell c v → h'.IsCell c v := fun x c e v ⟨o, ho, hd⟩ => by
    have nch : c ∉ ch := fun z => (hch c z).2.2.1 x c e rfl
    by_cases hc : c ∈ X.fs
    · obtain ⟨sl, q⟩ := slot c o (I.cne x c e) hc nch ho (I.freeC x c e)
      exact ⟨_, q, hd⟩
    · exact ⟨o, keep c o (I.cne x c e) hc nch ho (I.freeC x c e), hd⟩
  refine ⟨I.ok, I.os, hg, ⟨fun b o e n hb hx => ?_, fun b o e n hb hx => ?_, fun b o e n hx => ?_, fun b o e hx => ?_, fun b xs e => tups b xs (I.base.tups b xs e), fun b o xs e => frzs b o xs (I.base.frzs b o xs e), fun b ps e => ?_⟩, ?_, fun x c e => ?_, ?_, fun x c e => ?_, fun p hp => ?_, hok, I.len⟩
  · exact keep b o (neL b o e) hb (neC b o e hx) (I.base.keep b o e n hb hx) (I.base.free b o e n hx)
  · obtain ⟨sl, e1⟩ := I.base.slot b o e n hb hx
    obtain ⟨sl', e2⟩ := slot b _ (neL b o e) hb (neC b o e hx) e1 (I.base.free b o e n hx)
    exact ⟨sl', e2⟩
  · obtain ⟨o', e1⟩ := I.base.there b o e hx
    exact free b o' (neC b o e hx) e1 (I.base.free b o e n hx)
  · obtain ⟨o', e1⟩ := I.base.there b o e hx
    exact there b o' (neC b o e hx) e1
  · obtain ⟨m1, e1⟩ := I.base.tbls b ps e
    obtain ⟨m2, e2⟩ := tbls b _ e1
    exact ⟨m1 ++ m2, by rw [e2, Array.append_assoc]⟩
  · obtain ⟨m, hn, hl⟩ := I.loc
    refine ⟨m, ns m hn, fun i x v e1 e2 e3 => ?_⟩
    obtain ⟨u, r, l⟩ := hl i x v e1 e2 e3
    refine ⟨u, r, ?_⟩
    rcases l with l | ⟨k, c, e, z⟩
    · exact .inl l
    · exact .inr ⟨k, c, e, cellK x c e _ z⟩
  · obtain ⟨v, z⟩ := I.cell x c e
    exact ⟨v, cellK x c e v z⟩
  · obtain ⟨m, ⟨o, _, _, ho, _⟩, _⟩ := I.loc
    exact free _ o (fun z => (hch _ z).2.1 rfl) ho I.free
  · obtain ⟨v, o, ho, hd⟩ := I.cell x c e
    exact free c o (fun z => (hch c z).2.2.1 x c e rfl) ho (I.freeC x c e)
  · obtain ⟨e, n, ne, nf, d⟩ := I.pin p hp
    have nch : p.1 ∉ ch := fun z => (hch p.1 z).2.2.2 p hp rfl
    exact ⟨keep p.1 p.2 ne nf nch e n, free p.1 p.2 nch e n, ne, nf, d⟩
/-- .. where the frame's own object is kept too -/
theorem Inv.un {t' : Nat} (I : Inv X pins σ H s) (u : Un X.fs [] H H' s.heap h') (hok : HOk X.prog X.w H' h') : Inv X pins σ H' { s with heap := h', toks := t' } := by
  obtain ⟨m, ⟨o, es, ep, ho, r⟩, _⟩ := id I.loc
  obtain ⟨sl, hL⟩ := u.any ho I.free (by simp)
  exact I.step (g' := s.gens) (d' := s.drawn) (ch := []) (fun _ z => nomatch z) (fun b o _ hb _ e n => u.keep b o e n hb (by simp)) (fun b o _ hb _ e n => u.slot b o e n hb (by simp)) (fun b o _ e n => u.free b o e n (by simp)) (fun b o _ e => u.there b o e (by simp)) u.tups u.frzs u.tbls (fun m' hm => by
    obtain ⟨o', es', ep', ho', r'⟩ := hm
    rw [ho] at ho'; cases ho'
    exact ⟨_, es', ep', hL, r'⟩) hok I.bare
/-- behind a call (or a comprehension's block): the slots of this frame may have changed too, the records at ch may have turned -/
theorem Inv.call {g' : Array GenState} {t' : Nat} {d' : Drawn} {ch : List Addr} (I : Inv X pins σ H s) (u : Un (frs X.stack) ch H H' s.heap h') (hok : HOk X.prog X.w H' h') (hg : AllBare g')
    (hch : ∀ b ∈ ch, (b ∈ X.ex ∨ X.s₀.heap.objs.size ≤ b) ∧ b ≠ X.env.locals ∧ (∀ x c, X.env.cells.lookup x = some c → c ≠ b) ∧ ∀ p ∈ X.pn ++ pins, p.1 ≠ b) :
    Inv X pins σ H' { s with heap := h', gens := g', drawn := d', toks := t' } := by
  obtain ⟨m, ⟨o, es, ep, ho, r⟩, _⟩ := id I.loc
  obtain ⟨sl, hL⟩ := u.any ho I.free fun z => (hch _ z).2.1 rfl
  exact I.step (ch := ch) hch (fun b o hL hb hc e n => u.keep b o e n (fun z => (List.mem_cons.mp (I.stkSub b z)).elim hL hb) hc) (fun b o _ _ hc e n => u.any e n hc) (fun b o hc e n => u.free b o e n hc) (fun b o hc e => u.there b o e hc) u.tups u.frzs u.tbls (fun m' hm => by
    obtain ⟨o', es', ep', ho', r'⟩ := hm
    rw [ho] at ho'; cases ho'
    exact ⟨_, es', ep', hL, r'⟩) hok hg
/-- an untracked record of ours (an iterator) has turned -/
theorem Inv.turned {t' : Nat} {it : Addr} (I : Inv X pins σ H s) (k : ∀ b o, b ≠ it → s.heap.get? b = some o → h'.get? b = some o) (hn : H it = none) (hL : it ≠ X.env.locals)
    (h1 : it ∈ X.ex ∨ X.s₀.heap.objs.size ≤ it) (h2 : ∀ x c, X.env.cells.lookup x = some c → c ≠ it) (h3 : ∀ p ∈ X.pn ++ pins, p.1 ≠ it) : Inv X pins σ H { s with heap := h', toks := t' } := by
  have nit : ∀ b u, H b = some u → b ≠ it := fun b u e z => by rw [z, hn] at e; cases e
  refine I.step (g' := s.gens) (d' := s.drawn) (ch := [it]) (fun b hb => ?_) (fun b o _ _ hc e _ => k b o (fun z => hc (by simp [z])) e) (fun b o _ _ hc e _ => ⟨o.slots, k b o (fun z => hc (by simp [z])) e⟩) (fun _ _ _ _ n => n)
    (fun b o hc e => ⟨o, k b o (fun z => hc (by simp [z])) e⟩) (fun _ _ e => e) (fun _ _ _ e => e) (fun b ps e => ⟨#[], by rw [e]; simp⟩) (fun m hm => ?_) (fun b u e => ?_) I.bare
  · have e : b = it := by simpa using hb
    subst e
    exact ⟨h1, hL, h2, h3⟩
  · obtain ⟨o, es, ep, ho, r⟩ := hm
    exact ⟨o, es, ep, k _ o (Ne.symm hL) ho, r⟩
  · refine (I.hok b u e).stay (fun c v hc q => k c v ?_ q) (fun _ q => q) fun _ _ q => q
    rcases hc with z | z
    · rw [z]; exact nit b u e
    · exact nit c _ z
theorem Inv.tok (I : Inv X pins σ H s) (t : Nat) : Inv X pins σ H { s with toks := t } := I.un (h' := s.heap) (t' := t) Un.refl I.hok
/-- all objects kept -/
theorem Inv.kept {t' : Nat} (I : Inv X pins σ H s) (k : ∀ b u, s.heap.get? b = some u → h'.get? b = some u) : Inv X pins σ H { s with heap := h', toks := t' } := I.un (Un.kept k) (I.hok.kept k)
/-- a new object laid and tracked -/
theorem Inv.laid {a : Addr} {o : HO} {t' : Nat} (I : Inv X pins σ H s) (k : ∀ b u, s.heap.get? b = some u → h'.get? b = some u) (hp : s.heap.objs.size ≤ a) (new : ObjOk X.prog X.w (upd H a o) h' a o) :
    Inv X pins σ (upd H a o) { s with heap := h', toks := t' } := I.un (Un.laid k hp (I.hok.fresh hp)) (I.hok.laid k hp new)
/-- an object written -/
theorem Inv.write {x e : Addr} {o : HO} {t' : Nat} (I : Inv X pins σ H s) (mu : Mut (H x)) (he : e = x ∨ H e = some (.own x)) (k : ∀ b u, b ≠ e → s.heap.get? b = some u → h'.get? b = some u) (heo : ∃ u, h'.get? e = some u)
    (new : ObjOk X.prog X.w (upd H x o) h' x o) : Inv X pins σ (upd H x o) { s with heap := h', toks := t' } := I.un (Un.write mu he k heo) (I.hok.write mu he k heo new)
theorem Inv.pins_of {pins' : List (Addr × Obj)} (I : Inv X pins σ H s) (h : ∀ p ∈ pins', s.heap.get? p.1 = some p.2 ∧ H p.1 = none ∧ p.1 ≠ X.env.locals ∧ p.1 ∉ X.fs ∧ ∀ v, p.2.data ≠ .cell v) : Inv X pins' σ H s :=
  ⟨I.ok, I.os, I.bare, I.base, I.loc, I.cell, I.free, I.freeC, fun p hp => (List.mem_append.mp hp).elim (fun z => I.pin p (List.mem_append_left _ z)) (h p), I.hok, I.len⟩

theorem nodup_ix {N : List Str} (hN : N.Nodup) {i j : Nat} {x : Str} (a : N[i]? = some x) (b : N[j]? = some x) : i = j := by
  obtain ⟨h1, e1⟩ := List.getElem?_eq_some_iff.mp a
  obtain ⟨h2, e2⟩ := List.getElem?_eq_some_iff.mp b
  exact (List.getElem_inj hN).mp (e1.trans e2.symm)

/-- a name is stored; what changed -/
theorem store_ok2 {M : Model} {A : Around} {E : Value → Shared → Prop} {i : Nat} {x : Str} {v : V} {u : Value} {Q : Unit → Shared → Prop} (I : Inv X pins σ H s) (hN : X.N.Nodup) (hi : X.N[i]? = some x) (hx : Loc X.env.scope x) (r : RelV v u)
    (h : ∀ s', Inv X pins (σ.set i (some v)) H s' → (∃ a, Heap.SameBut a s.heap s'.heap ∧ (a = X.env.locals ∨ X.env.cells.lookup x = some a)) → Q () s') (hf : X.fn x = true ∨ X.env.scope.names.lookup x = some .local := by first | exact .inl rfl | exact .inr rfl | assumption) : wpAny M A (storeName X.env x u) Q E s := by
  obtain ⟨m, hn, hl⟩ := id I.loc
  have hcls : (X.env.scope.kind == .class || (X.env.scope.kind == .module && X.env.locals != X.env.globals)) = false := by rw [I.ok.kind]; rfl
  have hiσ : i < σ.length := by rw [I.len]; exact (List.getElem?_eq_some_iff.mp hi).1
  have cne := I.cne
  have tracked : ∀ {a : Addr} {h' : Heap}, (∃ o, s.heap.get? a = some o ∧ H a = none) → Heap.SameBut a s.heap h' → HOk X.prog X.w H h' := fun {a h'} ha hs b ob e => by
    obtain ⟨_, _, hfree⟩ := ha
    refine (I.hok b ob e).stay (fun c w' hc q => (hs.2 c ?_).trans q) (fun _ q => q) fun _ _ q => q
    rintro rfl
    rcases hc with rfl | hc
    · rw [hfree] at e; cases e
    · rw [hfree] at hc; cases hc
  rcases hx with hk | hk
  · refine wpAny_storeName_local hk hn (fun h' hn' hs => ?_) hcls
    obtain ⟨oL, _, _, hoL, _⟩ := id hn
    refine h _ ⟨I.ok, I.os, I.bare, ⟨fun b o e n hb hx => ?_, fun b o e n hb hx => ?_, I.base.free, fun b o e hx => ?_, I.base.tups, I.base.frzs, I.base.tbls⟩, ⟨_, hn', fun j y v' e1 e2 e3 => ?_⟩, fun y c e => ?_, I.free, I.freeC, fun p hp => ?_, tracked ⟨oL, hoL, I.free⟩ hs, by simpa using I.len⟩ ⟨_, hs, .inl rfl⟩
    · exact (hs.2 b (Nat.ne_of_lt (Nat.lt_of_lt_of_le (Heap.lt_size e) I.ok.above))).trans (I.base.keep b o e n hb hx)
    · obtain ⟨sl, e1⟩ := I.base.slot b o e n hb hx
      exact ⟨sl, (hs.2 b (Nat.ne_of_lt (Nat.lt_of_lt_of_le (Heap.lt_size e) I.ok.above))).trans e1⟩
    · obtain ⟨o', e1⟩ := I.base.there b o e hx
      exact ⟨o', (hs.2 b (Nat.ne_of_lt (Nat.lt_of_lt_of_le (Heap.lt_size e) I.ok.above))).trans e1⟩
    · by_cases hj : j = i
      · subst hj
        rw [hi] at e1; cases e1
        rw [List.getElem?_set_self hiσ] at e2
        cases e2
        exact ⟨u, r, .inl ⟨hk, by simp⟩⟩
      · rw [List.getElem?_set_ne (Ne.symm hj)] at e2
        obtain ⟨u', r', q⟩ := hl j y v' e1 e2 e3
        refine ⟨u', r', ?_⟩
        rcases q with ⟨k, e⟩ | ⟨k, c, e, z⟩
        · refine .inl ⟨k, ?_⟩
          have : y ≠ x := fun e => hj (nodup_ix hN e1 (e ▸ hi))
          simp [this, e]
        · exact .inr ⟨k, c, e, z.sameBut hs (cne y c e)⟩
    · obtain ⟨w', z⟩ := I.cell y c e
      exact ⟨w', z.sameBut hs (cne y c e)⟩
    · obtain ⟨e, n, ne, nf, d⟩ := I.pin p hp
      exact ⟨(hs.2 p.1 ne).trans e, n, ne, nf, d⟩
  · have hfn : X.fn x = true := by
      rcases hf with z | z
      · exact z
      · rw [z] at hk; cases hk
    obtain ⟨c, hc⟩ := I.ok.has x (.inl hk)
    obtain ⟨w', z⟩ := I.cell x c hc
    refine wpAny_storeName_cell I.ok.kind hk hc z (fun h' hc' hs => ?_)
    obtain ⟨oc, hoc, hocd⟩ := id z
    refine h { s with heap := h' } ⟨I.ok, I.os, I.bare, ⟨fun b o e n hb hx => ?_, fun b o e n hb hx => ?_, I.base.free, fun b o e hx => ?_, I.base.tups, I.base.frzs, I.base.tbls⟩, ⟨m, hn.sameBut hs (Ne.symm (cne x c hc)), fun j y v' e1 e2 e3 => ?_⟩, fun y c' e => ?_, I.free, I.freeC, fun p hp => ?_, tracked ⟨oc, hoc, I.freeC x c hc⟩ hs, by simpa using I.len⟩ ⟨c, hs, .inr hc⟩
    · exact (hs.2 b (Nat.ne_of_lt (Nat.lt_of_lt_of_le (Heap.lt_size e) (I.ok.cab x c hfn hc)))).trans (I.base.keep b o e n hb hx)
    · obtain ⟨sl, e1⟩ := I.base.slot b o e n hb hx
      exact ⟨sl, (hs.2 b (Nat.ne_of_lt (Nat.lt_of_lt_of_le (Heap.lt_size e) (I.ok.cab x c hfn hc)))).trans e1⟩
    · obtain ⟨o', e1⟩ := I.base.there b o e hx
      exact ⟨o', (hs.2 b (Nat.ne_of_lt (Nat.lt_of_lt_of_le (Heap.lt_size e) (I.ok.cab x c hfn hc)))).trans e1⟩
    · by_cases hj : j = i
      · subst hj
        rw [hi] at e1; cases e1
        rw [List.getElem?_set_self hiσ] at e2
        cases e2
        exact ⟨u, r, .inr ⟨.inl hk, c, hc, hc'⟩⟩
      · rw [List.getElem?_set_ne (Ne.symm hj)] at e2
        obtain ⟨u', r', q⟩ := hl j y v' e1 e2 e3
        refine ⟨u', r', ?_⟩
        rcases q with q | ⟨k, c', e, z'⟩
        · exact .inl q
        · refine .inr ⟨k, c', e, z'.sameBut hs ?_⟩
          rintro rfl
          exact hj (nodup_ix hN e1 (I.ok.inj _ _ _ e hc ▸ hi))
    · by_cases hcc : c' = c
      · subst hcc; exact ⟨_, hc'⟩
      · obtain ⟨w2, z2⟩ := I.cell y c' e
        exact ⟨w2, z2.sameBut hs hcc⟩
    · obtain ⟨e, n, ne, nf, d⟩ := I.pin p hp
      refine ⟨(hs.2 p.1 ?_).trans e, n, ne, nf, d⟩
      intro q
      rw [q, hoc] at e
      have q' : oc = p.2 := Option.some.inj e
      exact d w' (by rw [← q']; exact hocd)
theorem store_ok {M : Model} {A : Around} {E : Value → Shared → Prop} {i : Nat} {x : Str} {v : V} {u : Value} {Q : Unit → Shared → Prop} (I : Inv X pins σ H s) (hN : X.N.Nodup) (hi : X.N[i]? = some x) (hx : Loc X.env.scope x) (r : RelV v u)
    (h : ∀ s', Inv X pins (σ.set i (some v)) H s' → Q () s') (hf : X.fn x = true ∨ X.env.scope.names.lookup x = some .local := by first | exact .inl rfl | exact .inr rfl | assumption) : wpAny M A (storeName X.env x u) Q E s :=
  store_ok2 I hN hi hx r (fun s' I' _ => h s' I') hf
/-- behind a call or a block, the state as it is -/
theorem Inv.call' {s' : Shared} {ch : List Addr} (I : Inv X pins σ H s) (ho : s'.os = s.os) (u : Un (frs X.stack) ch H H' s.heap s'.heap) (hok : HOk X.prog X.w H' s'.heap) (hg : AllBare s'.gens)
    (hch : ∀ b ∈ ch, (b ∈ X.ex ∨ X.s₀.heap.objs.size ≤ b) ∧ b ≠ X.env.locals ∧ (∀ x c, X.env.cells.lookup x = some c → c ≠ b) ∧ ∀ p ∈ X.pn ++ pins, p.1 ≠ b) : Inv X pins σ H' s' := by
  obtain ⟨h', g', d', t', o'⟩ := s'
  have e : o' = s.os := ho
  subst e
  exact I.call (g' := g') (t' := t') (d' := d') u hok hg hch
end

/-! ### the judgements -/
/-- an exception: its class, its own dict's address (where it has one), the abstract heap behind it -/
abbrev XK := Value → Option Addr → Hp → Prop
abbrev St := List (Option V)
abbrev VK := V → Hp → Prop
/-- an expression's reading; a test's; an argument list's -/
abbrev TE := St → Hp → VK → Prop
abbrev TT := St → Hp → (Bool → Hp → Prop) → Prop
abbrev TA := St → Hp → (List V → Hp → Prop) → Prop
/-- what is wanted behind a statement -/
structure Ends where
  nx : St → Hp → Prop
  rt : VK
  bk : St → Hp → Prop := fun _ _ => False
  ct : St → Hp → Prop := fun _ _ => False
abbrev TS := Ends → St → Hp → Prop

def EP (X : Cx) (pins : List (Addr × Obj)) (σ : St) (Q : VK) (u : Value) (s' : Shared) : Prop := ∃ v H', Inv X pins σ H' s' ∧ RelV v u ∧ Q v H'
def TP (X : Cx) (pins : List (Addr × Obj)) (σ : St) (Q : Bool → Hp → Prop) (b : Bool) (s' : Shared) : Prop := ∃ H', Inv X pins σ H' s' ∧ Q b H'
def AP (X : Cx) (pins : List (Addr × Obj)) (σ : St) (Q : List V → Hp → Prop) (us : List Value) (s' : Shared) : Prop := ∃ vs H', Inv X pins σ H' s' ∧ Vals vs us ∧ Q vs H'
def SP (X : Cx) (pins : List (Addr × Obj)) (D : Ends) (f : Flow) (s' : Shared) : Prop :=
  match f with
  | .next => ∃ σ' H', Inv X pins σ' H' s' ∧ D.nx σ' H'
  | .brk => ∃ σ' H', Inv X pins σ' H' s' ∧ D.bk σ' H'
  | .cont => ∃ σ' H', Inv X pins σ' H' s' ∧ D.ct σ' H'
  | .ret u => ∃ v σ' H', Inv X pins σ' H' s' ∧ RelV v u ∧ D.rt v H'

def PE (X : Cx) (e : Expr) (t : TE) : Prop :=
  ∀ (pins : List (Addr × Obj)) (s : Shared) (σ : St) (H : Hp) (Q : VK), Inv X pins σ H s → t σ H Q → wpAny (model X.prog X.w) X.A (eval e X.env) (EP X pins σ Q) X.xe s
def PT (X : Cx) (e : Expr) (t : TT) : Prop :=
  ∀ (pins : List (Addr × Obj)) (s : Shared) (σ : St) (H : Hp) (Q : Bool → Hp → Prop), Inv X pins σ H s → t σ H Q → wpAny (model X.prog X.w) X.A (isTrue e X.env (eval e X.env)) (TP X pins σ Q) X.xe s
/-- a test whatever its 'whole' is (and, or) -/
def PW (X : Cx) (e : Expr) (t : TT) : Prop :=
  ∀ (whole : Sem Value) (pins : List (Addr × Obj)) (s : Shared) (σ : St) (H : Hp) (Q : Bool → Hp → Prop), Inv X pins σ H s → t σ H Q → wpAny (model X.prog X.w) X.A (isTrue e X.env whole) (TP X pins σ Q) X.xe s
theorem PW.pt {X : Cx} {e : Expr} {t : TT} (h : PW X e t) : PT X e t := h _
/-- an argument list (no star), from the left -/
def PA (X : Cx) (es : List Expr) (t : TA) : Prop :=
  ∀ (pos : Pos) (pins : List (Addr × Obj)) (s : Shared) (σ : St) (H : Hp) (Q : List V → Hp → Prop), Inv X pins σ H s → t σ H Q → wpAny (model X.prog X.w) X.A (spliced (backTo pos (starEach es X.env))) (AP X pins σ Q) X.xe s
def PS (X : Cx) (st : Stmt) (t : TS) : Prop :=
  ∀ (pins : List (Addr × Obj)) (s : Shared) (σ : St) (H : Hp) (D : Ends), Inv X pins σ H s → t D σ H → wpAny (model X.prog X.w) X.A (exec st X.env) (SP X pins D) X.xe s
def PSs (X : Cx) (st : List Stmt) (t : TS) : Prop :=
  ∀ (pins : List (Addr × Obj)) (s : Shared) (σ : St) (H : Hp) (D : Ends), Inv X pins σ H s → t D σ H → wpAny (model X.prog X.w) X.A (execs st X.env) (SP X pins D) X.xe s
/-- weaken the end -/
theorem thn {α : Type} {t : Sem α} {Q Q' : α → Shared → Prop} {M : Model} {A : Around} {E : Value → Shared → Prop} {s : Shared} (h : wpAny M A t Q E s) (hQ : ∀ a s, Q a s → Q' a s) : wpAny M A t Q' E s := wpAny_mono h hQ fun _ _ x => x
end L2

namespace L2
open PySem PySem.Spec PyProof.Rows
section
variable {X : Cx}

/-! ### names and constants -/
def tVar (i : Nat) : TE := fun σ H Q => ∃ v, σ[i]? = some (some v) ∧ Q v H
def tC (v : V) : TE := fun _ H Q => Q v H
theorem pe_var {i : Nat} {x : Str} {pos : Pos} (hN : X.N[i]? = some x) (hv : Vis X.env.scope x) (hd : (x == ("__debug__" : Str)) = false := by decide) (hcd : (x == ("__classdict__" : Str)) = false := by decide) : PE X (.Name x pos) (tVar i) := by
  intro pins s σ H Q I h
  obtain ⟨v, e, h⟩ := h
  obtain ⟨m, hn, hl⟩ := I.loc
  obtain ⟨u, r, l⟩ := hl i x v hN e hv
  have fin : EP X pins σ Q u s := ⟨v, H, I, r, h⟩
  rcases l with ⟨hk, hm⟩ | ⟨hk, c, hc, hcell⟩
  · exact wpAny_Name (wpAny_loadName_local I.ok.kind hk hn hm fin) hd
  · rcases hk with hk | hk
    · exact wpAny_Name (wpAny_loadName_cell I.ok.kind hk hc hcell fin) hd
    · exact wpAny_Name (wpAny_loadName_free I.ok.kind hk hc hcell fin hcd) hd
theorem pe_int {i j pos} : PE X (.Constant (.int i) j pos) (tC (.int i)) := fun _ _ _ H _ I h => wpAny_Constant_int ⟨.int i, H, I.tok _, ⟨_, rfl⟩, h⟩
theorem pe_bl {b j pos} : PE X (.Constant (.bool b) j pos) (tC (.bl b)) := fun _ _ _ H _ I h => Constant_bool ⟨.bl b, H, I, rfl, h⟩
theorem pe_non {j pos} : PE X (.Constant .none j pos) (tC .non) := fun _ _ _ H _ I h => Constant_none ⟨.non, H, I, rfl, h⟩
theorem pe_str {x j pos} : PE X (.Constant (.str x) j pos) (tC (.str x)) := fun _ _ _ H _ I h => Calls.Constant_str ⟨.str x, H, I.tok _, ⟨_, rfl⟩, h⟩

/-- a global name of the def -/
def Gl (X : Cx) (x : Str) : Prop := X.env.kindOf x = some .globalImplicit
theorem ld_glob {E : Value → Shared → Prop} {pins : List (Addr × Obj)} {s : Shared} {σ : St} {H : Hp} {x : Str} {u : Value} {pos : Pos} {Q : Value → Shared → Prop} (I : Inv X pins σ H s) (hg : Gl X x) (hm : X.mg x = some u) (h : Q u s)
    (hd : (x == ("__debug__" : Str)) = false := by decide) : wpAny (model X.prog X.w) X.A (eval (.Name x pos) X.env) Q E s :=
  Calls.Name_function_global I.ok.kind hg (Calls.loadGlobal_global (by rw [I.ok.glob]; exact I.mod.glob.keeps I.bk) hm h) hd
theorem ld_blt {E : Value → Shared → Prop} {pins : List (Addr × Obj)} {s : Shared} {σ : St} {H : Hp} {x : Str} {u : Value} {pos : Pos} {Q : Value → Shared → Prop} (I : Inv X pins σ H s) (hg : Gl X x) (hm : X.mg x = none) (hv : bootBuiltins x = some u) (h : Q u s)
    (hn : x ≠ "__name__" := by decide) (hd : (x == ("__debug__" : Str)) = false := by decide) : wpAny (model X.prog X.w) X.A (eval (.Name x pos) X.env) Q E s := by
  obtain ⟨mb, h1, h2⟩ := I.mod.blt
  exact Calls.Name_function_global I.ok.kind hg (Calls.loadGlobal_builtin (by rw [I.ok.glob]; exact I.mod.glob.keeps I.bk) hm (by rw [I.ok.blt]; exact h1.keeps I.bk) ((h2 x hn).trans hv) h) hd
theorem pe_bltn {x : Str} {v : V} {u : Value} {pos : Pos} (hg : Gl X x) (hm : X.mg x = none) (hv : bootBuiltins x = some u) (r : RelV v u) (hn : x ≠ "__name__" := by decide) (hd : (x == ("__debug__" : Str)) = false := by decide) : PE X (.Name x pos) (tC v) :=
  fun _ _ _ H _ I h => ld_blt I hg hm hv ⟨v, H, I, r, h⟩ hn hd

/-! ### arithmetic -/
variable {a b : Expr} {ta tb : TE} {pos : Pos}
/-! ### comparisons -/
/-- a comparison as a value, as a test -/
def tB (t : TE) : TT := fun σ H Q => t σ H fun x H1 => ∃ c, x = .bl c ∧ Q c H1
/-- an expression whose value is a bool, as a test -/
theorem pt_val {e : Expr} {t : TE} (h : PE X e t) (he : ∀ whole, isTrue e X.env whole = (do let v ← whole; standAt e.pos; holding [v] (truthy v)) := by intro _; rfl) : PT X e (tB t) := by
  intro pins s σ H Q I hw
  refine isTrue_plain (thn (h pins s σ H _ I hw) fun v s1 ⟨x, H1, I1, r1, q1⟩ => ?_) (he _)
  obtain ⟨d, rfl, q⟩ := q1
  cases r1
  exact wpAny_truthy_bool ⟨H1, I1, q⟩

/-! ### and, or, not -/
variable {tA tB' : TT} {rest : List Expr}
def tAnd (t u : TT) : TT := fun σ H Q => t σ H fun c H1 => if c = true then u σ H1 Q else Q false H1
def tOr (t u : TT) : TT := fun σ H Q => t σ H fun c H1 => if c = true then Q true H1 else u σ H1 Q
def tNot (t : TT) : TT := fun σ H Q => t σ H fun c H1 => Q (!c) H1
theorem pw_and1 (ha : PT X a tA) : PW X (.BoolOp .And [a] pos) tA := by
  intro wh pins s σ H Q I h
  refine isTrue_and (thn (ha pins s σ H Q I h) fun c s1 e => ?_)
  cases c with
  | true => exact isTrue_and_nil e
  | false => exact e
theorem pw_or1 (ha : PT X a tA) : PW X (.BoolOp .Or [a] pos) tA := by
  intro wh pins s σ H Q I h
  refine isTrue_or (thn (ha pins s σ H Q I h) fun c s1 e => ?_)
  cases c with
  | false => exact isTrue_or_nil e
  | true => exact e
theorem pw_and (ha : PT X a tA) (hb : PW X (.BoolOp .And (b :: rest) pos) tB') : PW X (.BoolOp .And (a :: b :: rest) pos) (tAnd tA tB') := by
  intro wh pins s σ H Q I h
  refine isTrue_and (thn (ha pins s σ H _ I h) fun c s1 ⟨H1, I1, q1⟩ => ?_)
  cases c with
  | true => exact hb wh pins s1 σ H1 Q I1 q1
  | false => exact ⟨H1, I1, q1⟩
theorem pw_or (ha : PT X a tA) (hb : PW X (.BoolOp .Or (b :: rest) pos) tB') : PW X (.BoolOp .Or (a :: b :: rest) pos) (tOr tA tB') := by
  intro wh pins s σ H Q I h
  refine isTrue_or (thn (ha pins s σ H _ I h) fun c s1 ⟨H1, I1, q1⟩ => ?_)
  cases c with
  | true => exact ⟨H1, I1, q1⟩
  | false => exact hb wh pins s1 σ H1 Q I1 q1
theorem pt_not (ha : PT X a tA) : PT X (.UnaryOp .Not a pos) (tNot tA) := by
  intro pins s σ H Q I h
  exact isTrue_not (ha pins s σ H (fun c H1 => Q (!c) H1) I h)
/-- .. as values (bools) -/
def tAndV (ta tb : TE) : TE := fun σ H Q => ta σ H fun x H1 => ∃ c, x = .bl c ∧ if c = true then tb σ H1 Q else Q (.bl false) H1
def tNotV (ta : TE) : TE := fun σ H Q => ta σ H fun x H1 => ∃ c, x = .bl c ∧ Q (.bl (!c)) H1
theorem pe_one {op} {t : TE} (h : PE X a t) : PE X (.BoolOp op [a] pos) t := fun pins s σ H Q I hw => BoolOp_one (h pins s σ H Q I hw)
theorem pe_and (ha : PE X a ta) (hb : PE X (.BoolOp .And (b :: rest) pos) tb) : PE X (.BoolOp .And (a :: b :: rest) pos) (tAndV ta tb) := by
  intro pins s σ H Q I h
  refine BoolOp_and (thn (ha pins s σ H _ I h) fun v s1 ⟨x, H1, I1, r1, q1⟩ => ?_)
  obtain ⟨c, rfl, q1⟩ := q1
  cases r1
  refine wpAny_truthy_bool ?_
  cases c with
  | true => exact hb pins s1 σ H1 Q I1 q1
  | false => exact ⟨.bl false, H1, I1, rfl, q1⟩
theorem pe_not (ha : PE X a ta) : PE X (.UnaryOp .Not a pos) (tNotV ta) := by
  intro pins s σ H Q I h
  refine UnaryOp_ (thn (ha pins s σ H _ I h) fun v s1 ⟨x, H1, I1, r1, q1⟩ => ?_)
  obtain ⟨c, rfl, q1⟩ := q1
  cases r1
  exact not_of (wpAny_truthy_bool ⟨.bl (!c), H1, I1, rfl, q1⟩)
end
end L2

namespace L2
open PySem PySem.Spec PyProof.Rows

/-! ### a list, a tuple that is read: tracked, frozen, or an object of the module -/
def SqL (K : PySem.W.Frag) (H : Hp) (a : Addr) (xs : List V) : Prop :=
  Rd H a (.lst xs) ∨
    ∃ (o : Obj) (its : Array Value) (n : Nat), K.lookup a = some o ∧ o.cls = .type "list" ∧ o.dict = none ∧ o.data = .seq its n ∧ its.size ≤ sizeLine ∧ Vals xs its.toList
def SqT (K : PySem.W.Frag) (H : Hp) (a : Addr) (xs : List V) : Prop :=
  Rd H a (.tup xs) ∨
    ∃ (o : Obj) (its : Array Value) (n : Nat), K.lookup a = some o ∧ o.cls = .type "tuple" ∧ o.data = .seq its n ∧ its.size ≤ sizeLine ∧ Vals xs its.toList
def absV : Value → Option V
  | .none => some .non
  | .bool b => some (.bl b)
  | .int i _ => some (.int i)
  | .str x _ => some (.str x)
  | .bytes b _ => some (.byt b)
  | .float b _ => some (.flt b)
  | .ref a => some (.ref a)
  | .type n => some (.ty n)
  | _ => none
theorem RelV.abs {x : V} {u : Value} (r : RelV x u) : absV u = some x := by
  cases x with
  | non => cases r; rfl
  | bl _ => cases r; rfl
  | int _ => obtain ⟨t, rfl⟩ := r; rfl
  | str _ => obtain ⟨t, rfl⟩ := r; rfl
  | byt _ => obtain ⟨t, rfl⟩ := r; rfl
  | flt _ => obtain ⟨t, rfl⟩ := r; rfl
  | ref _ => cases r; rfl
  | ty _ => cases r; rfl
theorem RelV.inj {x y : V} {u : Value} (r : RelV x u) (q : RelV y u) : x = y := Option.some.inj (r.abs.symm.trans q.abs)
theorem Vals.inj : ∀ {xs ys : List V} {us : List Value}, Vals xs us → Vals ys us → xs = ys
  | _, _, _, .nil, .nil => rfl
  | _, _, _, .cons r t, .cons r' t' => by rw [r.inj r', Vals.inj t t']
section
variable {X : Cx} {pins : List (Addr × Obj)} {σ : St} {H : Hp} {s : Shared} {a : Addr} {xs ys : List V}
theorem SqL.of {K : PySem.W.Frag} (h : H a = some (.lst xs)) : SqL K H a xs := .inl (.inl h)
theorem SqT.of {K : PySem.W.Frag} (h : H a = some (.tup xs)) : SqT K H a xs := .inl (.inl h)
theorem Inv.list (I : Inv X pins σ H s) (h : SqL X.K H a xs) : ∃ its : List Value, Vals xs its ∧ PlainL s.heap a its.toArray ∧ xs.length ≤ sizeLine := by
  rcases h with h | ⟨o, its, n, hk, hc, hd, hs, hz, r⟩
  · obtain ⟨z, its, n, r, e⟩ := h.ok I.hok
    exact ⟨its, r, ⟨_, n, e, rfl, rfl, rfl⟩, z⟩
  · refine ⟨its.toList, r, ⟨o, n, I.kIn a o hk, hc, hd, by simpa using hs⟩, ?_⟩
    have e := r.length
    simp only [Array.length_toList] at e
    omega
theorem Inv.tuple (I : Inv X pins σ H s) (h : SqT X.K H a xs) : ∃ its : List Value, Vals xs its ∧ IsTup s.heap a its.toArray ∧ xs.length ≤ sizeLine := by
  rcases h with h | ⟨o, its, n, hk, hc, hs, hz, r⟩
  · obtain ⟨z, its, r, p⟩ := h.ok I.hok
    exact ⟨its, r, p.tup, z⟩
  · refine ⟨its.toList, r, ⟨o, I.kIn a o hk, hc, n, by simpa using hs⟩, ?_⟩
    have e := r.length
    simp only [Array.length_toList] at e
    omega
theorem Inv.list_inj (I : Inv X pins σ H s) (h : SqL X.K H a xs) (h' : SqL X.K H a ys) : xs = ys := by
  obtain ⟨its, r, ⟨o, n, e, _, _, d⟩, _⟩ := I.list h
  obtain ⟨its', r', ⟨o', n', e', _, _, d'⟩, _⟩ := I.list h'
  rw [e] at e'; cases e'
  rw [d] at d'
  injection d' with d1 _
  have : its = its' := by simpa using congrArg Array.toList d1
  subst this
  exact r.inj r'
theorem Inv.tuple_inj (I : Inv X pins σ H s) (h : SqT X.K H a xs) (h' : SqT X.K H a ys) : xs = ys := by
  obtain ⟨its, r, ⟨o, e, _, n, d⟩, _⟩ := I.tuple h
  obtain ⟨its', r', ⟨o', e', _, n', d'⟩, _⟩ := I.tuple h'
  rw [e] at e'; cases e'
  rw [d] at d'
  injection d' with d1 _
  have : its = its' := by simpa using congrArg Array.toList d1
  subst this
  exact r.inj r'
end

/-! ### another wish about exceptions -/
abbrev Cx.wish (X : Cx) (E : Value → Shared → Prop) : Cx := { X with xe := E }
/-- no exception leaves -/
abbrev Cx.nox (X : Cx) : Cx := X.wish fun _ _ => False
theorem Cx.Ok.wish {X : Cx} (ok : X.Ok) (E : Value → Shared → Prop) : (X.wish E).Ok :=
  ⟨ok.mod, ok.kind, ok.glob, ok.blt, ok.above, ok.inj, ok.has, ok.cab, ok.hd, ok.frames, ok.stk, ok.exf, ok.bs, ok.bsz, ok.noex, ok.exfs, ok.funs, ok.frf⟩
theorem Cx.Ok.unwish {X : Cx} {E : Value → Shared → Prop} (ok : (X.wish E).Ok) : X.Ok :=
  ⟨ok.mod, ok.kind, ok.glob, ok.blt, ok.above, ok.inj, ok.has, ok.cab, ok.hd, ok.frames, ok.stk, ok.exf, ok.bs, ok.bsz, ok.noex, ok.exfs, ok.funs, ok.frf⟩
section
variable {X : Cx} {pins : List (Addr × Obj)} {σ : St} {H : Hp} {s : Shared} {E : Value → Shared → Prop}
theorem Inv.wish (I : Inv X pins σ H s) (E : Value → Shared → Prop) : Inv (X.wish E) pins σ H s := ⟨I.ok.wish E, I.os, I.bare, I.base, I.loc, I.cell, I.free, I.freeC, I.pin, I.hok, I.len⟩
theorem Inv.unwish (I : Inv (X.wish E) pins σ H s) : Inv X pins σ H s := ⟨I.ok.unwish, I.os, I.bare, I.base, I.loc, I.cell, I.free, I.freeC, I.pin, I.hok, I.len⟩
theorem SP.unwish {D : Ends} {f : Flow} {s' : Shared} (h : SP (X.wish E) pins D f s') : SP X pins D f s' := by
  cases f with
  | next => obtain ⟨σ', H', I, q⟩ := h; exact ⟨σ', H', I.unwish, q⟩
  | brk => obtain ⟨σ', H', I, q⟩ := h; exact ⟨σ', H', I.unwish, q⟩
  | cont => obtain ⟨σ', H', I, q⟩ := h; exact ⟨σ', H', I.unwish, q⟩
  | ret u => obtain ⟨v, σ', H', I, r, q⟩ := h; exact ⟨v, σ', H', I.unwish, r, q⟩
theorem PSs.nox {st : List Stmt} {t : TS} (h : PSs X.nox st t) : PSs X st t := fun pins s σ H D I hw =>
  wpAny_mono (h pins s σ H D (I.wish _) hw) (fun _ _ q => q.unwish) fun _ _ z => False.elim z
end

/-! ### blocks and small statements -/
section
variable {X : Cx} {st : Stmt} {rest : List Stmt} {t u : TS} {e : Expr} {te : TE} {pos : Pos}
def tNext : TS := fun D σ H => D.nx σ H
def tSeq (t u : TS) : TS := fun D σ H => t { D with nx := u D } σ H
theorem pss_nil : PSs X [] tNext := fun _ _ σ H _ I h => wpAny_execs_nil ⟨σ, H, I, h⟩
theorem pss_cons (h1 : PS X st t) (h2 : PSs X rest u) : PSs X (st :: rest) (tSeq t u) := by
  intro pins s σ H D I h
  refine wpAny_execs_cons (thn (h1 pins s σ H { D with nx := u D } I h) fun f s1 q => ?_)
  cases f with
  | next =>
    obtain ⟨σ', H', I', q⟩ := q
    exact h2 pins s1 σ' H' D I' q
  | ret v => exact q
  | brk => exact q
  | cont => exact q
theorem pss_one (h1 : PS X st t) : PSs X [st] t := by
  intro pins s σ H D I h
  refine wpAny_execs_cons (thn (h1 pins s σ H D I h) fun f s1 q => ?_)
  cases f with
  | next => exact wpAny_execs_nil q
  | ret v => exact q
  | brk => exact q
  | cont => exact q
/-- in a def's body nothing is shown -/
theorem Inv.quiet {pins : List (Addr × Obj)} {σ : St} {H : Hp} {s : Shared} (I : Inv X pins σ H s) : interactive X.env = false := by simp [interactive, I.ok.kind]
/-- an expression whose value is dropped -/
def tDrop (te : TE) : TS := fun D σ H => te σ H fun _ H1 => D.nx σ H1
theorem ps_expr (he : PE X e te) (hs : swapsWith e none pos.line X.env = pure false := by rfl) : PS X (.Expr e pos) (tDrop te) := by
  intro pins s σ H D I h
  exact wpAny_Expr_any (thn (he pins s σ H _ I h) fun v s1 ⟨x, H1, I1, r1, q1⟩ => ⟨σ, H1, I1, q1⟩) I.quiet hs
def tRet (te : TE) : TS := fun D σ H => te σ H D.rt
theorem ps_ret (he : PE X e te) : PS X (.Return (some e) pos) (tRet te) := by
  intro pins s σ H D I h
  exact wpAny_Return_some (thn (he pins s σ H _ I h) fun v s1 ⟨x, H1, I1, r1, q1⟩ => ⟨x, σ, H1, I1, r1, q1⟩)
def tIfS (c : TT) (t u : TS) : TS := fun D σ H => c σ H fun b H1 => if b = true then t D σ H1 else u D σ H1
theorem ps_if {c : Expr} {a b : List Stmt} {tc : TT} (hc : PT X c tc) (ha : PSs X a t) (hb : PSs X b u) : PS X (.If c a b pos) (tIfS tc t u) := by
  intro pins s σ H D I h
  refine wpAny_If (thn (hc pins s σ H _ I h) fun d s1 ⟨H1, I1, q1⟩ => ?_)
  cases d with
  | true => exact ha pins s1 σ H1 D I1 q1
  | false => exact hb pins s1 σ H1 D I1 q1
/-- code that the proof never comes to -/
def tNever : TS := fun _ _ _ => False
theorem ps_never : PS X st tNever := fun _ _ _ _ _ _ h => h.elim
end

/-! ### targets -/
abbrev TG := V → St → Hp → (St → Hp → Prop) → Prop
abbrev TGs := List V → St → Hp → (St → Hp → Prop) → Prop
def PG (X : Cx) (target : Expr) (t : TG) : Prop :=
  ∀ (pins : List (Addr × Obj)) (s : Shared) (σ : St) (H : Hp) (v : V) (u : Value) (Q : St → Hp → Prop), Inv X pins σ H s → RelV v u → t v σ H Q →
    wpAny (model X.prog X.w) X.A (assign target X.env u) (fun _ s' => ∃ σ' H', Inv X pins σ' H' s' ∧ Q σ' H') X.xe s
/-- several targets, one after another -/
def PGs (X : Cx) (ts : List Expr) (t : TGs) : Prop :=
  ∀ (pins : List (Addr × Obj)) (s : Shared) (σ : St) (H : Hp) (vs : List V) (us : List Value) (Q : St → Hp → Prop), Inv X pins σ H s → Vals vs us → t vs σ H Q →
    wpAny (model X.prog X.w) X.A (assignInOrder ((assignEach ts X.env).map (·.2)) us) (fun _ s' => ∃ σ' H', Inv X pins σ' H' s' ∧ Q σ' H') X.xe s
/-- o[i] = v, by values -/
abbrev TSet := V → V → V → Hp → (Hp → Prop) → Prop
def PSet (X : Cx) (t : TSet) : Prop :=
  ∀ (pins : List (Addr × Obj)) (s : Shared) (σ : St) (H : Hp) (o i v : V) (ov iv u : Value) (Q : Hp → Prop), Inv X pins σ H s → RelV o ov → RelV i iv → RelV v u → t o i v H Q →
    wpAny (model X.prog X.w) X.A (setItem ov iv u) (fun _ s' => ∃ H', Inv X pins σ H' s' ∧ Q H') X.xe s
/-- a op= b, by values -/
abbrev TIp := V → V → Hp → VK → Prop
def PIp (X : Cx) (op : Operator) (t : TIp) : Prop :=
  ∀ (pins : List (Addr × Obj)) (s : Shared) (σ : St) (H : Hp) (x y : V) (v u : Value) (Q : VK), Inv X pins σ H s → RelV x v → RelV y u → t x y H Q →
    wpAny (model X.prog X.w) X.A (inplaceOp op v u) (EP X pins σ Q) X.xe s
section
variable {X : Cx} {pos : Pos}
def gName (i : Nat) : TG := fun v σ H Q => Q (σ.set i (some v)) H
theorem pg_name {i : Nat} {x : Str} (hN : X.N.Nodup) (hi : X.N[i]? = some x) (hx : Loc X.env.scope x) (hf : X.fn x = true ∨ X.env.scope.names.lookup x = some .local := by first | exact .inl rfl | exact .inr rfl | assumption) : PG X (.Name x pos) (gName i) := by
  intro pins s σ H v u Q I r h
  exact wpAny_assign_Name (store_ok I hN hi hx r (fun s' I' => ⟨_, H, I', h⟩) hf)
def gNil : TGs := fun vs σ H Q => vs = [] ∧ Q σ H
def gCons (t : TG) (u : TGs) : TGs := fun vs σ H Q => ∃ v r, vs = v :: r ∧ t v σ H fun σ' H' => u r σ' H' Q
theorem pgs_nil : PGs X [] gNil := by
  intro pins s σ H vs us Q I r h
  obtain ⟨e, h⟩ := h
  subst e
  cases r
  exact assignInOrder_nil ⟨σ, H, I, h⟩
theorem pgs_cons {e : Expr} {es : List Expr} {t : TG} {u : TGs} (h1 : PG X e t) (h2 : PGs X es u)
    (hs : (assignEach (e :: es) X.env).map (·.2) = assign e X.env :: (assignEach es X.env).map (·.2) := by rfl) : PGs X (e :: es) (gCons t u) := by
  intro pins s σ H vs us Q I r h
  obtain ⟨v, vr, e1, h⟩ := h
  subst e1
  cases r with
  | cons r rr =>
    rw [hs]
    refine assignInOrder_cons (thn (h1 pins s σ H _ _ _ I r h) fun _ s1 ⟨σ1, H1, I1, q1⟩ => ?_)
    exact h2 pins s1 σ1 H1 _ _ Q I1 rr q1
/-- (a, b, ..) = a tuple of that length -/
def gTup (K : PySem.W.Frag) (n : Nat) (t : TGs) : TG := fun v σ H Q => ∃ a xs, v = .ref a ∧ SqT K H a xs ∧ xs.length = n ∧ t xs σ H Q
theorem pg_tup {es : List Expr} {k : Nat} {t : TGs} {n : Nat} (hc : X.calm = true) (h : PGs X es t)
    (hn : (assignEach es X.env).length = n := by rfl) (hst : (assignEach es X.env).findIdx? (·.1) = none := by rfl) : PG X (.Tuple es k pos) (gTup X.K n t) := by
  intro pins s σ H v u Q I r hw
  obtain ⟨a, xs, e1, hq, hl, hw⟩ := hw
  subst e1
  cases r
  obtain ⟨its, rv, ht, hz⟩ := I.tuple hq
  refine assign_Tuple_tuple (I.ok.hd hc) ht (by simp [hn, ← hl, rv.length]) hst fun h' hx => ?_
  have I1 : Inv X pins σ H { s with heap := h' } := I.kept (t' := s.toks) fun b o e => hx b o (Nat.ne_of_lt (Heap.lt_size e)) e
  exact h pins _ σ H xs _ Q I1 (by simpa using rv) hw
/-- o[i] = .. -/
def gSub (to ti : TE) (t : TSet) : TG := fun v σ H Q => to σ H fun o H1 => ti σ H1 fun i H2 => t o i v H2 fun H3 => Q σ H3
theorem pg_sub {o i : Expr} {to ti : TE} {t : TSet} (ho : PE X o to) (hi : PE X i ti) (hs : PSet X t)
    (ha : ∀ v, assign (.Subscript o i pos) X.env v = (do
      let ov ← holding [v] (eval o X.env)
      let iv ← holding [v, ov] (eval i X.env)
      standAt pos
      holding [v, ov, iv] (setItem ov iv v)
      release [v, ov, iv] []) := by intro _; rfl) : PG X (.Subscript o i pos) (gSub to ti t) := by
  intro pins s σ H v u Q I r h
  rw [ha]
  refine wpAny_bind (wpAny_holding (thn (ho pins s σ H _ I h) fun ov s1 ⟨x, H1, I1, r1, q1⟩ => ?_))
  refine wpAny_bind (wpAny_holding (thn (hi pins s1 σ H1 _ I1 q1) fun iv s2 ⟨y, H2, I2, r2, q2⟩ => ?_))
  refine wpAny_bind (wpAny_standAt (wpAny_bind (wpAny_holding (thn (hs pins s2 σ H2 x y v ov iv u _ I2 r1 r2 r q2) fun _ s3 ⟨H3, I3, q3⟩ => ?_))))
  exact wpAny_release ⟨σ, H3, I3, q3⟩
/-- target = value -/
def tAsg (te : TE) (g : TG) : TS := fun D σ H => te σ H fun x H1 => g x σ H1 D.nx
theorem ps_asg {tg e : Expr} {te : TE} {g : TG} (he : PE X e te) (hg : PG X tg g) (hs : swapsWithSole [tg] e pos.line X.env = pure false := by rfl) (hw : swappedStores [tg] e X.env = pure none := by rfl)
    (h1 : (assignEach [tg] X.env).map (·.2) = [assign tg X.env] := by rfl) : PS X (.Assign [tg] e pos) (tAsg te g) := by
  intro pins s σ H D I h
  refine wpAny_Assign_stores (thn (he pins s σ H _ I h) fun v s1 ⟨x, H1, I1, r1, q1⟩ => ?_) hs hw
  rw [h1]
  exact thn (hg pins s1 σ H1 x v _ I1 r1 q1) fun _ s2 q => q
/-- name = value -/
theorem ps_set {i : Nat} {x : Str} {e : Expr} {te : TE} {pos' : Pos} (hN : X.N.Nodup) (hi : X.N[i]? = some x) (hx : Loc X.env.scope x) (he : PE X e te) (hs : swapsWith e (some (.Name x pos')) pos.line X.env = pure false := by rfl) (hf : X.fn x = true ∨ X.env.scope.names.lookup x = some .local := by first | exact .inl rfl | exact .inr rfl | assumption) :
    PS X (.Assign [.Name x pos'] e pos) (tAsg te (gName i)) := by
  intro pins s σ H D I h
  refine wpAny_Assign_Name (thn (he pins s σ H _ I h) fun v s1 ⟨y, H1, I1, r1, q1⟩ => ?_) hs
  exact store_ok I1 hN hi hx r1 (fun s2 I2 => ⟨_, H1, I2, q1⟩) hf
/-- o[i] op= e -/
def tAugS (to ti te : TE) (tget : V → V → Hp → VK → Prop) (tip : TIp) (tset : TSet) : TS := fun D σ H => to σ H fun o H1 => ti σ H1 fun i H2 => tget o i H2 fun x H3 => te σ H3 fun y H4 => tip x y H4 fun z H5 => tset o i z H5 fun H6 => D.nx σ H6
/-- o[i], by values -/
def PGet (X : Cx) (t : V → V → Hp → VK → Prop) : Prop :=
  ∀ (pins : List (Addr × Obj)) (s : Shared) (σ : St) (H : Hp) (o i : V) (ov iv : Value) (Q : VK), Inv X pins σ H s → RelV o ov → RelV i iv → t o i H Q →
    wpAny (model X.prog X.w) X.A (getItem ov iv) (EP X pins σ Q) X.xe s
theorem ps_augS {o i e : Expr} {to ti te : TE} {tget : V → V → Hp → VK → Prop} {tip : TIp} {tset : TSet} {op : Operator} {tpos : Pos} (ho : PE X o to) (hi : PE X i ti) (hg : PGet X tget) (he : PE X e te) (hp : PIp X op tip) (hs : PSet X tset)
    (ha : ∀ ov iv new, augStore i ov iv new = (do holding [new, ov, iv] (setItem ov iv new); release [new, ov, iv] []; pure .next) := by intros; rfl) : PS X (.AugAssign (.Subscript o i tpos) op e pos) (tAugS to ti te tget tip tset) := by
  intro pins s σ H D I h
  refine wpAny_AugAssign_SubscriptAny (thn (ho pins s σ H _ I h) fun ov s1 ⟨x1, H1, I1, r1, q1⟩ => ?_) ha
  refine thn (hi pins s1 σ H1 _ I1 q1) fun iv s2 ⟨x2, H2, I2, r2, q2⟩ => ?_
  refine thn (hg pins s2 σ H2 x1 x2 ov iv _ I2 r1 r2 q2) fun old s3 ⟨x3, H3, I3, r3, q3⟩ => ?_
  refine thn (he pins s3 σ H3 _ I3 q3) fun v s4 ⟨x4, H4, I4, r4, q4⟩ => ?_
  refine thn (hp pins s4 σ H4 x3 x4 old v _ I4 r3 r4 q4) fun new s5 ⟨x5, H5, I5, r5, q5⟩ => ?_
  exact thn (hs pins s5 σ H5 x1 x2 x5 ov iv new _ I5 r1 r2 r5 q5) fun _ s6 ⟨H6, I6, q6⟩ => ⟨σ, H6, I6, q6⟩
/-- ints -/
def ipI (f : Int → Int → Int) : TIp := fun x y H Q => ∃ i j, x = .int i ∧ y = .int j ∧ Q (.int (f i j)) H
theorem ip_add : PIp X .Add (ipI fun i j => i + j) := by
  intro pins s σ H x y v u Q I r1 r2 h
  obtain ⟨i, j, e1, e2, q⟩ := h
  subst e1; subst e2
  obtain ⟨t, rfl⟩ := r1
  obtain ⟨t', rfl⟩ := r2
  exact iadd_int ⟨.int _, H, I.tok _, ⟨_, rfl⟩, q⟩
theorem ip_sub : PIp X .Sub (ipI fun i j => i - j) := by
  intro pins s σ H x y v u Q I r1 r2 h
  obtain ⟨i, j, e1, e2, q⟩ := h
  subst e1; subst e2
  obtain ⟨t, rfl⟩ := r1
  obtain ⟨t', rfl⟩ := r2
  exact isub_int ⟨.int _, H, I.tok _, ⟨_, rfl⟩, q⟩
end

/-! ### while -/
section
variable {X : Cx} {pos : Pos}
/-- the invariant W with its measure -/
def tWhile (c : TT) (tb : TS) : TS := fun D σ H => ∃ W : Nat → St → Hp → Prop, (∃ m, W m σ H) ∧ ∀ m σ H, W m σ H →
  c σ H fun b H1 => if b = true then ∃ N : St → Hp → Prop, (∀ σ' H', N σ' H' → ∃ m', m' < m ∧ W m' σ' H') ∧ tb { D with nx := N, ct := N, bk := D.nx } σ H1 else D.nx σ H1
theorem ps_while {c : Expr} {body : List Stmt} {tc : TT} {tb : TS} (hp : PassesOwn (model X.prog X.w) X.A X.env X.xe) (hc : PT X c tc) (hb : PSs X body tb) : PS X (.While c body [] pos) (tWhile tc tb) := by
  intro pins s σ H D I h
  obtain ⟨W, ⟨m0, w0⟩, turn⟩ := h
  refine wpAny_While (codeAny_whileLoop (fun n s' => ∃ σ' H', Inv X pins σ' H' s' ∧ W n σ' H') ?_ m0 ⟨σ, H, I, w0⟩)
  rintro n s1 ⟨σ1, H1, I1, w1⟩
  refine wpAny_passesOwn hp (thn (hc pins s1 σ1 H1 _ I1 (turn n σ1 H1 w1)) fun b s2 ⟨H2, I2, q2⟩ => ?_)
  cases b with
  | true =>
    obtain ⟨N, hN, q2⟩ := q2
    rw [if_pos rfl]
    refine wpAny_passesOwn hp (thn (hb pins s2 σ1 H2 _ I2 q2) fun f s3 q3 => ?_)
    cases f with
    | next =>
      obtain ⟨σ3, H3, I3, n3⟩ := q3
      obtain ⟨m', hm, w3⟩ := hN σ3 H3 n3
      exact ⟨m', hm, σ3, H3, I3, w3⟩
    | cont =>
      obtain ⟨σ3, H3, I3, n3⟩ := q3
      obtain ⟨m', hm, w3⟩ := hN σ3 H3 n3
      exact ⟨m', hm, σ3, H3, I3, w3⟩
    | brk => exact q3
    | ret v => exact q3
  | false =>
    rw [if_neg Bool.false_ne_true]
    exact wpAny_execs_nil ⟨σ1, H2, I2, q2⟩
end

/-! ### what a loop or a comprehension walks -/
/-- at turn i: it yields x (the heap may grow), or it stops -/
structure It where
  go : Nat → Hp → Prop
  yld : Nat → Hp → V → Hp → Prop
  stop : Nat → Hp → Prop
/-- the iterator's own objects may turn: they are not the frame's, not pinned, younger than the entry (or a comprehension's own) -/
def FpOk (X : Cx) (pins : List (Addr × Obj)) (H : Hp) (b : Addr) : Prop :=
  H b = none ∧ b ≠ X.env.locals ∧ b ∉ X.fs ∧ (b ∈ X.ex ∨ X.s₀.heap.objs.size ≤ b) ∧ (∀ x c, X.env.cells.lookup x = some c → c ≠ b) ∧ ∀ p ∈ X.pn ++ pins, p.1 ≠ b
theorem Inv.fpOk {X : Cx} {pins : List (Addr × Obj)} {σ : St} {H H' : Hp} {s : Shared} {b : Addr} (I : Inv X pins σ H s) (hb : s.heap.objs.size ≤ b) (hn : H' b = none) : FpOk X pins H' b := by
  refine ⟨hn, Nat.ne_of_gt (Nat.lt_of_lt_of_le I.lt hb), I.nofs hb, .inr (Nat.le_trans I.sz hb), fun x c e z => ?_, fun p hp z => ?_⟩
  · obtain ⟨v, q⟩ := I.cell x c e
    exact absurd (Nat.lt_of_lt_of_le q.lt (by rw [z]; exact hb)) (Nat.lt_irrefl _)
  · exact absurd (Nat.lt_of_lt_of_le (Heap.lt_size (I.pin p hp).1) (by rw [z]; exact hb)) (Nat.lt_irrefl _)
structure Turn (P : Program) (w : World) (K : PySem.W.Frag) (tg : Expr) (J : It) (fp : List Addr) (it : Addr) (tn : Nat → Heap → Prop) : Prop where
  mem : it ∈ fp
  obj : ∀ i h, tn i h → ∀ b ∈ fp, ∃ o, h.get? b = some o ∧ ∀ v, o.data ≠ .cell v
  keep : ∀ i h h', tn i h → (∀ b ∈ fp, ∀ o, h.get? b = some o → h'.get? b = some o) → tn i h'
  item : ∀ (X : Cx), X.prog = P → X.w = w → X.K = K → X.calm = true → ∀ (i : Nat) (pins : List (Addr × Obj)) (s : Shared) (σ : St) (H : Hp) (E : Value → Shared → Prop), Inv X pins σ H s → (∀ b ∈ fp, FpOk X pins H b) → tn i s.heap → J.go i H →
    wpAny (model P w) X.A (pyNext (.ref it)) (fun r s1 => ∃ u, r = some u ∧
      wpAny (model P w) X.A (letOwnedTupleGo tg (.ref it) u) (fun _ s2 => ∃ x H', Inv X pins σ H' s2 ∧ RelV x u ∧ J.yld i H x H' ∧ tn (i + 1) s2.heap ∧ ∀ b ∈ fp, H' b = none) E s1) E s
  done : ∀ (X : Cx), X.prog = P → X.w = w → X.K = K → X.calm = true → ∀ (i : Nat) (pins : List (Addr × Obj)) (s : Shared) (σ : St) (H : Hp) (E : Value → Shared → Prop), Inv X pins σ H s → (∀ b ∈ fp, FpOk X pins H b) → tn i s.heap → J.stop i H →
    wpAny (model P w) X.A (pyNext (.ref it)) (fun r s1 => r = none ∧ Inv X pins σ H s1) E s
  self : ∀ (A : Around) (i : Nat) (s : Shared) (Q : Value → Shared → Prop) (E : Value → Shared → Prop), tn i s.heap → Q (.ref it) s → wpAny (model P w) A (pyIter (.ref it)) Q E s
abbrev TI := St → Hp → (It → Hp → Prop) → Prop
/-- an iterator has come -/
def PIE (X : Cx) (pins : List (Addr × Obj)) (σ : St) (tg : Expr) (R : It → Hp → Prop) (itv : Value) (s2 : Shared) : Prop :=
  ∃ (it : Addr) (fp : List Addr) (tn : Nat → Heap → Prop) (J : It) (H' : Hp), itv = .ref it ∧ Inv X pins σ H' s2 ∧ Turn X.prog X.w X.K tg J fp it tn ∧ tn 0 s2.heap ∧ (∀ b ∈ fp, FpOk X pins H' b) ∧ R J H'
def PI (X : Cx) (tg iter : Expr) (wi : TI) : Prop :=
  ∀ (pins : List (Addr × Obj)) (s : Shared) (σ : St) (H : Hp) (R : It → Hp → Prop), Inv X pins σ H s → wi σ H R →
    wpAny (model X.prog X.w) X.A (eval iter X.env) (fun v s1 => wpAny (model X.prog X.w) X.A (pyIter v) (PIE X pins σ tg R) X.xe s1) X.xe s

/-- the step ahead of the store is nothing for an iterator that keeps no tuple -/
theorem go_of {M : Model} {A : Around} {E : Value → Shared → Prop} {s : Shared} {tg : Expr} {it : Addr} {u : Value} {o : Obj} {n : String} {vs : Array Value} {Q : Unit → Shared → Prop} (ho : s.heap.get? it = some o) (hc : o.cls = .type n) (hd : o.data = .fields vs)
    (hn : ["enumerate", "zip", "dict_itemiterator", "dict_reverseitemiterator", "odict_iterator", "itertools.zip_longest", "itertools.pairwise"].contains n = false) (hQ : Q () s) : wpAny M A (letOwnedTupleGo tg (.ref it) u) Q E s := by
  unfold letOwnedTupleGo
  cases tg <;> first
    | exact wpAny_pure hQ
    | (cases u <;> first
        | exact wpAny_pure hQ
        | (refine wpAny_bind (wpAny_load ho ?_)
           rw [hc, hd]
           show wpAny M A (if (["enumerate", "zip", "dict_itemiterator", "dict_reverseitemiterator", "odict_iterator", "itertools.zip_longest", "itertools.pairwise"].contains n && vs[0]? == some (rawInt _)) = true then _ else _) Q E s
           rw [if_neg (by intro h; rw [hn, Bool.false_and] at h; cases h)]
           exact wpAny_pure hQ))

/-- the list at a, as it stands at each turn (a loop may append to it) -/
def Itl (K : PySem.W.Frag) (a : Addr) : It :=
  ⟨fun i H => ∃ xs x, SqL K H a xs ∧ xs[i]? = some x, fun i H x H' => H' = H ∧ ∀ xs, SqL K H a xs → xs[i]? = some x, fun i H => ∃ xs, SqL K H a xs ∧ xs.length ≤ i⟩
def Itt (K : PySem.W.Frag) (a : Addr) : It :=
  ⟨fun i H => ∃ xs x, SqT K H a xs ∧ xs[i]? = some x, fun i H x H' => H' = H ∧ ∀ xs, SqT K H a xs → xs[i]? = some x, fun i H => ∃ xs, SqT K H a xs ∧ xs.length ≤ i⟩
/-- lo, lo + 1, .. (n of them) -/
def Itr (lo : Int) (n : Nat) : It := ⟨fun i _ => i < n, fun i H x H' => H' = H ∧ x = .int (lo + i), fun i _ => n ≤ i⟩
theorem turn_list {P : Program} {w : World} {K : PySem.W.Frag} {tg : Expr} (a it : Addr) : Turn P w K tg (Itl K a) [it] it (fun i h => h.IsListIter it a i) where
  mem := by simp
  obj := fun i h st b hb => by
    have e : b = it := by simpa using hb
    subst e
    obtain ⟨o, e, c, d⟩ := st
    exact ⟨o, e, fun v z => by rw [d] at z; cases z⟩
  keep := fun i h h' st k => st.at fun o e => k it (by simp) o e
  item := by
    intro X hP hw hK hc i pins s σ H E I hf st hg
    subst hP hw hK
    obtain ⟨xs, x, hq, hx⟩ := hg
    obtain ⟨its, rv, p, hz⟩ := I.list hq
    obtain ⟨u, hu, ru⟩ := rv.get hx
    obtain ⟨f0, f1, f2, f3, f4, f5⟩ := hf it (by simp)
    refine wpAny_pyNext_list_item st p.isList (x := u) (by simpa using hu) fun h' st' sb => ?_
    have I1 : Inv X pins σ H { s with heap := h' } := I.turned (t' := s.toks) (fun b o hb e => (sb.2 b hb).trans e) f0 f1 f3 f4 f5
    obtain ⟨o, e, c, d⟩ := id st'
    exact ⟨u, rfl, go_of (s := { s with heap := h' }) e c d (by decide) ⟨x, H, I1, ru, ⟨rfl, fun ys hy => by rw [I.list_inj hy hq]; exact hx⟩, st', fun b hb => (hf b hb).1⟩⟩
  done := by
    intro X hP hw hK hc i pins s σ H E I hf st hg
    subst hP hw hK
    obtain ⟨xs, hq, hx⟩ := hg
    obtain ⟨its, rv, p, hz⟩ := I.list hq
    obtain ⟨f0, f1, f2, f3, f4, f5⟩ := hf it (by simp)
    have hl := rv.length
    exact wpAny_pyNext_list_end (I.ok.hd hc) st p.isList (by simp; omega) fun h' eb => ⟨rfl, I.turned (t' := s.toks) (fun b o hb e => eb b o hb e) f0 f1 f3 f4 f5⟩
  self := fun _ _ _ _ _ st h => wpAny_pyIter_listiter st h
theorem turn_tuple {P : Program} {w : World} {K : PySem.W.Frag} {tg : Expr} (a it : Addr) : Turn P w K tg (Itt K a) [it] it (fun i h => h.IsTupleIter it a i) where
  mem := by simp
  obj := fun i h st b hb => by
    have e : b = it := by simpa using hb
    subst e
    obtain ⟨o, e, c, d⟩ := st
    exact ⟨o, e, fun v z => by rw [d] at z; cases z⟩
  keep := fun i h h' st k => st.at fun o e => k it (by simp) o e
  item := by
    intro X hP hw hK hc i pins s σ H E I hf st hg
    subst hP hw hK
    obtain ⟨xs, x, hq, hx⟩ := hg
    obtain ⟨its, rv, p, hz⟩ := I.tuple hq
    obtain ⟨u, hu, ru⟩ := rv.get hx
    obtain ⟨f0, f1, f2, f3, f4, f5⟩ := hf it (by simp)
    refine wpAny_pyNext_tuple_item st (show s.heap.IsTuple a its.toArray from p) (x := u) (by simpa using hu) fun h' st' sb => ?_
    have I1 : Inv X pins σ H { s with heap := h' } := I.turned (t' := s.toks) (fun b o hb e => (sb.2 b hb).trans e) f0 f1 f3 f4 f5
    obtain ⟨o, e, c, d⟩ := id st'
    exact ⟨u, rfl, go_of (s := { s with heap := h' }) e c d (by decide) ⟨x, H, I1, ru, ⟨rfl, fun ys hy => by rw [I.tuple_inj hy hq]; exact hx⟩, st', fun b hb => (hf b hb).1⟩⟩
  done := by
    intro X hP hw hK hc i pins s σ H E I hf st hg
    subst hP hw hK
    obtain ⟨xs, hq, hx⟩ := hg
    obtain ⟨its, rv, p, hz⟩ := I.tuple hq
    obtain ⟨f0, f1, f2, f3, f4, f5⟩ := hf it (by simp)
    have hl := rv.length
    exact wpAny_pyNext_tuple_end (I.ok.hd hc) st (show s.heap.IsTuple a its.toArray from p) (by simp; omega) fun h' eb => ⟨rfl, I.turned (t' := s.toks) (fun b o hb e => eb b o hb e) f0 f1 f3 f4 f5⟩
  self := fun _ _ _ _ _ st h => wpAny_pyIter_tupleiter st h
theorem turn_range {P : Program} {w : World} {K : PySem.W.Frag} {tg : Expr} (it : Addr) (lo : Int) (n : Nat) : Turn P w K tg (Itr lo n) [it] it (fun i h => IsRangeIter h it (lo + (i : Nat) * 1) ((n : Int) - (i : Nat)) 1) where
  mem := by simp
  obj := fun i h st b hb => by
    have e : b = it := by simpa using hb
    subst e
    exact ⟨_, st, fun v z => by
      have z' : Data.fields _ = Data.cell v := z
      cases z'⟩
  keep := fun i h h' st k => k it (by simp) _ st
  item := by
    intro X hP hw hK hc i pins s σ H E I hf st hg
    subst hP hw hK
    obtain ⟨f0, f1, f2, f3, f4, f5⟩ := hf it (by simp)
    have W := Walks.range (prog := X.prog) (w := X.w) (I.ok.hd hc) it lo 1 n
    refine W.item i s _ _ hg st fun v h' tk hv st' kk => ?_
    obtain ⟨t, rfl⟩ := hv
    have I1 : Inv X pins σ H { s with heap := h', toks := tk } := I.turned (fun b o hb e => kk b o (by simpa using hb) e) f0 f1 f3 f4 f5
    refine ⟨_, rfl, go_of (s := { s with heap := h', toks := tk }) (n := "range_iterator") st' rfl rfl (by decide) ⟨.int (lo + i), H, I1, ⟨t, ?_⟩, ⟨rfl, rfl⟩, st', fun b hb => (hf b hb).1⟩⟩
    rw [Int.mul_one]
  done := by
    intro X hP hw hK hc i pins s σ H E I hf st hg
    subst hP hw hK
    obtain ⟨f0, f1, f2, f3, f4, f5⟩ := hf it (by simp)
    exact wpAny_pyNext_range_end (I.ok.hd hc) st (by have : n ≤ i := hg; omega) fun h' eb => ⟨rfl, I.turned (t' := s.toks) (fun b o hb e => eb b o hb e) f0 f1 f3 f4 f5⟩
  self := fun _ _ _ _ _ st h => wpAny_pyIter_rangeiter st h
end L2

namespace L2
open PySem PySem.Spec PyProof.Rows
section
variable {X : Cx} {tg : Expr}
def iList (K : PySem.W.Frag) (tl : TE) : TI := fun σ H R => tl σ H fun x H1 => ∃ a, x = .ref a ∧ (∃ xs, SqL K H1 a xs) ∧ R (Itl K a) H1
def iTup (K : PySem.W.Frag) (tl : TE) : TI := fun σ H R => tl σ H fun x H1 => ∃ a, x = .ref a ∧ (∃ xs, SqT K H1 a xs) ∧ R (Itt K a) H1
theorem pi_list {l : Expr} {tl : TE} (hl : PE X l tl) : PI X tg l (iList X.K tl) := by
  intro pins s σ H R I h
  refine thn (hl pins s σ H _ I h) fun v s1 ⟨x, H1, I1, r1, q1⟩ => ?_
  obtain ⟨a, e, ⟨xs, hq⟩, q⟩ := q1
  subst e
  cases r1
  obtain ⟨its, rv, p, hz⟩ := I1.list hq
  refine wpAny_pyIter_list p.isList ?_
  refine ⟨s1.heap.objs.size, [s1.heap.objs.size], _, _, H1, rfl, I1.kept (t' := s1.toks) fun b o e => Heap.get?_push_of_some _ e, turn_list a _, ⟨_, Heap.get?_push_size _ rfl, rfl, rfl⟩, fun b hb => ?_, q⟩
  have e : b = s1.heap.objs.size := by simpa using hb
  subst e
  exact I1.fpOk (Nat.le_refl _) (I1.hok.fresh (Nat.le_refl _))
theorem pi_tup {l : Expr} {tl : TE} (hl : PE X l tl) : PI X tg l (iTup X.K tl) := by
  intro pins s σ H R I h
  refine thn (hl pins s σ H _ I h) fun v s1 ⟨x, H1, I1, r1, q1⟩ => ?_
  obtain ⟨a, e, ⟨xs, hq⟩, q⟩ := q1
  subst e
  cases r1
  obtain ⟨its, rv, p, hz⟩ := I1.tuple hq
  refine wpAny_pyIter_tuple (show s1.heap.IsTuple a its.toArray from p) ?_
  refine ⟨s1.heap.objs.size, [s1.heap.objs.size], _, _, H1, rfl, I1.kept (t' := s1.toks) fun b o e => Heap.get?_push_of_some _ e, turn_tuple a _, ⟨_, Heap.get?_push_size _ rfl, rfl, rfl⟩, fun b hb => ?_, q⟩
  have e : b = s1.heap.objs.size := by simpa using hb
  subst e
  exact I1.fpOk (Nat.le_refl _) (I1.hok.fresh (Nat.le_refl _))
/-- a range object just made, walked -/
theorem range_it {pins : List (Addr × Obj)} {σ : St} {H : Hp} {s : Shared} {R : It → Hp → Prop} {E : Value → Shared → Prop} {lo hi : Int} {t u v : Tok} {tk : Nat} (I : Inv X pins σ H s) (h1 : -(2 ^ 62) ≤ lo) (h2 : lo < 2 ^ 62) (h3 : -(2 ^ 62) ≤ hi) (h4 : hi < 2 ^ 62)
    (q : R (Itr lo (hi - lo).toNat) H) : wpAny (model X.prog X.w) X.A (pyIter (.ref s.heap.objs.size)) (PIE X pins σ tg R) E { s with heap := s.heap.push { cls := .type "range", data := .fields #[.int lo t, .int hi u, .int 1 v] }, toks := tk } := by
  refine wpAny_pyIter_range (IsRange.new ..) (small_one h1 h2 h3 h4) ?_
  have I1 : Inv X pins σ H { s with heap := s.heap.push { cls := .type "range", data := .fields #[.int lo t, .int hi u, .int 1 v] }, toks := tk } := I.kept fun b o e => Heap.get?_push_of_some _ e
  refine ⟨(s.heap.push { cls := .type "range", data := .fields #[.int lo t, .int hi u, .int 1 v] }).objs.size, [(s.heap.push { cls := .type "range", data := .fields #[.int lo t, .int hi u, .int 1 v] }).objs.size], _, _, H, rfl,
    I1.kept (t' := tk) fun b o e => Heap.get?_push_of_some _ e, turn_range _ lo (hi - lo).toNat, ?_, fun b hb => ?_, q⟩
  · have e1 : lo + ((0 : Nat) : Int) * 1 = lo := by simp
    have e2 : (((hi - lo).toNat : Nat) : Int) - ((0 : Nat) : Int) = Builtin.Range.rangeSize lo hi 1 := by rw [rangeSize_one]; split <;> omega
    show IsRangeIter _ _ (lo + ((0 : Nat) : Int) * 1) ((((hi - lo).toNat : Nat) : Int) - ((0 : Nat) : Int)) 1
    rw [e1, e2]
    exact Heap.get?_push_size _ rfl
  · have e : b = (s.heap.push { cls := .type "range", data := .fields #[.int lo t, .int hi u, .int 1 v] }).objs.size := by simpa using hb
    subst e
    exact I1.fpOk (Nat.le_refl _) (I1.hok.fresh (Nat.le_refl _))
def iRng1 (ta : TA) : TI := fun σ H R => ta σ H fun vs H1 => ∃ j : Int, vs = [.int j] ∧ -(2 ^ 62) ≤ j ∧ j < 2 ^ 62 ∧ R (Itr 0 j.toNat) H1
theorem pi_range1 {a : Expr} {ta : TA} {p pos : Pos} (hg : Gl X "range") (hm : X.mg "range" = none) (ha : PA X [a] ta) (hs : starEach [a] X.env = [(false, eval a X.env)] := by rfl) : PI X tg (.Call (.Name "range" p) [a] [] pos) (iRng1 ta) := by
  intro pins s σ H R I h
  refine Call_ (ld_blt I hg hm boot_range (PyProof.Rows.callWith_type1 (thn (ha pos pins s σ H _ I h) fun us s1 ⟨vs, H1, I1, r1, q1⟩ => ?_) hs rfl))
  obtain ⟨j, e, q1, q2, q⟩ := q1
  subst e
  cases r1 with
  | cons r rr =>
    cases rr
    obtain ⟨t, rfl⟩ := r
    exact call_range_1 (range_it I1 (by omega) (by omega) q1 q2 (by simpa using q))
/-! ### for -/
/-- W: the invariant by the turn and a measure; N: what the body is to reach -/
def tFor (wi : TI) (g : TG) (tb : TS) : TS := fun D σ H => wi σ H fun J H1 => ∃ W : Nat → Nat → St → Hp → Prop, (∃ m, W 0 m σ H1) ∧ ∀ i m σ H, W i m σ H →
  (J.stop i H ∧ D.nx σ H) ∨ (J.go i H ∧ ∃ N : St → Hp → Prop, (∀ σ' H', N σ' H' → ∃ m', m' < m ∧ W (i + 1) m' σ' H') ∧ ∀ x H', J.yld i H x H' → g x σ H' fun σ2 H2 => tb { D with nx := N, ct := N, bk := D.nx } σ2 H2)
/-- the records at fp as they stand -/
def pinsAt (fp : List Addr) (h : Heap) : List (Addr × Obj) := fp.filterMap fun b => (h.get? b).map fun o => (b, o)
theorem mem_pinsAt {fp : List Addr} {h : Heap} {b : Addr} {o : Obj} (hb : b ∈ fp) (e : h.get? b = some o) : (b, o) ∈ pinsAt fp h := List.mem_filterMap.mpr ⟨b, hb, by rw [e]; rfl⟩
theorem of_pinsAt {fp : List Addr} {h : Heap} {p : Addr × Obj} (hp : p ∈ pinsAt fp h) : p.1 ∈ fp ∧ h.get? p.1 = some p.2 := by
  obtain ⟨b, hb, e⟩ := List.mem_filterMap.mp hp
  cases q : h.get? b with
  | none => rw [q] at e; cases e
  | some o =>
    rw [q] at e
    have e' : (b, o) = p := Option.some.inj e
    subst e'
    exact ⟨hb, q⟩
theorem Inv.pinned {pins : List (Addr × Obj)} {σ : St} {H : Hp} {s : Shared} {fp : List Addr} (I : Inv X pins σ H s) (hf : ∀ b ∈ fp, FpOk X pins H b) (ho : ∀ b ∈ fp, ∃ o, s.heap.get? b = some o ∧ ∀ v, o.data ≠ .cell v) : Inv X (pins ++ pinsAt fp s.heap) σ H s :=
  I.pins_of fun p hp => (List.mem_append.mp hp).elim (fun z => I.pin p (List.mem_append_right _ z)) fun z => by
    obtain ⟨hb, e⟩ := of_pinsAt z
    obtain ⟨f0, f1, f2, _⟩ := hf p.1 hb
    obtain ⟨o, e', d⟩ := ho p.1 hb
    rw [e] at e'; cases e'
    exact ⟨e, f0, f1, f2, d⟩
theorem Inv.unpinned {pins pl : List (Addr × Obj)} {σ : St} {H : Hp} {s : Shared} (I : Inv X (pins ++ pl) σ H s) : Inv X pins σ H s := I.pins_of fun p hp => I.pin p (List.mem_append_right _ (List.mem_append_left _ hp))
theorem ps_for {iter : Expr} {body : List Stmt} {wi : TI} {g : TG} {tb : TS} {pos : Pos} (hp : PassesOwn (model X.prog X.w) X.A X.env X.xe) (hc : X.calm = true) (hi : PI X tg iter wi) (hg : PG X tg g) (hb : PSs X body tb)
    (hs : ∀ x, foldedSetIterable iter X.env x = pure x := by intro _; rfl) : PS X (.For tg iter body [] pos) (tFor wi g tb) := by
  intro pins s σ H D I h
  refine wpAny_For (thn (hi pins s σ H _ I h) fun v s1 h1 => thn h1 fun itv s2 h2 => ?_) hs
  obtain ⟨it, fp, tn, J, H2, e, I2, T, st2, f2, W, ⟨m0, w0⟩, turn⟩ := h2
  subst e
  -- what stays true of the iterator's objects through the loop
  have stat : ∀ {H' : Hp}, (∀ b ∈ fp, H' b = none) → ∀ b ∈ fp, FpOk X pins H' b := fun hn b hb => ⟨hn b hb, (f2 b hb).2⟩
  refine codeAny_forLoop_any (fun n s' => ∃ i σ' H', Inv X pins σ' H' s' ∧ tn i s'.heap ∧ (∀ b ∈ fp, H' b = none) ∧ W i n σ' H') ?_ m0 ⟨0, σ, H2, I2, st2, fun b hb => (f2 b hb).1, w0⟩
  rintro n s3 ⟨i, σ3, H3, I3, st3, fr3, w3⟩
  rcases turn i n σ3 H3 w3 with ⟨stop, qn⟩ | ⟨go, N, hN, step⟩
  · refine wpAny_passesOwn hp (thn (T.done X rfl rfl rfl hc i pins s3 σ3 H3 X.xe I3 (stat fr3) st3 stop) fun r s4 ⟨hr, I4⟩ => ?_)
    subst hr
    exact wpAny_execs_nil ⟨σ3, H3, I4, qn⟩
  · refine wpAny_passesOwn hp (thn (T.item X rfl rfl rfl hc i pins s3 σ3 H3 X.xe I3 (stat fr3) st3 go) fun r s4 ⟨u, hr, h4⟩ => ?_)
    subst hr
    refine wpAny_passesOwn hp (thn h4 fun _ s5 ⟨x, H5, I5, r5, y5, st5, fr5⟩ => ?_)
    have I5' := I5.pinned (stat fr5) (T.obj _ _ st5)
    refine wpAny_passesOwn hp (thn (hg _ s5 σ3 H5 x u _ I5' r5 (step x H5 y5)) fun _ s6 ⟨σ6, H6, I6, q6⟩ => ?_)
    refine wpAny_passesOwn hp (thn (hb _ s6 σ6 H6 _ I6 q6) fun f s7 q7 => ?_)
    have again : ∀ {σ7 : St} {H7 : Hp}, Inv X (pins ++ pinsAt fp s5.heap) σ7 H7 s7 → N σ7 H7 → ∃ m, m < n ∧ ∃ i σ' H', Inv X pins σ' H' s7 ∧ tn i s7.heap ∧ (∀ b ∈ fp, H' b = none) ∧ W i m σ' H' := fun {σ7 H7} I7 n7 => by
      obtain ⟨m', hm, w7⟩ := hN σ7 H7 n7
      refine ⟨m', hm, i + 1, σ7, H7, I7.unpinned, T.keep _ _ _ st5 fun b hb o e => (I7.pin (b, o) (List.mem_append_right _ (List.mem_append_right _ (mem_pinsAt hb e)))).1, fun b hb => ?_, w7⟩
      obtain ⟨o, e, d⟩ := T.obj _ _ st5 b hb
      exact (I7.pin (b, o) (List.mem_append_right _ (List.mem_append_right _ (mem_pinsAt hb e)))).2.1
    cases f with
    | next => obtain ⟨σ7, H7, I7, n7⟩ := q7; exact again I7 n7
    | cont => obtain ⟨σ7, H7, I7, n7⟩ := q7; exact again I7 n7
    | brk => obtain ⟨σ7, H7, I7, q7⟩ := q7; exact ⟨σ7, H7, I7.unpinned, q7⟩
    | ret v => obtain ⟨x7, σ7, H7, I7, r7, q7⟩ := q7; exact ⟨x7, σ7, H7, I7.unpinned, r7, q7⟩
end

/-! ### the forms one uses -/
theorem for_range {lo : Int} {n : Nat} {g : TG} {tb : TS} {D : Ends} {σ : St} {H : Hp} (Pv : Nat → St → Hp → Prop) (h0 : Pv 0 σ H)
    (hs : ∀ i σ H, i < n → Pv i σ H → g (.int (lo + i)) σ H fun σ2 H2 => tb { D with nx := Pv (i + 1), ct := Pv (i + 1), bk := D.nx } σ2 H2) (hd : ∀ σ H, Pv n σ H → D.nx σ H) :
    ∃ W : Nat → Nat → St → Hp → Prop, (∃ m, W 0 m σ H) ∧ ∀ i m σ H, W i m σ H →
      ((Itr lo n).stop i H ∧ D.nx σ H) ∨ ((Itr lo n).go i H ∧ ∃ N : St → Hp → Prop, (∀ σ' H', N σ' H' → ∃ m', m' < m ∧ W (i + 1) m' σ' H') ∧ ∀ x H', (Itr lo n).yld i H x H' → g x σ H' fun σ2 H2 => tb { D with nx := N, ct := N, bk := D.nx } σ2 H2) := by
  refine ⟨fun i m σ H => m = n - i ∧ i ≤ n ∧ Pv i σ H, ⟨n, by simp, Nat.zero_le _, h0⟩, ?_⟩
  rintro i m σ H ⟨rfl, hi, p⟩
  by_cases hlt : i < n
  · refine .inr ⟨hlt, Pv (i + 1), fun σ' H' p' => ⟨n - (i + 1), by omega, rfl, hlt, p'⟩, fun x H' y => ?_⟩
    obtain ⟨e, y⟩ := y
    subst e y
    exact hs i σ _ hlt p
  · have e : i = n := by omega
    subst e
    exact .inl ⟨Nat.le_refl _, hd σ H p⟩
end L2

namespace L2
open PySem PySem.Spec PyProof.Rows

abbrev R2 := V → V → Hp → VK → Prop
/-- a two-place operation on values: f is binaryOp op, inplaceOp op or compareOp op -/
def OpR (X : Cx) (f : Value → Value → Sem Value) (r : R2) : Prop :=
  ∀ (pins : List (Addr × Obj)) (s : Shared) (σ : St) (H : Hp) (x y : V) (v u : Value) (Q : VK), Inv X pins σ H s → RelV x v → RelV y u → r x y H Q →
    wpAny (model X.prog X.w) X.A (f v u) (EP X pins σ Q) X.xe s
/-- a one-place operation -/
def UnR (X : Cx) (f : Value → Sem Value) (r : V → Hp → VK → Prop) : Prop :=
  ∀ (pins : List (Addr × Obj)) (s : Shared) (σ : St) (H : Hp) (x : V) (v : Value) (Q : VK), Inv X pins σ H s → RelV x v → r x H Q →
    wpAny (model X.prog X.w) X.A (f v) (EP X pins σ Q) X.xe s
/-- a call of a value that is known (a builtin, a type) with values -/
def CallR (X : Cx) (f : Value) (r : List V → Hp → VK → Prop) : Prop :=
  ∀ (pins : List (Addr × Obj)) (s : Shared) (σ : St) (H : Hp) (xs : List V) (us : List Value) (Q : VK), Inv X pins σ H s → Vals xs us → r xs H Q →
    wpAny (model X.prog X.w) X.A (call f us) (EP X pins σ Q) X.xe s
def tOp (r : R2) (ta tb : TE) : TE := fun σ H Q => ta σ H fun x H1 => tb σ H1 fun y H2 => r x y H2 Q
def tUn (r : V → Hp → VK → Prop) (ta : TE) : TE := fun σ H Q => ta σ H fun x H1 => r x H1 Q
/-- ints in, under C, and a value out -/
def rI (C : Int → Int → Prop) (g : Int → Int → V) : R2 := fun x y H Q => ∃ i j, x = .int i ∧ y = .int j ∧ C i j ∧ Q (g i j) H
def rI0 (g : Int → Int → V) : R2 := fun x y H Q => ∃ i j, x = .int i ∧ y = .int j ∧ Q (g i j) H
def rU (g : Int → V) : V → Hp → VK → Prop := fun x H Q => ∃ i, x = .int i ∧ Q (g i) H

section
variable {X : Cx} {a b c : Expr} {ta tb tc : TE} {pos : Pos}

theorem binT (ha : PE X a ta) (hb : PE X b tb) {pins : List (Addr × Obj)} {s : Shared} {σ : St} {H : Hp} {R : V → V → Hp → Prop} (I : Inv X pins σ H s)
    (h : ta σ H fun x H1 => tb σ H1 fun y H2 => R x y H2) {Q : Value → Shared → Prop} {f : Value → Value → Sem Value}
    (hf : ∀ v u s2 x y H2, Inv X pins σ H2 s2 → RelV x v → RelV y u → R x y H2 → wpAny (model X.prog X.w) X.A (f v u) Q X.xe s2) :
    wpAny (model X.prog X.w) X.A (eval a X.env) (fun v s₁ => wpAny (model X.prog X.w) X.A (eval b X.env) (fun u s₂ => wpAny (model X.prog X.w) X.A (f v u) Q X.xe s₂) X.xe s₁) X.xe s := by
  refine thn (ha pins s σ H _ I h) fun v s1 ⟨x, H1, I1, r1, q1⟩ => ?_
  refine thn (hb pins s1 σ H1 _ I1 q1) fun u s2 ⟨y, H2, I2, r2, q2⟩ => ?_
  exact hf v u s2 x y H2 I2 r1 r2 q2

theorem pe_op {op : Operator} {r : R2} (ho : OpR X (binaryOp op) r) (ha : PE X a ta) (hb : PE X b tb) : PE X (.BinOp a op b pos) (tOp r ta tb) := by
  intro pins s σ H Q I h
  exact wpAny_BinOp (binT ha hb I h fun v u s2 x y H2 I2 rx ry q => ho pins s2 σ H2 x y v u Q I2 rx ry q)
theorem pe_un {op : UnaryOp} {r : V → Hp → VK → Prop} (ho : UnR X (unaryOp op) r) (ha : PE X a ta) : PE X (.UnaryOp op a pos) (tUn r ta) := by
  intro pins s σ H Q I h
  exact UnaryOp_ (thn (ha pins s σ H _ I h) fun v s1 ⟨x, H1, I1, r1, q1⟩ => ho pins s1 σ H1 x v Q I1 r1 q1)
/-! ### ints -/
theorem opI {f : Value → Value → Sem Value} {C : Int → Int → Prop} {g : Int → Int → Int}
    (rule : ∀ (i j : Int) (t u : Tok) (s : Shared) (Q : Value → Shared → Prop) (E : Value → Shared → Prop), C i j → Q (.int (g i j) s.toks) { s with toks := s.toks + 1 } → wpAny (model X.prog X.w) X.A (f (.int i t) (.int j u)) Q E s) :
    OpR X f (rI C fun i j => .int (g i j)) := by
  intro pins s σ H x y v u Q I rx ry h
  obtain ⟨i, j, rfl, rfl, hc, q⟩ := h
  obtain ⟨t, rfl⟩ := rx
  obtain ⟨t', rfl⟩ := ry
  exact rule i j t t' s _ _ hc ⟨.int (g i j), H, I.tok _, ⟨_, rfl⟩, q⟩
theorem opI0 {f : Value → Value → Sem Value} {g : Int → Int → Int}
    (rule : ∀ (i j : Int) (t u : Tok) (s : Shared) (Q : Value → Shared → Prop) (E : Value → Shared → Prop), Q (.int (g i j) s.toks) { s with toks := s.toks + 1 } → wpAny (model X.prog X.w) X.A (f (.int i t) (.int j u)) Q E s) :
    OpR X f (rI0 fun i j => .int (g i j)) := by
  intro pins s σ H x y v u Q I rx ry h
  obtain ⟨i, j, rfl, rfl, q⟩ := h
  obtain ⟨t, rfl⟩ := rx
  obtain ⟨t', rfl⟩ := ry
  exact rule i j t t' s _ _ ⟨.int (g i j), H, I.tok _, ⟨_, rfl⟩, q⟩
theorem opB0 {f : Value → Value → Sem Value} {g : Int → Int → Bool}
    (rule : ∀ (i j : Int) (t u : Tok) (s : Shared) (Q : Value → Shared → Prop) (E : Value → Shared → Prop), Q (.bool (g i j)) s → wpAny (model X.prog X.w) X.A (f (.int i t) (.int j u)) Q E s) :
    OpR X f (rI0 fun i j => .bl (g i j)) := by
  intro pins s σ H x y v u Q I rx ry h
  obtain ⟨i, j, rfl, rfl, q⟩ := h
  obtain ⟨t, rfl⟩ := rx
  obtain ⟨t', rfl⟩ := ry
  exact rule i j t t' s _ _ ⟨.bl (g i j), H, I, rfl, q⟩

def CDiv (i j : Int) : Prop := 0 < j ∧ j < 1073741824
def CPow (i j : Int) : Prop := 0 ≤ j ∧ j ≤ 1000000 ∧ i.natAbs < 2 ^ 64
def CMul (i j : Int) : Prop := (-(2 ^ 64) < i ∧ i < 2 ^ 64) ∨ (-(2 ^ 64) < j ∧ j < 2 ^ 64)
theorem CMul.ok {i j : Int} (h : CMul i j) : IntMulOk i j := by
  rcases h with ⟨h1, h2⟩ | ⟨h1, h2⟩
  · exact .of_left (intBits_le_64 h1 h2)
  · exact .of_right (intBits_le_64 h1 h2)
theorem op_add : OpR X (binaryOp .Add) (rI0 fun i j => .int (i + j)) := opI0 fun _ _ _ _ _ _ _ q => add_int q
theorem op_sub : OpR X (binaryOp .Sub) (rI0 fun i j => .int (i - j)) := opI0 fun _ _ _ _ _ _ _ q => sub_int q
theorem op_mul : OpR X (binaryOp .Mult) (rI CMul fun i j => .int (i * j)) := opI fun _ _ _ _ _ _ _ hc q => mul_int q hc.ok
/-- // by a positive divisor -/
theorem op_fdiv : OpR X (binaryOp .FloorDiv) (rI CDiv fun i j => .int (i / j)) := opI fun i j _ _ _ _ _ hc q => by
  have h1 : (0 : Int) < j := hc.1
  have h2 : j < 1073741824 := hc.2
  exact floordiv_int (by omega) (by rw [Int.fdiv_eq_ediv_of_nonneg i (by omega)]; exact q) (.inl (PyProof.noPylong_small (by omega)))
/-- % by a positive divisor of any size -/
theorem op_mod : OpR X (binaryOp .Mod) (rI (fun _ j => 0 < j) fun i j => .int (i % j)) := opI fun i j _ _ _ _ _ hc q => by
  have h1 : (0 : Int) < j := hc
  exact mod_int' (by omega) (by rw [Int.fmod_eq_emod_of_nonneg i (by omega)]; exact q)
theorem op_pow : OpR X (binaryOp .Pow) (rI CPow fun i j => .int (i ^ j.toNat)) := opI fun _ _ _ _ _ _ _ hc q => pow_int_small hc.1 hc.2.1 hc.2.2 q
theorem unI {f : Value → Sem Value} {g : Int → Int}
    (rule : ∀ (i : Int) (t : Tok) (s : Shared) (Q : Value → Shared → Prop) (E : Value → Shared → Prop), Q (.int (g i) s.toks) { s with toks := s.toks + 1 } → wpAny (model X.prog X.w) X.A (f (.int i t)) Q E s) :
    UnR X f (rU fun i => .int (g i)) := by
  intro pins s σ H x v Q I rx h
  obtain ⟨i, rfl, q⟩ := h
  obtain ⟨t, rfl⟩ := rx
  exact rule i t s _ _ ⟨.int (g i), H, I.tok _, ⟨_, rfl⟩, q⟩
theorem un_neg : UnR X (unaryOp .USub) (rU fun i => .int (-i)) := unI fun _ _ _ _ _ q => neg_int q
/-! ### bools among ints: n += (a < b) -/
end

/-! ### comparisons -/
/-- the scalars that == tells apart as data does -/
def scal : V → V → Bool
  | .non, .non => true | .non, .int _ => true | .int _, .non => true | .non, .bl _ => true | .bl _, .non => true | .non, .str _ => true | .str _, .non => true
  | .int _, .int _ => true | .bl _, .bl _ => true | .str _, .str _ => true | .byt _, .byt _ => true
  | .int _, .str _ => true | .str _, .int _ => true | .bl _, .str _ => true | .str _, .bl _ => true
  | _, _ => false
def rEq : R2 := fun x y H Q => scal x y = true ∧ Q (.bl (decide (x = y))) H
def rNe : R2 := fun x y H Q => scal x y = true ∧ Q (.bl (!decide (x = y))) H

theorem dec_int {i j : Int} : decide (V.int i = V.int j) = (i == j) := by
  rw [Bool.eq_iff_iff]
  simp
theorem dec_bl {i j : Bool} : decide (V.bl i = V.bl j) = (i == j) := by
  rw [Bool.eq_iff_iff]
  simp
theorem dec_str {i j : Str} : decide (V.str i = V.str j) = (i == j) := by
  rw [Bool.eq_iff_iff]
  simp
theorem dec_byt {i j : Array UInt8} : decide (V.byt i = V.byt j) = (i.toList == j.toList) := by
  rw [Bool.eq_iff_iff]
  cases i
  cases j
  simp

section
variable {X : Cx} {a b c : Expr} {ta tb tc : TE} {pos : Pos}
theorem fin_bl {pins : List (Addr × Obj)} {σ : St} {H : Hp} {s : Shared} {Q : VK} {k k' : Bool} (I : Inv X pins σ H s) (q : Q (.bl k) H) (e : k = k') : EP X pins σ Q (.bool k') s := by
  subst e
  exact ⟨.bl k, H, I, rfl, q⟩
theorem op_eq : OpR X (compareOp .Eq) rEq := by
  intro pins s σ H x y v u Q I rx ry h
  obtain ⟨hs, q⟩ := h
  cases x with
  | non =>
    cases rx
    cases y with
    | non => cases ry; exact PySem.EqNone.eq_none_none (fin_bl I q (by simp))
    | bl j => cases ry; exact PySem.EqNone.eq_none_bool (fin_bl I q (by simp))
    | int j => obtain ⟨t', rfl⟩ := ry; exact PySem.EqNone.eq_none_int (fin_bl I q (by simp))
    | str j => obtain ⟨t', rfl⟩ := ry; exact PySem.EqNone.eq_none_str (fin_bl I q (by simp))
    | _ => exact absurd (show false = true from hs) Bool.false_ne_true
  | bl i =>
    cases rx
    cases y with
    | non => cases ry; exact PySem.EqNone.eq_bool_none (fin_bl I q (by simp))
    | bl j => cases ry; exact eq_bool (fin_bl I q dec_bl)
    | str j => obtain ⟨t', rfl⟩ := ry; exact PySem.EqMixed.eq_bool_str (fin_bl I q (by simp))
    | _ => exact absurd (show false = true from hs) Bool.false_ne_true
  | int i =>
    obtain ⟨t, rfl⟩ := rx
    cases y with
    | non => cases ry; exact PySem.EqNone.eq_int_none (fin_bl I q (by simp))
    | int j => obtain ⟨t', rfl⟩ := ry; exact eq_int (fin_bl I q dec_int)
    | str j => obtain ⟨t', rfl⟩ := ry; exact PySem.EqMixed.eq_int_str (fin_bl I q (by simp))
    | _ => exact absurd (show false = true from hs) Bool.false_ne_true
  | str i =>
    obtain ⟨t, rfl⟩ := rx
    cases y with
    | non => cases ry; exact PySem.EqNone.eq_str_none (fin_bl I q (by simp))
    | bl j => cases ry; exact PySem.EqMixed.eq_str_bool (fin_bl I q (by simp))
    | int j => obtain ⟨t', rfl⟩ := ry; exact PySem.EqMixed.eq_str_int (fin_bl I q (by simp))
    | str j => obtain ⟨t', rfl⟩ := ry; exact eq_str (fin_bl I q dec_str)
    | _ => exact absurd (show false = true from hs) Bool.false_ne_true
  | byt i =>
    obtain ⟨t, rfl⟩ := rx
    cases y with
    | byt j => obtain ⟨t', rfl⟩ := ry; exact PySem.W.eq_bytes (fin_bl I q dec_byt)
    | _ => exact absurd (show false = true from hs) Bool.false_ne_true
  | _ => cases y <;> exact absurd (show false = true from hs) Bool.false_ne_true
theorem op_ne : OpR X (compareOp .NotEq) rNe := by
  intro pins s σ H x y v u Q I rx ry h
  obtain ⟨hs, q⟩ := h
  cases x with
  | non =>
    cases rx
    cases y with
    | non => cases ry; exact PySem.EqNone.ne_none_none (fin_bl I q (by simp))
    | bl j => cases ry; exact PySem.EqNone.ne_none_bool (fin_bl I q (by simp))
    | int j => obtain ⟨t', rfl⟩ := ry; exact PySem.EqNone.ne_none_int (fin_bl I q (by simp))
    | str j => obtain ⟨t', rfl⟩ := ry; exact PySem.EqNone.ne_none_str (fin_bl I q (by simp))
    | _ => exact absurd (show false = true from hs) Bool.false_ne_true
  | bl i =>
    cases rx
    cases y with
    | non => cases ry; exact PySem.EqNone.ne_bool_none (fin_bl I q (by simp))
    | bl j => cases ry; exact ne_bool (fin_bl I q (congrArg not dec_bl))
    | str j => obtain ⟨t', rfl⟩ := ry; exact PySem.EqMixed.ne_bool_str (fin_bl I q (by simp))
    | _ => exact absurd (show false = true from hs) Bool.false_ne_true
  | int i =>
    obtain ⟨t, rfl⟩ := rx
    cases y with
    | non => cases ry; exact PySem.EqNone.ne_int_none (fin_bl I q (by simp))
    | int j => obtain ⟨t', rfl⟩ := ry; exact ne_int (fin_bl I q (congrArg not dec_int))
    | str j => obtain ⟨t', rfl⟩ := ry; exact PySem.EqMixed.ne_int_str (fin_bl I q (by simp))
    | _ => exact absurd (show false = true from hs) Bool.false_ne_true
  | str i =>
    obtain ⟨t, rfl⟩ := rx
    cases y with
    | non => cases ry; exact PySem.EqNone.ne_str_none (fin_bl I q (by simp))
    | bl j => cases ry; exact PySem.EqMixed.ne_str_bool (fin_bl I q (by simp))
    | int j => obtain ⟨t', rfl⟩ := ry; exact PySem.EqMixed.ne_str_int (fin_bl I q (by simp))
    | str j => obtain ⟨t', rfl⟩ := ry; exact ne_str (fin_bl I q (congrArg not dec_str))
    | _ => exact absurd (show false = true from hs) Bool.false_ne_true
  | byt i =>
    obtain ⟨t, rfl⟩ := rx
    cases y with
    | byt j => obtain ⟨t', rfl⟩ := ry; exact PySem.W.ne_bytes (fin_bl I q (congrArg not dec_byt))
    | _ => exact absurd (show false = true from hs) Bool.false_ne_true
  | _ => cases y <;> exact absurd (show false = true from hs) Bool.false_ne_true

theorem op_lt : OpR X (compareOp .Lt) (rI0 fun i j => .bl (decide (i < j))) := opB0 fun _ _ _ _ _ _ _ q => lt_int q
theorem op_gt : OpR X (compareOp .Gt) (rI0 fun i j => .bl (decide (j < i))) := opB0 fun _ _ _ _ _ _ _ q => gt_int q
theorem op_ge : OpR X (compareOp .GtE) (rI0 fun i j => .bl (decide (j ≤ i))) := opB0 fun _ _ _ _ _ _ _ q => ge_int q
theorem nomark (b : Expr) {op : CmpOp} (h : op ≠ .In := by decide) (h2 : op ≠ .NotIn := by decide) : behindInMarks op b = false := by
  have e1 : (op == CmpOp.In) = false := by cases op <;> first | rfl | exact absurd rfl h
  have e2 : (op == CmpOp.NotIn) = false := by cases op <;> first | rfl | exact absurd rfl h2
  cases b <;> simp [behindInMarks, e1, e2]
/-- a comparison as a value; hm: nomark b, or (for in, not in) by with_unfolding_all rfl -/
theorem pe_cmpR {op : CmpOp} {r : R2} (ho : OpR X (compareOp op) r) (ha : PE X a ta) (hb : PE X b tb) (hm : behindInMarks op b = false) : PE X (.Compare a [op] [b] pos) (tOp r ta tb) := by
  intro pins s σ H Q I h
  exact wpAny_Compare1 (binT ha hb I h fun v u s2 x y H2 I2 rx ry q => ho pins s2 σ H2 x y v u Q I2 rx ry q) hm
/-- a reading of a value as a test -/
def tTest (t : TE) : TT := fun σ H Q => t σ H fun x H' => ∃ k, x = .bl k ∧ Q k H'
theorem pt_cmpR {op : CmpOp} {r : R2} (ho : OpR X (compareOp op) r) (ha : PE X a ta) (hb : PE X b tb) (hm : behindInMarks op b = false) : PT X (.Compare a [op] [b] pos) (tTest (tOp r ta tb)) := by
  intro pins s σ H Q I h
  refine wpAny_isTrue_Compare1 (thn (ha pins s σ H _ I h) fun v s1 ⟨x, H1, I1, r1, q1⟩ => thn (hb pins s1 σ H1 _ I1 q1) fun u s2 ⟨y, H2, I2, r2, q2⟩ =>
    thn (ho pins s2 σ H2 x y v u _ I2 r1 r2 q2) fun c s3 ⟨z, H3, I3, r3, k, e, q3⟩ => ?_) hm
  subst e
  cases r3
  exact wpAny_truthy_bool ⟨H3, I3, q3⟩
/-! ### truth -/
theorem line63 : (sizeLine : Nat) < 2 ^ 63 := by rw [sizeLine_eq]; decide
/-! ### strs and bytes -/
/-! ### scalar builtins, by CallR -/
theorem vals1 {x : V} {us : List Value} (r : Vals [x] us) : ∃ u, us = [u] ∧ RelV x u := by
  cases r with
  | cons r1 r2 => cases r2; exact ⟨_, rfl, r1⟩
theorem vals2 {x y : V} {us : List Value} (r : Vals [x, y] us) : ∃ u w', us = [u, w'] ∧ RelV x u ∧ RelV y w' := by
  cases r with
  | cons r1 r2 =>
    cases r2 with
    | cons r3 r4 => cases r4; exact ⟨_, _, rfl, r1, r3⟩
theorem call_abs : CallR X (.builtin "abs") (fun xs H Q => ∃ i, xs = [.int i] ∧ Q (.int (if i < 0 then -i else i)) H) := by
  intro pins s σ H xs us Q I r h
  obtain ⟨i, rfl, q⟩ := h
  obtain ⟨u, rfl, t, rfl⟩ := vals1 r
  exact call_abs_int fun u tk => ⟨.int (if i < 0 then -i else i), H, I.tok _, ⟨_, rfl⟩, q⟩
theorem call_max2 (hc : X.calm = true) : CallR X (.builtin "max") (fun xs H Q => ∃ i j, xs = [.int i, .int j] ∧ Q (.int (if j > i then j else i)) H) := by
  intro pins s σ H xs us Q I r h
  obtain ⟨i, j, rfl, q⟩ := h
  obtain ⟨u, w', rfl, ⟨t, rfl⟩, ⟨t', rfl⟩⟩ := vals2 r
  refine max_two_ints (I.ok.hd hc) fun h' tk k => ⟨_, H, I.kept k, ?_, q⟩
  by_cases hj : j > i
  · rw [if_pos hj, if_pos hj]; exact ⟨_, rfl⟩
  · rw [if_neg hj, if_neg hj]; exact ⟨_, rfl⟩
theorem call_bool1 : CallR X (.type "bool") (fun xs H Q => (∃ i, xs = [.int i] ∧ Q (.bl (i != 0)) H) ∨ ∃ k, xs = [.bl k] ∧ Q (.bl k) H) := by
  intro pins s σ H xs us Q I r h
  rcases h with ⟨i, rfl, q⟩ | ⟨k, rfl, q⟩
  · obtain ⟨u, rfl, t, rfl⟩ := vals1 r
    exact call_bool_int ⟨.bl (i != 0), H, I, rfl, q⟩
  · obtain ⟨u, rfl, r1⟩ := vals1 r
    cases r1
    exact call_bool_bool ⟨.bl k, H, I, rfl, q⟩
theorem call_str_int : CallR X (.type "str") (fun xs H Q => ∃ i, xs = [.int i] ∧ i.natAbs.log2 < 1920 ∧ Q (.str (toString i)) H) := by
  intro pins s σ H xs us Q I r h
  obtain ⟨i, rfl, hz, q⟩ := h
  obtain ⟨u, rfl, t, rfl⟩ := vals1 r
  exact PySem.P.str_of_int hz ⟨.str _, H, I.tok _, ⟨_, rfl⟩, q⟩
end
end L2

namespace L2
open PySem PySem.Spec PyProof.Rows

/-! ### an instance, its attributes a map -/
structure ObjM (h : Heap) (x dx C : Addr) (mA : Str → Option Value) : Prop where
  obj : h.get? x = some (PySem.W.instObj C dx)
  ns : h.Ns1 dx mA
  ne : dx ≠ x

theorem lookIn_ns {h : Heap} {dx : Addr} {mA : Str → Option Value} (n : h.Ns1 dx mA) : ∃ od, h.get? dx = some od ∧ ∀ name, PySem.W.lookIn name od = some (mA name) := by
  obtain ⟨o, es, ep, ho, hd, hk, _, hm⟩ := n
  refine ⟨o, ho, fun name => ?_⟩
  have e := hm name
  unfold nsFind findBy at e
  rw [← Array.find?_toList] at e
  unfold PySem.W.lookIn
  rw [hd]
  dsimp only
  split
  · rename_i y q
    rw [q] at e
    exact congrArg some e
  · rename_i q
    rw [q] at e
    have a : es.toList.any (·.refKey) = false := by
      rw [List.any_eq_false]
      intro y hy
      obtain ⟨z, t, hkey⟩ := hk y (Array.mem_toList_iff.mp hy)
      simp [DictEntry.refKey, hkey]
    have a' : ¬ es.toList.any (·.refKey) = true := by rw [a]; exact Bool.false_ne_true
    rw [if_neg a']
    exact congrArg some e

theorem ObjM.look {h : Heap} {x dx C : Addr} {mA : Str → Option Value} (I : ObjM h x dx C mA) : ∃ od, PySem.W.InstAt h x (PySem.W.instObj C dx) C (some od) ∧ ∀ name, PySem.W.lookIn name od = some (mA name) :=
  let ⟨od, ho, hl⟩ := lookIn_ns I.ns
  ⟨od, ⟨I.obj, rfl, rfl, ho⟩, hl⟩


/-! ### the attributes as a list of pairs -/
theorem RelO.some_of {v : V} {o : Option Value} (r : RelO (some v) o) : ∃ u, o = some u ∧ RelV v u := by
  cases o with
  | none => exact (show False from r).elim
  | some u => exact ⟨u, rfl, r⟩
section
variable {P : Program} {w : World} {H H' : Hp} {h h' : Heap} {a C dx : Addr} {fs fs' : List (Str × V)}
theorem ins_get (hok : HOk P w H h) (e : H a = some (.ins C dx fs)) : ∃ mA, ObjM h a dx C mA ∧ (∀ f, RelO (fs.lookup f) (mA f)) ∧ PySem.Within mA (fs.map (·.1)) ∧ fs.length ≤ 1000 ∧ H dx = some (.own a) := by
  obtain ⟨d, z, ne, ob, mA, n, r, q⟩ := (show ObjOk P w H h a (.ins C dx fs) from hok a _ e)
  exact ⟨mA, ⟨ob, n, ne⟩, r, q, z, d⟩
end

/-! ### what of the text a class must have -/
structure Cls (K : PySem.W.Frag) (C : Addr) : Prop where
  pg : PySem.W.plainGet K C Str.empty = true
  hd : PySem.W.hasDictIn K C = true
  po : PySem.W.plainOver K C = true
  sa : PySem.W.findIn K (.ref C) "__setattr__" = some (some (.builtin "object.__setattr__"))
theorem Cls.get {K : PySem.W.Frag} {C : Addr} (c : Cls K C) (f : Str) : PySem.W.plainGet K C f = true := c.pg

/-! ### readings and rules -/

/-! ### isinstance -/
section
variable {X : Cx} {pins : List (Addr × Obj)} {σ : St} {H : Hp} {s : Shared} {A : Around} {E : Value → Shared → Prop} {Q : Value → Shared → Prop} {c : Value} {b : Bool}
/-- the type of a value, as the fragment's deciders take it; for an instance its class -/
inductive TyOf (K : PySem.W.Frag) (H : Hp) : V → Value → Prop where
  | non : TyOf K H .non (.type "NoneType")
  | bl (x : Bool) : TyOf K H (.bl x) (.type "bool")
  | int (i : Int) : TyOf K H (.int i) (.type "int")
  | str (x : Str) : TyOf K H (.str x) (.type "str")
  | flt (x : UInt64) : TyOf K H (.flt x) (.type "float")
  | lst {a : Addr} {xs : List V} (e : H a = some (.lst xs)) : TyOf K H (.ref a) (.type "list")
  | frz {a : Addr} {o : Obj} {xs : List V} (e : H a = some (.frz o (.lst xs))) : TyOf K H (.ref a) (.type "list")
  | tup {a : Addr} {xs : List V} (e : H a = some (.tup xs)) : TyOf K H (.ref a) (.type "tuple")
  | dK {a : Addr} {kvs : List (Key × V)} (e : H a = some (.dK kvs)) : TyOf K H (.ref a) (.type "dict")
  | dT {a : Addr} {kvs : List (List Key × V)} (e : H a = some (.dT kvs)) : TyOf K H (.ref a) (.type "dict")
  | ins {a C dx : Addr} {fs : List (Str × V)} (e : H a = some (.ins C dx fs)) (cl : Cls K C) (ha : PySem.W.findIn K (.ref C) "__class__" = some (some (.builtin "object.__class__")))
      (hn : PySem.W.specialIn K (.builtin "object.__class__") "__get__" = some (some (.builtin "getset_descriptor.__get__"))) (htk : PySem.W.takesIn K (.builtin "object.__class__") = some true)
      (hm : PySem.W.mroIn K C (.type "object") = some true) : TyOf K H (.ref a) (.ref C)
/-- isinstance(x, c) for one class c, a built-in or an own one: kitOne's answer -/
theorem isinst_ok {x : V} {u t : Value} (I : Inv X pins σ H s) (rx : RelV x u) (ty : TyOf X.K H x t) (e : PySem.W.kitOne X.K t c = some b) (h : ∀ tk, Q (.bool b) { s with toks := tk }) :
    wpAny (model X.prog X.w) A (call (.builtin "isinstance") [u, c]) Q E s := by
  cases ty with
  | non => cases (show u = Value.none from rx); exact PySem.W.kia_one PySem.W.kitx_none I.kIn True.intro e (fun z => nomatch z) h
  | bl y => cases (show u = Value.bool y from rx); exact PySem.W.kia_one PySem.W.kitx_bool I.kIn True.intro e (fun z => nomatch z) h
  | int i => obtain ⟨t, q⟩ := (show ∃ t, u = Value.int i t from rx); cases q; exact PySem.W.kia_one PySem.W.kitx_int I.kIn True.intro e (fun z => nomatch z) h
  | str y => obtain ⟨t, q⟩ := (show ∃ t, u = Value.str y t from rx); cases q; exact PySem.W.kia_one PySem.W.kitx_str I.kIn True.intro e (fun z => nomatch z) h
  | flt y => obtain ⟨t, q⟩ := (show ∃ t, u = Value.float y t from rx); cases q; exact PySem.W.kia_one PySem.W.kitx_float I.kIn True.intro e (fun z => nomatch z) h
  | @lst a xs ea =>
    cases (show u = Value.ref a from rx)
    obtain ⟨_, _, n, _, h1⟩ := (show ObjOk X.prog X.w H s.heap a (.lst xs) from I.hok a _ ea)
    exact PySem.W.kia_one PySem.W.kitx_list I.kIn ⟨_, h1, rfl⟩ e (fun z => nomatch z) h
  | @frz a ob xs ea =>
    cases (show u = Value.ref a from rx)
    obtain ⟨_, _, _, n, _, h1⟩ := (show ObjOk X.prog X.w H s.heap a (.frz ob (.lst xs)) from I.hok a _ ea)
    exact PySem.W.kia_one PySem.W.kitx_list I.kIn ⟨_, h1, rfl⟩ e (fun z => nomatch z) h
  | @tup a xs ea =>
    cases (show u = Value.ref a from rx)
    obtain ⟨_, _, _, p⟩ := (show ObjOk X.prog X.w H s.heap a (.tup xs) from I.hok a _ ea)
    obtain ⟨o, h1, h2, _⟩ := p
    exact PySem.W.kia_one PySem.W.kitx_tuple I.kIn ⟨o, h1, h2⟩ e (fun z => nomatch z) h
  | @dK a kvs ea =>
    cases (show u = Value.ref a from rx)
    obtain ⟨_, _, vs, _, p⟩ := (show ObjOk X.prog X.w H s.heap a (.dK kvs) from I.hok a _ ea)
    obtain ⟨o, es, ep, h1, h2, _⟩ := p
    exact PySem.W.kia_one PySem.W.kitx_dict I.kIn ⟨o, h1, h2.1⟩ e (fun z => nomatch z) h
  | @dT a kvs ea =>
    cases (show u = Value.ref a from rx)
    obtain ⟨_, _, xs, _, o, es, ep, h1, h2, _⟩ := (show ObjOk X.prog X.w H s.heap a (.dT kvs) from I.hok a _ ea)
    exact PySem.W.kia_one PySem.W.kitx_dict I.kIn ⟨o, h1, h2.1⟩ e (fun z => nomatch z) h
  | @ins a C dx fs ea cl ha hn htk hm =>
    cases (show u = Value.ref a from rx)
    obtain ⟨mA, O, _⟩ := ins_get I.hok ea
    obtain ⟨od, J, _⟩ := O.look
    exact PySem.W.kia_one (PySem.W.kitx_own (cl.get _) cl.hd ha hn htk hm) I.kIn J e (fun z => nomatch z) h
end
end L2

namespace L2
open PySem PySem.Spec PyProof.Rows

/-! ### room -/
structure Room (k : Nat) (A : Around) : Prop where
  hd : A.handled = none
  dp : A.depth + 3 * k + 5 < recursionLimit
  un : A.units + 16 * k + 200 < cLine
  gd : A.guards = some []
theorem Room.mono {j k : Nat} {A : Around} (r : Room k A) (h : j ≤ k) : Room j A := ⟨r.hd, by have := r.dp; omega, by have := r.un; omega, r.gd⟩
theorem Room.deeper {k : Nat} {A : Around} (r : Room (k + 1) A) (env : Env) : Room k (A.deeper env) :=
  ⟨r.hd, by have := r.dp; show A.depth + 1 + 3 * k + 5 < _; omega, by have := r.un; show A.units + 3 + 16 * k + 200 < _; omega, r.gd⟩
theorem Room.depth {k : Nat} {A : Around} (r : Room k A) : A.depth < recursionLimit := by have := r.dp; omega
theorem Room.units {k : Nat} {A : Around} (r : Room k A) : A.units + 64 < cLine := by have := r.un; omega
theorem Room.units0 {k : Nat} {A : Around} (r : Room k A) : A.units < cLine := by have := r.un; omega

/-! ### argument lists and displays -/
def tNil : TA := fun _ H Q => Q [] H
def tCons (ta : TE) (tr : TA) : TA := fun σ H Q => ta σ H fun x H1 => tr σ H1 fun xs H2 => Q (x :: xs) H2
section
variable {X : Cx} {e : Expr} {es : List Expr} {te : TE} {t : TA} {pos : Pos}
theorem pa_nil : PA X [] tNil := fun _ _ _ _ H Q I h => Calls.spliced_nil ⟨[], H, I, .nil, h⟩
theorem pa_cons (ha : PE X e te) (hr : PA X es t) (hs : starEach (e :: es) X.env = (false, eval e X.env) :: starEach es X.env := by rfl) : PA X (e :: es) (tCons te t) := by
  intro pos pins s σ H Q I h
  rw [hs]
  show wpAny _ _ (spliced ((false, eval e X.env) :: backTo pos (starEach es X.env))) _ _ s
  refine Calls.spliced_cons (thn (ha pins s σ H _ I h) fun u s1 ⟨x, H1, I1, r1, q1⟩ => ?_)
  exact thn (hr pos pins s1 σ H1 _ I1 q1) fun us s2 ⟨xs, H2, I2, r2, q2⟩ => ⟨x :: xs, H2, I2, .cons r1 r2, q2⟩

/-- a tuple, a list of written items -/
def tTup (t : TA) : TE := fun σ H Q => t σ H fun xs H1 => xs.length ≤ sizeLine ∧ ∀ p, H1 p = none → Q (.ref p) (upd H1 p (.tup xs))
def tLst (t : TA) : TE := fun σ H Q => t σ H fun xs H1 => xs.length ≤ sizeLine ∧ ∀ p, H1 p = none → Q (.ref p) (upd H1 p (.lst xs))
theorem pe_tup {x1} (h : PA X es t) : PE X (.Tuple es x1 pos) (tTup t) := by
  intro pins s σ H Q I hq
  refine wpAny_Tuple_spliced (thn (h pos pins s σ H _ I hq) fun us s1 ⟨xs, H1, I1, r, z, q⟩ => ⟨by rw [← r.length]; exact z, ?_⟩)
  have hf : H1 s1.heap.objs.size = none := I1.hok.fresh (Nat.le_refl _)
  refine ⟨.ref s1.heap.objs.size, upd H1 s1.heap.objs.size (.tup xs), I1.laid (t' := s1.toks) (fun b u e => Heap.get?_push_of_some _ e) (Nat.le_refl _) ?_, rfl, q _ hf⟩
  exact ⟨z, us, r, ⟨_, Heap.get?_push_size _ rfl, rfl, _, rfl, rfl⟩⟩
theorem pe_lst (h : PA X es t) : PE X (.List es pos) (tLst t) := by
  intro pins s σ H Q I hq
  refine wpAny_List_spliced (thn (h pos pins s σ H _ I hq) fun us s1 ⟨xs, H1, I1, r, z, q⟩ => ⟨by rw [← r.length]; exact z, ?_⟩)
  have hf : H1 s1.heap.objs.size = none := I1.hok.fresh (Nat.le_refl _)
  refine ⟨.ref s1.heap.objs.size, upd H1 s1.heap.objs.size (.lst xs), I1.laid (t' := s1.toks) (fun b u e => Heap.get?_push_of_some _ e) (Nat.le_refl _) ?_, rfl, q _ hf⟩
  exact ⟨z, us, 0, r, Heap.get?_push_size _ rfl⟩
end

/-! ### what a def promises -/
/-- a def's promise: the bound arguments in the parameters' order, the heap, the wanted end, the wanted exception -/
abbrev Sp := List V → Hp → VK → XK → Prop
/-- how an exception lies behind a call (file 08 gives it): the callers' frames, abstract heap and state ahead of the call, the wish, the exception, the state -/
abbrev CXT := List Env → Hp → Shared → XK → Value → Shared → Prop

/-- the state at a call -/
structure Env0 (P : Program) (w : World) (K : PySem.W.Frag) (mg : Str → Option Value) (base : Heap) (A : Around) (outer : List Env) (s : Shared) (H : Hp) : Prop where
  frames : A.frames = some outer
  mod : Mod K mg base
  bs : ∀ b o, base.get? b = some o → s.heap.get? b = some o ∧ H b = none
  bsz : base.objs.size ≤ s.heap.objs.size
  funs : s.heap.FunFrames base outer
  frf : ∀ b ∈ frs outer, H b = none
  hok : HOk P w H s.heap
  bare : AllBare s.gens
/-- a call's end -/
def CE (outer : List Env) (P : Program) (w : World) (H : Hp) (s : Shared) (Q : VK) (u : Value) (s' : Shared) : Prop :=
  ∃ v H', s'.os = s.os ∧ AllBare s'.gens ∧ Un (frs outer) [] H H' s.heap s'.heap ∧ HOk P w H' s'.heap ∧ RelV v u ∧ Q v H'
def CR (CX : CXT) (outer : List Env) (P : Program) (w : World) (H : Hp) (s : Shared) (Q : VK) (E : XK) (r : Result) (s' : Shared) : Prop :=
  match r with
  | .ok (.ret u) => CE outer P w H s Q u s'
  | .ok _ => False
  | .error e => CX outer H s E e s'
structure FnOk (P : Program) (w : World) (K : PySem.W.Frag) (mg : Str → Option Value) (base : Heap) (CX : CXT) (k : Nat) (f : Addr) (fd : FuncData) (ps : List Str) (sp : Sp) : Prop where
  len : ∀ vs H Q E, sp vs H Q E → vs.length = ps.length
  run : ∀ (A : Around) (outer : List Env) (s : Shared) (H : Hp) (args : Args) (us : List Value) (vs : List V) (Q : VK) (E : XK), Room k A → Env0 P w K mg base A outer s H → BindsTo s fd args (ps.zip us) → Vals vs us → sp vs H Q E →
    codeAny (model P w) A (.call (.ref f) args) (CR CX outer P w H s Q E) s
section
variable {X : Cx} {pins : List (Addr × Obj)} {σ : St} {H : Hp} {s s' : Shared}
/-- from a body: what a callee wants -/
theorem Inv.env0 (I : Inv X pins σ H s) : Env0 X.prog X.w X.K X.mg X.base X.A X.stack s H :=
  ⟨I.ok.frames, I.ok.mod, I.bs, Nat.le_trans I.ok.bsz I.sz, I.stack, I.stkFree, I.hok, I.bare⟩
/-- behind a call -/
theorem Inv.after {Q : VK} {u : Value} (I : Inv X pins σ H s) (h : CE X.stack X.prog X.w H s Q u s') : EP X pins σ Q u s' := by
  obtain ⟨v, H', os, bare, un, hok, r, q⟩ := h
  obtain ⟨hh, g, d, t, os'⟩ := s'
  obtain rfl : os' = s.os := os
  exact ⟨v, H', I.call (h' := hh) (g' := g) (d' := d) (t' := t) (ch := []) un hok bare (fun b z => absurd z (by simp)), r, q⟩
end

/-! ### calls -/
/-- f(..): the written arguments, then the defaults dvs; E: what is wanted of an exception -/
def tCall (sp : Sp) (dvs : List V) (E : XK) (t : TA) : TE := fun σ H Q => t σ H fun vs H1 => sp (vs ++ dvs) H1 Q E
/-- how the parameters are bound: us the positional arguments, kw the keywords' values by name, ds the defaults that fill up -/
def Binds (K : PySem.W.Frag) (fd : FuncData) (ps : List Str) (ds : List Value) : Prop :=
  ∀ (s : Shared) (us : List Value), K.In s.heap → (us ++ ds).length = ps.length → BindsTo s fd ⟨us, []⟩ (ps.zip (us ++ ds))
/-- every parameter is given -/
theorem Binds.all {K : PySem.W.Frag} {fd : FuncData} {ps : List Str} (h : ∀ us : List Value, us.length = ps.length → bindArgs fd ⟨us, []⟩ = pure (ps.zip us)) : Binds K fd ps [] := fun s us _ hl => by
  rw [List.append_nil] at hl ⊢
  exact .of_eq (h us hl)

/-- an exception of a callee reaches what this body wants of exceptions -/
def Passes (CX : CXT) (X : Cx) (E : XK) : Prop := ∀ (pins : List (Addr × Obj)) (σ : St) (H : Hp) (s : Shared) (e : Value) (s' : Shared), Inv X pins σ H s → CX X.stack H s E e s' → X.xe e s'

section
variable {X : Cx} {CX : CXT} {k : Nat} {f C : Addr} {fd : FuncData} {ps : List Str} {sp : Sp} {dvs : List V} {ds : List Value} {E : XK} {x m : Str} {p pos apos : Pos} {e o : Expr} {es : List Expr} {ta : TE} {t : TA}

/-- the callee runs -/
theorem run_fn {pins : List (Addr × Obj)} {σ : St} {H : Hp} {s : Shared} {Q : VK} {us : List Value} {vs : List V} (F : FnOk X.prog X.w X.K X.mg X.base CX k f fd ps sp) (hr : Room k X.A) (hb : Binds X.K fd ps ds) (hd : Vals dvs ds) (hx : Passes CX X E)
    (I : Inv X pins σ H s) (r : Vals vs us) (h : sp (vs ++ dvs) H Q E) : wpAny (model X.prog X.w) X.A (call (.ref f) us) (EP X pins σ Q) X.xe s := by
  have r2 : Vals (vs ++ dvs) (us ++ ds) := r.append hd
  have hl : (us ++ ds).length = ps.length := by rw [← r2.length]; exact F.len _ _ _ _ h
  refine wpAny_call (codeAny_mono (F.run X.A X.stack s H ⟨us, []⟩ (us ++ ds) (vs ++ dvs) Q E hr I.env0 (hb s us I.kIn hl) r2 h) fun r s' hq => ?_)
  cases r with
  | error e => exact hx pins σ H s e s' I hq
  | ok fl =>
    cases fl with
    | ret u => exact I.after hq
    | next => exact False.elim hq
    | brk => exact False.elim hq
    | cont => exact False.elim hq

theorem pe_call (F : FnOk X.prog X.w X.K X.mg X.base CX k f fd ps sp) (hr : Room k X.A) (hg : Gl X x) (hm : X.mg x = some (.ref f)) (hk : PySem.W.keepIn X.K (.ref f) = true) (hb : Binds X.K fd ps ds) (hd : Vals dvs ds) (hx : Passes CX X E)
    (ha : PA X (e :: es) t) (hdb : (x == ("__debug__" : Str)) = false := by decide) (he : starEach (e :: es) X.env = (false, eval e X.env) :: starEach es X.env := by rfl) (hpl : (backTo pos (starEach es X.env)).any (·.1) = false := by rfl) :
    PE X (.Call (.Name x p) (e :: es) [] pos) (tCall sp dvs E t) := by
  intro pins s σ H Q I h
  refine wpAny_Call_Name_kw (ld_glob I hg hm ?_ hdb)
  refine PySem.W.callWith_K (h₀ := X.base) I.ok.mod.kin hk (thn (ha pos pins s σ H _ I h) fun us s1 ⟨vs, H1, I1, r, q⟩ => ⟨I1.kIn, ?_⟩) he hpl
  exact run_fn F hr hb hd hx I1 r q
end

/-! ### keywords -/

/-! ### a def's body keeps its promise -/
/-- names: the parameters first -/
structure FnScope (N P : List Str) (sc : Scope) : Prop where
  kind : sc.kind = .function
  co : sc.isCoroutine = false
  gen : sc.isGenerator = false
  nd : N.Nodup
  pre : N.take P.length = P
  par : ∀ x ∈ P, sc.names.lookup x = some .local ∨ sc.names.lookup x = some .cell
  nofree : ∀ y ∈ sc.names, y.2 ≠ .free

theorem bindL_out {kindOf : Str → Option NameKind} {x : Str} : ∀ {binds : List (Str × Value)} {m : Str → Option Value}, (∀ v, (x, v) ∉ binds) → bindL kindOf binds m x = m x
  | [], _, _ => rfl
  | (n, v) :: r, m, h => by
    unfold bindL
    rw [bindL_out fun w hw => h w (List.mem_cons_of_mem _ hw)]
    split
    · have : x ≠ n := by rintro rfl; exact h v List.mem_cons_self
      simp [this]
    · rfl
theorem bindC_out {kindOf : Str → Option NameKind} {x : Str} : ∀ {binds : List (Str × Value)} {m : Str → Option Value}, (∀ v, (x, v) ∉ binds) → bindC kindOf binds m x = m x
  | [], _, _ => rfl
  | (n, v) :: r, m, h => by
    unfold bindC
    rw [bindC_out fun w hw => h w (List.mem_cons_of_mem _ hw)]
    split
    · rfl
    · have : x ≠ n := by rintro rfl; exact h v List.mem_cons_self
      simp [this]
theorem bindL_get {kindOf : Str → Option NameKind} {x : Str} {v : Value} : ∀ {P : List Str} {vs : List Value} {i : Nat} {m : Str → Option Value}, P.Nodup → P[i]? = some x → vs[i]? = some v → kindOf x = some .local →
    bindL kindOf (P.zip vs) m x = some v
  | [], _, _, _, _, h, _, _ => by simp at h
  | _ :: _, [], _, _, _, _, h, _ => by simp at h
  | p :: P, w :: vs, 0, m, nd, h1, h2, hk => by
    simp at h1 h2; subst h1; subst h2
    show bindL kindOf ((p, w) :: P.zip vs) m p = _
    unfold bindL
    rw [bindL_out fun v hv => (List.nodup_cons.mp nd).1 (List.of_mem_zip hv).1, if_pos hk]
    simp
  | p :: P, w :: vs, i + 1, m, nd, h1, h2, hk => by
    show bindL kindOf ((p, w) :: P.zip vs) m x = _
    unfold bindL
    exact bindL_get (i := i) (List.nodup_cons.mp nd).2 (by simpa using h1) (by simpa using h2) hk
theorem bindC_get {kindOf : Str → Option NameKind} {x : Str} {v : Value} : ∀ {P : List Str} {vs : List Value} {i : Nat} {m : Str → Option Value}, P.Nodup → P[i]? = some x → vs[i]? = some v → kindOf x ≠ some .local →
    bindC kindOf (P.zip vs) m x = some v
  | [], _, _, _, _, h, _, _ => by simp at h
  | _ :: _, [], _, _, _, _, h, _ => by simp at h
  | p :: P, w :: vs, 0, m, nd, h1, h2, hk => by
    simp at h1 h2; subst h1; subst h2
    show bindC kindOf ((p, w) :: P.zip vs) m p = _
    unfold bindC
    rw [bindC_out fun v hv => (List.nodup_cons.mp nd).1 (List.of_mem_zip hv).1, if_neg hk]
    simp
  | p :: P, w :: vs, i + 1, m, nd, h1, h2, hk => by
    show bindC kindOf ((p, w) :: P.zip vs) m x = _
    unfold bindC
    exact bindC_get (i := i) (List.nodup_cons.mp nd).2 (by simpa using h1) (by simpa using h2) hk

/-- the names' values at the entry -/
def start (N : List Str) (vs : List V) : St := vs.map some ++ List.replicate (N.length - vs.length) none

/-- the context of a def's body, at its entry; an exception leaves the frame, then lies as CX says -/
def cxOf (CX : CXT) (P : Program) (w : World) (K : PySem.W.Frag) (mg : Str → Option Value) (base : Heap) (N : List Str) (qual : Str) (scope : Scope) (f : Addr) (cd : Value) (A : Around) (outer : List Env) (s : Shared) (H : Hp) (E : XK) : Cx where
  prog := P
  w := w
  K := K
  mg := mg
  base := base
  A := A.deeper (envOfC qual scope s.heap.objs.size f cd)
  N := N
  s₀ := s
  H₀ := H
  env := envOfC qual scope s.heap.objs.size f cd
  outer := outer
  stack := envOfC qual scope s.heap.objs.size f cd :: outer
  ex := []
  calm := true
  fn := fun _ => true
  pn := []
  xe := fun e s' => wpAny (model P w) (A.deeper (envOfC qual scope s.heap.objs.size f cd)) (leaving (envOfC qual scope s.heap.objs.size f cd) e) (fun _ s'' => CX outer H s E e s'') (fun e' s'' => CX outer H s E e' s'') s'

theorem cell_has {sc : Scope} {n : Nat} {x : Str} (h : sc.names.lookup x = some .cell) : ∃ c, (cellsFrom n sc.names []).lookup x = some c := by
  have q := PySem.W.cellsFrom_some sc.names n [] (.inl h)
  exact Option.isSome_iff_exists.mp q

theorem inv_start {CX : CXT} {P : Program} {w : World} {K : PySem.W.Frag} {mg : Str → Option Value} {base : Heap} {N ps : List Str} {qual : Str} {scope : Scope} {f : Addr} {cd : Value} {A : Around} {outer : List Env} {s s1 : Shared} {H : Hp} {E : XK} {us : List Value} {vs : List V}
    (S : FnScope N ps scope) (hd : A.handled = none) (e0 : Env0 P w K mg base A outer s H) (hl : vs.length = ps.length) (r : Vals vs us)
    (x : InCallC s s.heap.objs.size (bindL (envOfC qual scope s.heap.objs.size f cd).kindOf (ps.zip us) fun _ => none) (cellsFrom (s.heap.objs.size + 1) scope.names []) (bindC (envOfC qual scope s.heap.objs.size f cd).kindOf (ps.zip us) fun _ => none) s1) :
    Inv (cxOf CX P w K mg base N qual scope f cd A outer s H E) [] (start N vs) H s1 := by
  have hpl : ps.length ≤ N.length := by have := congrArg List.length S.pre; rw [List.length_take] at this; omega
  obtain ⟨h1, tk, rfl, hk⟩ := x.done
  have noA : ∀ b : Addr, b ∉ (cxOf CX P w K mg base N qual scope f cd A outer s H E).ex := fun b z => absurd (show b ∈ ([] : List Addr) from z) (by simp)
  refine ⟨⟨e0.mod, S.kind, rfl, rfl, Nat.le_refl _, fun y z c h1 h2 => ?_, fun y hy => ?_, fun y c _ h => ?_, fun _ => hd, Around.frames_deeper e0.frames, .inr ⟨rfl, rfl⟩, fun b z => absurd z (noA b), e0.bs, e0.bsz, fun b _ _ => noA b, fun b z => absurd z (noA b), e0.funs, e0.frf⟩,
    rfl, e0.bare, Un.kept hk, ⟨_, x.toInCall.ns, fun i y v h1 h2 h3 => ?_⟩, fun y c h => ⟨_, x.cell y c h⟩, e0.hok.fresh (Nat.le_refl _), fun y c h => ?_, fun p hp => absurd (show p ∈ ([] : List (Addr × Obj)) from hp) (by simp), e0.hok.kept hk, ?_⟩
  · exact name_of_addr x.apart (PySem.mem_of_lookup h1) (PySem.mem_of_lookup h2)
  · have hy : scope.names.lookup y = some .cell ∨ scope.names.lookup y = some .free := hy
    rcases hy with hy | hy
    · exact cell_has hy
    · exact absurd rfl (S.nofree _ (PySem.mem_of_lookup hy))
  · exact Nat.le_of_lt (x.above y c (PySem.mem_of_lookup h))
  · have hi : i < vs.length := by
      unfold start at h2
      by_cases hi : i < vs.length
      · exact hi
      · rw [List.getElem?_append_right (by simpa using hi)] at h2
        rw [List.getElem?_replicate] at h2
        split at h2 <;> cases h2
    have ha : vs[i]? = some v := by
      unfold start at h2
      rw [List.getElem?_append_left (by simpa using hi), List.getElem?_map] at h2
      cases e : vs[i]? with
      | none => rw [e] at h2; cases h2
      | some a => rw [e] at h2; cases h2; rfl
    obtain ⟨u, hu, rv⟩ := r.get ha
    have hp : ps[i]? = some y := by
      rw [← S.pre, List.getElem?_take_of_lt (by omega)]; exact h1
    have ndP : ps.Nodup := by rw [← S.pre]; exact S.nd.sublist (List.take_sublist _ _)
    refine ⟨u, rv, ?_⟩
    rcases S.par y (List.mem_of_getElem? hp) with k | k
    · exact .inl ⟨k, bindL_get ndP hp hu k⟩
    · obtain ⟨c, e⟩ := cell_has (n := s.heap.objs.size + 1) k
      refine .inr ⟨.inl k, c, e, ?_⟩
      have q := x.cell y c e
      rw [bindC_get ndP hp hu (by show scope.names.lookup y ≠ _; rw [k]; decide)] at q
      exact q
  · exact e0.hok.fresh (Nat.le_of_lt (x.above y c (PySem.mem_of_lookup h)))
  · unfold start
    show _ = N.length
    rw [List.length_append, List.length_map, List.length_replicate]
    omega

/-- THE RULE: a def (or a method) of the text, by its body. The body's reading t is chosen for each entry; it is run at the parameters' values -/
theorem fn_of {CX : CXT} {P : Program} {w : World} {K : PySem.W.Frag} {mg : Str → Option Value} {base : Heap} {k : Nat} {f : Addr} {name qual : Str} {params : Arguments} {body : List Stmt} {scope : Scope} {dV kV doc pm cdv ct oc : Value} {an od : Option Addr}
    {osl : Array (Option Value)} {N ps : List Str} {sp : Sp} (lk : K.lookup f = some ⟨oc, od, .func (PySem.W.fnOf name qual params body scope dV kV doc pm an cdv ct), osl⟩) (hcd : PySem.W.codeIn K cdv qual = true) (S : FnScope N ps scope)
    (len : ∀ vs H Q E, sp vs H Q E → vs.length = ps.length)
    (hbody : ∀ (A : Around) (outer : List Env) (s : Shared) (H : Hp) (vs : List V) (Q : VK) (E : XK), Room k (A.deeper (envOfC qual scope s.heap.objs.size f cdv)) → sp vs H Q E →
      ∃ t, PSs (cxOf CX P w K mg base N qual scope f cdv A outer s H E) body t ∧ t { nx := fun _ H' => Q .non H', rt := Q } (start N vs) H) :
    FnOk P w K mg base CX (k + 1) f (PySem.W.fnOf name qual params body scope dV kV doc pm an cdv ct) ps sp := by
  refine ⟨len, fun A outer s H args us vs Q E hr e0 hb r hsp => ?_⟩
  have hl := len _ _ _ _ hsp
  have KX : K.In s.heap := e0.mod.kin.keeps fun b o e => (e0.bs b o e).1
  have lim : s.heap.NoLimit := e0.mod.nolimit.keeps fun b o e => (e0.bs b o e).1
  have hkind : ∀ y ∈ ps.zip us, scope.names.lookup y.1 = some .local ∨ (scope.names.lookup y.1 = some .cell ∧ ((cellsFrom (s.heap.objs.size + 1) scope.names []).lookup y.1).isSome = true) := fun ⟨n, v⟩ hy => by
    rcases S.par n (List.of_mem_zip hy).1 with q | q
    · exact .inl q
    · exact .inr ⟨q, PySem.W.cellsFrom_some _ _ _ (.inl q)⟩
  refine codeAny_call_function hr.depth (KX _ _ lk) rfl S.co S.gen rfl (PySem.W.codeRec_of KX hcd) (hb _ _ _ _ ?_)
  refine wpAny_newFunctionEnv_cells S.kind hkind fun env he s1 x => ?_
  subst he
  refine ⟨lim.keeps x.toInCall.keep, codeAny_func ?_⟩
  obtain ⟨t, ht, hq⟩ := hbody A outer s H vs Q E (hr.deeper _) hsp
  have I : Inv (cxOf CX P w K mg base N qual scope f cdv A outer s H E) [] (start N vs) H s1 := inv_start S hr.hd e0 hl r x
  refine wpAny_mono (ht [] s1 (start N vs) H _ I hq) (fun fl s' hs => ?_) fun e s' hs => hs
  have fin : ∀ {σ' : St} {H' : Hp} {v : V} {u : Value}, Inv (cxOf CX P w K mg base N qual scope f cdv A outer s H E) [] σ' H' s' → RelV v u → Q v H' → CE outer P w H s Q u s' :=
    fun {σ' H' v u} J rv q => ⟨v, H', J.os, J.bare, J.base, J.hok, rv, q⟩
  cases fl with
  | ret u =>
    obtain ⟨v, σ', H', J, rv, q⟩ := hs
    exact fin J rv q
  | next =>
    obtain ⟨σ', H', J, q⟩ := hs
    exact fin (v := V.non) (u := Value.none) J rfl q
  | brk =>
    obtain ⟨_, _, _, q⟩ := hs
    exact False.elim q
  | cont =>
    obtain ⟨_, _, _, q⟩ := hs
    exact False.elim q
end L2

namespace L2
open PySem PySem.Spec PyProof.Rows
section
variable {X : Cx} {x : Str} {p pos : Pos} {e : Expr} {es : List Expr} {t : TA} {id T : String} {r : List V → Hp → VK → Prop}

def tCB (r : List V → Hp → VK → Prop) (t : TA) : TE := fun σ H Q => t σ H fun vs H1 => r vs H1 Q
/-- f(e, ..), f a built-in function -/
theorem pe_callB (hc : CallR X (.builtin id) r) (hg : Gl X x) (hm : X.mg x = none) (hv : bootBuiltins x = some (.builtin id)) (ha : PA X (e :: es) t) (hn : x ≠ "__name__" := by decide) (hdb : (x == ("__debug__" : Str)) = false := by decide)
    (he : starEach (e :: es) X.env = (false, eval e X.env) :: starEach es X.env := by rfl) (hpl : (backTo pos (starEach es X.env)).any (·.1) = false := by rfl) : PE X (.Call (.Name x p) (e :: es) [] pos) (tCB r t) := by
  intro pins s σ H Q I h
  refine wpAny_Call_Name_kw (ld_blt I hg hm hv ?_ hn hdb)
  exact PyProof.Rows.callWith_builtin1 (thn (ha pos pins s σ H _ I h) fun us s1 ⟨vs, H1, I1, r1, q1⟩ => hc pins s1 σ H1 vs us Q I1 r1 q1) he hpl
/-- T(e, ..), T a built-in type -/
theorem pe_callTy (hc : CallR X (.type T) r) (hg : Gl X x) (hm : X.mg x = none) (hv : bootBuiltins x = some (.type T)) (ha : PA X (e :: es) t) (hn : x ≠ "__name__" := by decide) (hdb : (x == ("__debug__" : Str)) = false := by decide)
    (he : starEach (e :: es) X.env = (false, eval e X.env) :: starEach es X.env := by rfl) (hpl : (backTo pos (starEach es X.env)).any (·.1) = false := by rfl) : PE X (.Call (.Name x p) (e :: es) [] pos) (tCB r t) := by
  intro pins s σ H Q I h
  refine wpAny_Call_Name_kw (ld_blt I hg hm hv ?_ hn hdb)
  exact PyProof.Rows.callWith_type1 (thn (ha pos pins s σ H _ I h) fun us s1 ⟨vs, H1, I1, r1, q1⟩ => hc pins s1 σ H1 vs us Q I1 r1 q1) he hpl
end
end L2

namespace HT
open PySem PyProof.Rows


section
variable {prog : Program} {w : World} {A : Around} {E : Value → Shared → Prop} {s : Shared}

/-- t + u, t not empty -/
theorem cat_tup {t b : Addr} {vs ws : List Value} {Q : Value → Shared → Prop} (ht : IsTup s.heap t vs.toArray) (hb : IsTup s.heap b ws.toArray) (hv : vs ≠ [])
    (h1 : ws = [] → Q (.ref t) s) (h2 : ws ≠ [] → Q (.ref s.heap.objs.size) { s with heap := s.heap.push { cls := .type "tuple", data := .seq (vs ++ ws).toArray } })
    (hsz : vs.length + ws.length ≤ sizeLine) : wpAny (model prog w) A (binaryOp .Add (.ref t) (.ref b)) Q E s := by
  obtain ⟨⟨cls, dd, data, sl⟩, ho, hc, n, hd⟩ := id ht
  obtain ⟨⟨cls2, dd2, data2, sl2⟩, ho2, hc2, n2, hd2⟩ := id hb
  simp only at hc hd hc2 hd2
  subst hc hd hc2 hd2
  have e : vs.toArray ++ ws.toArray = (vs ++ ws).toArray := by simp
  by_cases hw : ws = []
  · exact concat_meets ⟨_, ho, rfl⟩ ⟨_, ho2, rfl⟩ noFill_tuple_add seq_tuple_add PySem.F.slot_tuple_add PySem.F.entry_tuple_add (PySem.F.args_tuple_add_2 _ _)
      (tuple_addW1 t b vs.toArray ws.toArray n n2 dd dd2 sl sl2 (by simpa using hv) (by simp [hw])) ⟨ho, ho2, h1 hw⟩
  · refine concat_meets ⟨_, ho, rfl⟩ ⟨_, ho2, rfl⟩ noFill_tuple_add seq_tuple_add PySem.F.slot_tuple_add PySem.F.entry_tuple_add (PySem.F.args_tuple_add_2 _ _)
      (tuple_addW2 t b vs.toArray ws.toArray n n2 dd dd2 sl sl2 (by simpa using hv) (by simpa using hw) (by rw [List.size_toArray, List.size_toArray]; exact hsz)) ⟨ho, ho2, ?_⟩
    rw [e]
    exact h2 hw

/-! ### t[a:b], not the whole -/
/-- a slice's bound as a place among n (d where it is left out) -/
def sIx (n d : Nat) : Option Int → Nat
  | none => d
  | some v => if v < 0 then (v + (n : Int)).toNat else min v.toNat n
end
end HT

namespace L2
open PySem PySem.Spec PyProof.Rows

/-! ### the parts of a slice -/
abbrev TO := St → Hp → (Option Int → Hp → Prop) → Prop
/-- a slice's part (left out, or an int) -/
def PO (X : Cx) (e : Option Expr) (t : TO) : Prop :=
  ∀ (pins : List (Addr × Obj)) (s : Shared) (σ : St) (H : Hp) (Q : Option Int → Hp → Prop), Inv X pins σ H s → t σ H Q →
    wpAny (model X.prog X.w) X.A (evalPart e X.env) (fun u s' => ∃ o H', Inv X pins σ H' s' ∧ IsPart u o ∧ Q o H') X.xe s
def tNoPart : TO := fun _ H Q => Q none H
def tPart (t : TE) : TO := fun σ H Q => t σ H fun x H1 => ∃ i, x = .int i ∧ Q (some i) H1

theorem intsAre_of {ns : List Int} : ∀ {us : List Value}, Vals (ns.map V.int) us → IntsAre us ns := by
  induction ns with
  | nil => intro us r; rw [List.map_nil] at r; cases r; exact .nil
  | cons n ns ih =>
    intro us r
    rw [List.map_cons] at r
    cases r with
    | cons r1 r2 =>
      obtain ⟨t, e⟩ := r1
      subst e
      exact .cons n t (ih r2)

section
variable {X : Cx} {e : Expr} {te : TE} {lo hi : Option Expr} {tl th : TO} {pos p2 : Pos}

theorem po_none : PO X none tNoPart := by
  intro pins s σ H Q I h
  rw [evalPart_none]
  exact wpAny_pure ⟨none, H, I, .none, h⟩
theorem po_some (h : PE X e te) : PO X (some e) (tPart te) := by
  intro pins s σ H Q I hw
  rw [evalPart_some]
  refine thn (h pins s σ H _ I hw) fun u s1 ⟨x, H1, I1, r1, q1⟩ => ?_
  obtain ⟨i, rfl, q⟩ := q1
  obtain ⟨t, rfl⟩ := r1
  exact ⟨some i, H1, I1, .int i t, q⟩

/-- what a slice of a value is, by values: the slice object stands at sl -/
def SlR (X : Cx) (r : V → Option Int → Option Int → Hp → VK → Prop) : Prop :=
  ∀ (pins : List (Addr × Obj)) (s : Shared) (σ : St) (H : Hp) (x : V) (v vl vu : Value) (lo hi : Option Int) (sl : Addr) (Q : VK), Inv X pins σ H s → RelV x v → s.heap.IsSliceOf sl vl vu .none → IsPart vl lo → IsPart vu hi → r x lo hi H Q →
    ∃ T id, typeLookup (.type T) "__getitem__" = pure (some (.builtin id)) ∧ s.TypeIs v T ∧ wpAny (model X.prog X.w) X.A (getItem v (.ref sl)) (EP X pins σ Q) X.xe s
def tSl (r : V → Option Int → Option Int → Hp → VK → Prop) (te : TE) (tl th : TO) : TE := fun σ H Q => te σ H fun x H1 => tl σ H1 fun l H2 => th σ H2 fun u H3 => r x l u H3 Q
/-- a[lo:hi], any a -/
theorem pe_slice {r : V → Option Int → Option Int → Hp → VK → Prop} (hr : SlR X r) (he : PE X e te) (hl : PO X lo tl) (hu : PO X hi th) : PE X (.Subscript e (.Slice lo hi none p2) pos) (tSl r te tl th) := by
  intro pins s σ H Q I h
  refine Subscript_ (thn (he pins s σ H _ I h) fun v s1 ⟨x, H1, I1, r1, q1⟩ => ?_)
  refine wpAny_Slice (thn (hl pins s1 σ H1 _ I1 q1) fun vl s2 ⟨l, H2, I2, pl, q2⟩ => thn (hu pins s2 σ H2 _ I2 q2) fun vu s3 ⟨u, H3, I3, pu, q3⟩ => ?_)
  rw [evalPart_none]
  refine wpAny_pure ?_
  have I4 : Inv X pins σ H3 { s3 with heap := s3.heap.push { cls := .type "slice", data := .fields #[vl, vu, .none] } } := I3.kept (t' := s3.toks) fun b ob q => Heap.get?_push_of_some _ q
  obtain ⟨T, id, hT, ht, hg⟩ := hr pins { s3 with heap := s3.heap.push { cls := .type "slice", data := .fields #[vl, vu, .none] } } σ H3 x v vl vu l u s3.heap.objs.size Q I4 r1 (Heap.IsSliceOf.new ..) pl pu q3
  show wpAny (model X.prog X.w) X.A (subscriptTail e (.Slice lo hi none p2) v (.ref s3.heap.objs.size)) (EP X pins σ Q) X.xe { s3 with heap := s3.heap.push { cls := .type "slice", data := .fields #[vl, vu, .none] } }
  exact tail_any (ops := [.ref s3.heap.objs.size, v]) ht hT hg (by with_unfolding_all rfl)

/-- the items of xs[lo:hi] -/
def cutV (xs : List V) (lo hi : Option Int) : List V := (xs.drop (HT.sIx xs.length 0 lo)).take (HT.sIx xs.length xs.length hi - HT.sIx xs.length 0 lo)
theorem cutV_length (xs : List V) (lo hi : Option Int) : (cutV xs lo hi).length ≤ xs.length := by
  unfold cutV
  rw [List.length_take, List.length_drop]
  omega
/-! ### t < u, t + u -/
/-- t + u, t not empty: u empty gives t itself -/
def rCatT (K : PySem.W.Frag) : R2 := fun x y H Q => ∃ a b xs ys, x = .ref a ∧ y = .ref b ∧ SqT K H a xs ∧ SqT K H b ys ∧ xs ≠ [] ∧ xs.length + ys.length ≤ sizeLine ∧
  (ys = [] → Q (.ref a) H) ∧ (ys ≠ [] → ∀ p, H p = none → Q (.ref p) (upd H p (.tup (xs ++ ys))))
theorem Vals.nil_iff {xs : List V} {us : List Value} (r : Vals xs us) : us = [] ↔ xs = [] := by
  cases r with
  | nil => simp
  | cons _ _ => simp
theorem op_catT : OpR X (binaryOp .Add) (rCatT X.K) := by
  intro pins s σ H x y v u Q I rx ry h
  obtain ⟨a, b, xs, ys, rfl, rfl, ha, hb, hx, hz, q1, q2⟩ := h
  cases rx
  cases ry
  obtain ⟨its, r1, p1, _⟩ := I.tuple ha
  obtain ⟨its2, r2, p2, _⟩ := I.tuple hb
  refine HT.cat_tup p1 p2 (fun z => hx (r1.nil_iff.mp z)) (fun z => ⟨.ref a, H, I, rfl, q1 (r2.nil_iff.mp z)⟩) (fun z => ?_) (by rw [← r1.length, ← r2.length]; exact hz)
  refine ⟨.ref s.heap.objs.size, _, I.laid (t' := s.toks) (o := .tup (xs ++ ys)) (fun b ob q => Heap.get?_push_of_some _ q) (Nat.le_refl _) ?_, rfl, q2 (fun w => z (r2.nil_iff.mpr w)) _ (I.hok.fresh (Nat.le_refl _))⟩
  exact ⟨by rw [List.length_append]; exact hz, _, r1.append r2, IsTupN.new _ _⟩
end
end L2

namespace L2
open PySem PySem.Spec PyProof.Rows

/-! ### places -/
/-- the place that an index of any sign means -/
def ixN (n : Nat) (i : Int) : Option Nat := if 0 ≤ i then (if i < n then some i.toNat else none) else if -(n : Int) ≤ i then some (i + n).toNat else none
def atI {α : Type} (xs : List α) (i : Int) : Option α := (ixN xs.length i).bind fun j => xs[j]?
theorem ixN_seq {n : Nat} {i : Int} {j : Nat} (h : ixN n i = some j) : seqIndex? i n = some j ∧ j < n ∧ -(n : Int) ≤ i ∧ i < n := by
  unfold ixN at h
  by_cases h0 : 0 ≤ i
  · rw [if_pos h0] at h
    by_cases h1 : i < n
    · rw [if_pos h1] at h
      have e : i.toNat = j := Option.some.inj h
      exact ⟨by rw [seqIndex_of h0 h1, e], by omega, by omega, h1⟩
    · rw [if_neg h1] at h; cases h
  · rw [if_neg h0] at h
    by_cases h1 : -(n : Int) ≤ i
    · rw [if_pos h1] at h
      have e : (i + n).toNat = j := Option.some.inj h
      exact ⟨by rw [seqIndex_neg (by omega) h1, e], by omega, h1, by omega⟩
    · rw [if_neg h1] at h; cases h
theorem atI_get {α : Type} {xs : List α} {i : Int} {v : α} (h : atI xs i = some v) : ∃ j, seqIndex? i xs.length = some j ∧ xs[j]? = some v ∧ j < xs.length ∧ -(xs.length : Int) ≤ i ∧ i < xs.length := by
  unfold atI at h
  cases e : ixN xs.length i with
  | none => rw [e] at h; cases h
  | some j =>
    rw [e] at h
    obtain ⟨h1, h2, h3, h4⟩ := ixN_seq e
    exact ⟨j, h1, h, h2, h3, h4⟩
theorem atI_nat {α : Type} {xs : List α} {j : Nat} {v : α} (h : xs[j]? = some v) : atI xs (j : Int) = some v := by
  have hj : j < xs.length := (List.getElem?_eq_some_iff.mp h).1
  have e : ixN xs.length (j : Int) = some j := by
    unfold ixN
    rw [if_pos (by omega), if_pos (by omega)]; simp
  unfold atI; rw [e]; exact h
theorem atI_last {α : Type} (xs : List α) (v : α) : atI (xs ++ [v]) (-1) = some v := by
  have hl : (xs ++ [v]).length = xs.length + 1 := by simp
  have e : ixN (xs ++ [v]).length (-1) = some xs.length := by
    unfold ixN
    rw [hl, if_neg (by decide), if_pos (by omega)]
    congr 1
    omega
  unfold atI
  rw [e]
  show (xs ++ [v])[xs.length]? = some v
  simp

/-! ### what may be subscripted -/
/-- what stands as an index of a plain subscript -/
def PlainIx (b : Expr) : Prop := ∀ o i, subscripted b false o i = operate [o, i] (getItem o i)
/-- a subscript by values -/
def IxR (X : Cx) (r : R2) : Prop :=
  ∀ (value slice : Expr) (pins : List (Addr × Obj)) (s : Shared) (σ : St) (H : Hp) (x y : V) (v u : Value) (Q : VK), Inv X pins σ H s → RelV x v → RelV y u → r x y H Q →
    subscripted slice false v u = operate [v, u] (getItem v u) → wpAny (model X.prog X.w) X.A (subscriptTail value slice v u) (EP X pins σ Q) X.xe s
/-- a call of a builtin's method by values: the receiver, the arguments -/
def MtR (X : Cx) (id : String) (r : V → List V → Hp → VK → Prop) : Prop :=
  ∀ (pins : List (Addr × Obj)) (s : Shared) (σ : St) (H : Hp) (x : V) (xs : List V) (v : Value) (us : List Value) (Q : VK), Inv X pins σ H s → RelV x v → Vals xs us → r x xs H Q →
    wpAny (model X.prog X.w) X.A (call (.builtin id) (v :: us)) (EP X pins σ Q) X.xe s
section
variable {X : Cx} {a b : Expr} {ta tb : TE} {pos : Pos}
/-- a[b] -/
theorem pe_ix {r : R2} (hr : IxR X r) (ha : PE X a ta) (hb : PE X b tb) (hs : PlainIx b) : PE X (.Subscript a b pos) (tOp r ta tb) := by
  intro pins s σ H Q I h
  exact Subscript_ (binT ha hb I h fun v u s2 x y H2 I2 rx ry q => hr a b pins s2 σ H2 x y v u Q I2 rx ry q (hs _ _))

def rIxL (K : PySem.W.Frag) : R2 := fun x y H Q => ∃ p xs i v, x = .ref p ∧ y = .int i ∧ SqL K H p xs ∧ atI xs i = some v ∧ Q v H
def rIxT (K : PySem.W.Frag) : R2 := fun x y H Q => ∃ p xs i v, x = .ref p ∧ y = .int i ∧ SqT K H p xs ∧ atI xs i = some v ∧ Q v H
theorem ix_list : IxR X (rIxL X.K) := by
  intro value slice pins s σ H x y v u Q I rx ry h hs
  obtain ⟨p, xs, i, z, rfl, rfl, hq, he, q⟩ := h
  cases rx
  obtain ⟨t, rfl⟩ := ry
  obtain ⟨its, r, pl, hz⟩ := I.list hq
  obtain ⟨j, h1, h2, h3, h4, h5⟩ := atI_get he
  obtain ⟨w, ew, rw'⟩ := r.get h2
  have hl := r.length
  have hn := line63
  have fin : EP X pins σ Q w s := ⟨z, H, I, rw', q⟩
  by_cases h0 : 0 ≤ i
  · have hj : i.toNat = j := by
      rw [seqIndex_of h0 h5] at h1
      exact Option.some.inj h1
    exact item_listR pl.isList h0 (by omega) (by rw [hj]; simpa using ew) fin hs
  · have hj : (i + (its.toArray.size : Int)).toNat = j := by
      rw [seqIndex_neg (by omega) h4] at h1
      rw [List.size_toArray, ← hl]
      exact Option.some.inj h1
    exact subscriptTail_builtinR (x := w) pl.isList.typeIs slot_list_getitem.lookup
      (wpAny_getItem_list_neg (Q := fun r s' => r = w ∧ EP X pins σ Q r s') pl.isList (by omega) (by rw [List.size_toArray] <;> omega) (by omega) (by rw [hj]; simpa using ew) ⟨rfl, fin⟩) hs
theorem ix_tup : IxR X (rIxT X.K) := by
  intro value slice pins s σ H x y v u Q I rx ry h hs
  obtain ⟨p, xs, i, z, rfl, rfl, hq, he, q⟩ := h
  cases rx
  obtain ⟨t, rfl⟩ := ry
  obtain ⟨its, r, pl, hz⟩ := I.tuple hq
  obtain ⟨j, h1, h2, h3, h4, h5⟩ := atI_get he
  obtain ⟨w, ew, rw'⟩ := r.get h2
  have hl := r.length
  have hn := line63
  have fin : EP X pins σ Q w s := ⟨z, H, I, rw', q⟩
  exact subscriptTail_builtinR (x := w) pl.typeIs slot_tuple_getitem.lookup
    (getItem_tuple (j := j) (Q := fun r s' => r = w ∧ EP X pins σ Q r s') pl (by omega) (by omega) (by rw [List.size_toArray, ← hl]; exact h1) (by simpa using ew) ⟨rfl, fin⟩) hs
/-! ### xs[i] = v, any sign -/
/-- the list's object behind a store -/
theorem mapSeq_set (its : List Value) (n j : Nat) (u : Value) : Obj.mapSeq (·.setIfInBounds j u) { cls := .type "list", data := .seq its.toArray n } = { cls := .type "list", data := .seq (its.set j u).toArray n } := by
  simp [Obj.mapSeq]
theorem Inv.lst {pins : List (Addr × Obj)} {σ : St} {H : Hp} {s : Shared} {p : Addr} {xs : List V} (I : Inv X pins σ H s) (h : H p = some (.lst xs)) :
    ∃ (its : List Value) (n : Nat), Vals xs its ∧ s.heap.get? p = some { cls := .type "list", data := .seq its.toArray n } ∧ xs.length ≤ sizeLine := by
  obtain ⟨z, its, n, r, e⟩ := I.hok p _ h
  exact ⟨its, n, r, e, z⟩
/-- the list at p is written by an update of its object -/
theorem Inv.lstUpd {pins : List (Addr × Obj)} {σ : St} {H : Hp} {s : Shared} {p : Addr} {xs ys : List V} {its its' : List Value} {n n' : Nat} {f : Obj → Obj} (I : Inv X pins σ H s) (h : H p = some (.lst xs))
    (ho : s.heap.get? p = some { cls := .type "list", data := .seq its.toArray n }) (hf : f { cls := .type "list", data := .seq its.toArray n } = { cls := .type "list", data := .seq its'.toArray n' }) (r : Vals ys its') (hz : ys.length ≤ sizeLine) (t : Nat) :
    Inv X pins σ (upd H p (.lst ys)) { s with heap := s.heap.update p f, toks := t } := by
  have e : (s.heap.update p f).get? p = some { cls := .type "list", data := .seq its'.toArray n' } := by
    rw [Heap.get?_update_self f ho (by rw [hf] <;> rfl), hf]
  refine I.write (x := p) (e := p) (by rw [h]; trivial) (.inl rfl) (fun b u hb q => (Heap.get?_update_other _ _ (Ne.symm hb)).trans q) ⟨_, e⟩ ?_
  exact ⟨hz, its', n', r, e⟩
def rSetL : V → V → V → Hp → (Hp → Prop) → Prop := fun o i v H Q => ∃ p xs k j, o = .ref p ∧ i = .int k ∧ H p = some (.lst xs) ∧ ixN xs.length k = some j ∧ Q (upd H p (.lst (xs.set j v)))
theorem set_list : PSet X rSetL := by
  intro pins s σ H o i v ov iv u Q I ro ri rv h
  obtain ⟨p, xs, k, j, rfl, rfl, hp, hj, q⟩ := h
  cases ro
  obtain ⟨t, rfl⟩ := ri
  obtain ⟨its, n, r, ho, hz⟩ := I.lst hp
  obtain ⟨h1, h2, h3, h4⟩ := ixN_seq hj
  have hl := r.length
  have hn := line63
  have I' : Inv X pins σ (upd H p (.lst (xs.set j v))) { s with heap := s.heap.update p (Obj.mapSeq (·.setIfInBounds j u)) } :=
    I.lstUpd hp ho (mapSeq_set its n j u) (r.set rv j) (by rw [List.length_set]; exact hz) s.toks
  by_cases h0 : 0 ≤ k
  · have hk : k.toNat = j := by
      rw [seqIndex_of h0 h4] at h1
      exact Option.some.inj h1
    exact PySem.W.ki_setAt ho h0 (by omega) (by rw [List.size_toArray, ← hl]; exact h4) (by rw [hk]; exact ⟨_, I', q⟩)
  · have hk : (k + (its.toArray.size : Int)).toNat = j := by
      rw [seqIndex_neg (by omega) h3] at h1
      rw [List.size_toArray, ← hl]
      exact Option.some.inj h1
    exact PySem.W.ki_setBack ho (by omega) (by rw [List.size_toArray, ← hl]; exact h3) (by omega) (by rw [hk]; exact ⟨_, I', q⟩)

/-! ### slices -/
theorem slice_bounds (lo hi : Option Int) (n : Nat) : (sliceBounds lo hi none n).1 = ((HT.sIx n 0 lo : Nat) : Int) ∧ (sliceBounds lo hi none n).2.1 = ((HT.sIx n n hi : Nat) : Int) ∧ (sliceBounds lo hi none n).2.2 = 1 := by
  refine ⟨?_, ?_, rfl⟩
  · cases lo with
    | none => simp [sliceBounds, HT.sIx]
    | some i =>
      simp only [sliceBounds, HT.sIx, Option.getD_none, show (1 : Int) > 0 by decide, if_true]
      by_cases h : i < 0
      · simp only [h, if_true] <;> omega
      · simp only [h, if_false] <;> omega
  · cases hi with
    | none => simp [sliceBounds, HT.sIx]
    | some i =>
      simp only [sliceBounds, HT.sIx, Option.getD_none, show (1 : Int) > 0 by decide, if_true]
      by_cases h : i < 0
      · simp only [h, if_true] <;> omega
      · simp only [h, if_false] <;> omega
theorem slicePick_cut (its : List Value) (lo hi : Option Int) : slicePick its.toArray lo hi none = ((its.drop (HT.sIx its.length 0 lo)).take (HT.sIx its.length its.length hi - HT.sIx its.length 0 lo)).toArray := by
  obtain ⟨h1, h2, h3⟩ := slice_bounds lo hi its.toArray.size
  unfold slicePick
  rw [h1, h2, h3]
  simp only [sliceRange_one, pick_run, List.size_toArray] <;> rfl
/-- xs[lo:hi] of a list: a new list -/
def rSlL (K : PySem.W.Frag) : V → Option Int → Option Int → Hp → VK → Prop := fun x lo hi H Q => ∃ a xs, x = .ref a ∧ SqL K H a xs ∧ ∀ p, H p = none → Q (.ref p) (upd H p (.lst (cutV xs lo hi)))
theorem sl_list : SlR X (rSlL X.K) := by
  intro pins s σ H x v vl vu lo hi sl Q I rx hs pl pu h
  obtain ⟨a, xs, rfl, hx, q⟩ := h
  cases rx
  obtain ⟨its, r, ht, hz⟩ := I.list hx
  have hlen := r.length
  refine ⟨"list", _, slot_list_getitem.lookup, ht.isList.typeIs, ?_⟩
  refine wpAny_getItem_list_slice ht.isList hs pl pu .none (by simp) ?_ (by rw [List.size_toArray] <;> omega)
  rw [slicePick_cut, ← hlen]
  refine ⟨.ref s.heap.objs.size, _, I.laid (t' := s.toks) (o := .lst (cutV xs lo hi)) (fun b ob q => Heap.get?_push_of_some _ q) (Nat.le_refl _) ?_, rfl, q _ (I.hok.fresh (Nat.le_refl _))⟩
  exact ⟨Nat.le_trans (cutV_length xs lo hi) hz, _, 0, (r.drop (HT.sIx xs.length 0 lo)).take (HT.sIx xs.length xs.length hi - HT.sIx xs.length 0 lo), Heap.get?_push_size _ rfl⟩

/-! ### in, not in: flat items -/
def flatV : V → Bool
  | .non => true
  | .bl _ => true
  | .int _ => true
  | .str _ => true
  | _ => false
/-- == of flat values -/
def eqV : V → V → Bool
  | .non, .non => true
  | .bl a, .bl b => a == b
  | .bl a, .int b => (if a then 1 else 0) == b
  | .int a, .bl b => a == (if b then 1 else 0)
  | .int a, .int b => a == b
  | .str a, .str b => a == b
  | _, _ => false
theorem eqAt_V {A : Around} {s : Shared} {y x : V} {u v : Value} (ry : RelV y u) (rx : RelV x v) (fy : flatV y = true) (fx : flatV x = true) : SeqAt.EqAt A s u v (eqV y x) := by
  cases y with
  | non =>
    cases ry
    cases x with
    | non => cases rx; exact SeqAt.EqAt.same _
    | bl b => cases rx; exact SeqAt.EqAt.none_bool b
    | int b => obtain ⟨t, rfl⟩ := rx; exact SeqAt.EqAt.none_int b t
    | str b => obtain ⟨t, rfl⟩ := rx; exact SeqAt.EqAt.none_str b t
    | _ => exact absurd (show false = true from fx) Bool.false_ne_true
  | bl a =>
    cases ry
    cases x with
    | non => cases rx; exact SeqAt.EqAt.bool_none a
    | bl b => cases rx; exact SeqAt.EqAt.bool_bool a b
    | int b => obtain ⟨t, rfl⟩ := rx; exact SeqAt.EqAt.bool_int a b t
    | str b => obtain ⟨t, rfl⟩ := rx; exact SeqAt.EqAt.bool_str a b t
    | _ => exact absurd (show false = true from fx) Bool.false_ne_true
  | int a =>
    obtain ⟨t', rfl⟩ := ry
    cases x with
    | non => cases rx; exact SeqAt.EqAt.int_none a t'
    | bl b => cases rx; exact SeqAt.EqAt.int_bool a t' b
    | int b => obtain ⟨t, rfl⟩ := rx; exact SeqAt.EqAt.int_int a t' b t
    | str b => obtain ⟨t, rfl⟩ := rx; exact SeqAt.EqAt.int_str a t' b t
    | _ => exact absurd (show false = true from fx) Bool.false_ne_true
  | str a =>
    obtain ⟨t', rfl⟩ := ry
    cases x with
    | non => cases rx; exact SeqAt.EqAt.str_none a t'
    | bl b => cases rx; exact SeqAt.EqAt.str_bool a t' b
    | int b => obtain ⟨t, rfl⟩ := rx; exact SeqAt.EqAt.str_int a t' b t
    | str b => obtain ⟨t, rfl⟩ := rx; exact SeqAt.EqAt.str_str a t' b t
    | _ => exact absurd (show false = true from fx) Bool.false_ne_true
  | _ => exact absurd (show false = true from fy) Bool.false_ne_true
/-! ### len, list(x), tuple(x) of any list or tuple that is read -/
theorem call_len_seq : CallR X (.builtin "len") (fun xs H Q => ∃ p ys, xs = [.ref p] ∧ (SqL X.K H p ys ∨ SqT X.K H p ys) ∧ Q (.int ys.length) H) := by
  intro pins s σ H xs us Q I r h
  obtain ⟨p, ys, rfl, hq, q⟩ := h
  obtain ⟨u, rfl, rx⟩ := vals1 r
  cases rx
  have hn := line63
  rcases hq with hq | hq
  · obtain ⟨its, r', pl, hz⟩ := I.list hq
    have hlen := r'.length
    exact Calls.call_len_list pl.isList (by simp only [List.size_toArray] <;> omega) ⟨.int ys.length, H, I.tok _, ⟨s.toks + 1, by rw [List.size_toArray, hlen]⟩, q⟩
  · obtain ⟨its, r', pl, hz⟩ := I.tuple hq
    have hlen := r'.length
    exact len_tuple pl (by simp only [List.size_toArray] <;> omega) ⟨.int ys.length, H, I.tok _, ⟨s.toks + 1, by rw [List.size_toArray, hlen]⟩, q⟩
theorem call_list_of : CallR X (.type "list") (fun xs H Q => ∃ p ys, xs = [.ref p] ∧ (SqL X.K H p ys ∨ SqT X.K H p ys) ∧ ∀ l, H l = none → Q (.ref l) (upd H l (.lst ys))) := by
  intro pins s σ H xs us Q I r h
  obtain ⟨p, ys, rfl, hq, q⟩ := h
  obtain ⟨u, rfl, rx⟩ := vals1 r
  cases rx
  have fin : ∀ (its : List Value), Vals ys its → ys.length ≤ sizeLine → ∀ (h' : Heap) (c' : Nat), (∀ b o', s.heap.get? b = some o' → h'.get? b = some o') →
      h'.get? s.heap.objs.size = some { cls := .type "list", dict := none, data := .seq its.toArray c', slots := #[] } → EP X pins σ Q (.ref s.heap.objs.size) { s with heap := h' } := fun its r' hz h' c' kp e =>
    ⟨.ref s.heap.objs.size, _, I.laid (t' := s.toks) kp (Nat.le_refl _) (show ObjOk X.prog X.w _ h' _ (.lst ys) from ⟨hz, its, c', r', e⟩), rfl, q _ (I.hok.fresh (Nat.le_refl _))⟩
  rcases hq with hq | hq
  · obtain ⟨its, r', pl, hz⟩ := I.list hq
    have hlen := r'.length
    obtain ⟨o, ho, hc, n, hd⟩ := pl.isList
    exact call_list_seq p (.inl rfl) ho hc hd (fun h' c' kp e => fin its r' hz h' c' kp e) (by simp only [List.size_toArray] <;> omega)
  · obtain ⟨its, r', pl, hz⟩ := I.tuple hq
    have hlen := r'.length
    obtain ⟨o, ho, hc, n, hd⟩ := pl
    exact call_list_seq p (.inr rfl) ho hc hd (fun h' c' kp e => fin its r' hz h' c' kp e) (by simp only [List.size_toArray] <;> omega)
theorem call_tuple_of : CallR X (.type "tuple") (fun xs H Q => ∃ p ys, xs = [.ref p] ∧ ((SqL X.K H p ys ∧ ∀ l, H l = none → Q (.ref l) (upd H l (.tup ys))) ∨ (SqT X.K H p ys ∧ Q (.ref p) H))) := by
  intro pins s σ H xs us Q I r h
  obtain ⟨p, ys, rfl, h⟩ := h
  obtain ⟨u, rfl, rx⟩ := vals1 r
  cases rx
  rcases h with ⟨hq, q⟩ | ⟨hq, q⟩
  · obtain ⟨its, r', pl, hz⟩ := I.list hq
    have hlen := r'.length
    refine call_tuple_list pl.isList (fun h' kp => ?_) (by simp only [List.size_toArray] <;> omega)
    have I1 : Inv X pins σ H { s with heap := h' } := I.kept (t' := s.toks) kp
    have I2 : Inv X pins σ (upd H h'.objs.size (.tup ys)) { s with heap := h'.push { cls := .type "tuple", data := .seq its.toArray } } :=
      I1.laid (t' := s.toks) (fun b o e => Heap.get?_push_of_some _ e) (Nat.le_refl _) (show ObjOk X.prog X.w _ _ _ (.tup ys) from ⟨hz, its, r', IsTupN.new _ _⟩)
    exact ⟨.ref h'.objs.size, _, I2, rfl, q _ (I1.hok.fresh (Nat.le_refl _))⟩
  · obtain ⟨its, r', pl, hz⟩ := I.tuple hq
    exact call_tuple_same pl ⟨.ref p, H, I, rfl, q⟩

/-! ### the call of a builtin's method: o.m(..) -/
/-- the value is of that builtin type -/
def tyV (K : PySem.W.Frag) (T : String) (x : V) (H : Hp) : Prop := match x with
  | .str _ => T = "str"
  | .int _ => T = "int"
  | .ref p => (T = "list" ∧ ∃ xs, SqL K H p xs) ∨ (T = "tuple" ∧ ∃ o, K.lookup p = some o ∧ o.cls = .type "tuple" ∧ o.dict = none) ∨
      (T = "dict" ∧ ((∃ kvs, H p = some (.dK kvs)) ∨ ∃ kvs, H p = some (.dT kvs))) ∨ (T = "set" ∧ ∃ S n, H p = some (.set S n))
  | _ => False
theorem tyV_is {pins : List (Addr × Obj)} {σ : St} {H : Hp} {s : Shared} {T : String} {x : V} {v : Value} (I : Inv X pins σ H s) (r : RelV x v) (ty : tyV X.K T x H) :
    s.TypeIs v T ∧ ∀ a, v = .ref a → ∃ ob, s.heap.get? a = some ob ∧ ob.dict = none := by
  cases x with
  | str z =>
    obtain ⟨t, rfl⟩ := r
    cases (show T = "str" from ty)
    exact ⟨typeIs_str s z t, fun _ e => nomatch e⟩
  | int i =>
    obtain ⟨t, rfl⟩ := r
    cases (show T = "int" from ty)
    exact ⟨typeIs_int s i t, fun _ e => nomatch e⟩
  | ref p =>
    cases r
    rcases ty with ⟨rfl, xs, hq⟩ | ⟨rfl, o, hk, hc, hd⟩ | ⟨rfl, hk⟩ | ⟨rfl, S, n, hk⟩
    · obtain ⟨its, _, pl, _⟩ := I.list hq
      refine ⟨pl.isList.typeIs, fun a e => ?_⟩
      cases e
      obtain ⟨o, n, e, c, hd, _⟩ := pl
      exact ⟨o, e, hd⟩
    · refine ⟨⟨o, I.kIn p o hk, hc⟩, fun a e => ?_⟩
      cases e
      exact ⟨o, I.kIn _ o hk, hd⟩
    · have z : ∃ o, s.heap.get? p = some o ∧ o.ExactDict := by
        rcases hk with ⟨kvs, hk⟩ | ⟨kvs, hk⟩
        · obtain ⟨_, _, _, _, o, _, _, e, ex, _⟩ := I.hok p _ hk
          exact ⟨o, e, ex⟩
        · obtain ⟨_, _, _, _, o, _, _, e, ex, _⟩ := I.hok p _ hk
          exact ⟨o, e, ex⟩
      obtain ⟨o, e, ex⟩ := z
      refine ⟨⟨o, e, ex.1⟩, fun a e2 => ?_⟩
      cases e2
      exact ⟨o, e, ex.2.1⟩
    · obtain ⟨o, _, _, _, e, ex, _⟩ := I.hok p _ hk
      refine ⟨⟨o, e, ex.1⟩, fun a e2 => ?_⟩
      cases e2
      exact ⟨o, e, ex.2.1⟩
  | _ => exact False.elim ty
def tBM (K : PySem.W.Frag) (T : String) (r : V → List V → Hp → VK → Prop) (to : TE) (t : TA) : TE := fun σ H Q => to σ H fun x H1 => tyV K T x H1 ∧ t σ H1 fun xs H2 => r x xs H2 Q
variable {o e : Expr} {es : List Expr} {to : TE} {t : TA} {name : Str} {apos cpos : Pos} {T id : String} {r : V → List V → Hp → VK → Prop}
theorem pe_bm (pa : PlainAttrs T) (slot : Slot T name id) (hty : typeOf (.builtin id) = pure (.type "method_descriptor")) (hm : MtR X id r) (ho : PE X o to) (ha : PA X (e :: es) t)
    (hbase : attributeBase o name X.env (eval o X.env) = eval o X.env := by rfl)
    (hfew : ((backTo cpos (starEach (e :: es) X.env)).all (fun x => !x.1) && (backToKw cpos (keywordEach [] X.env)).all (fun x => x.1.isSome)
      && decide ((e :: es).length + ([] : List Keyword).length + (if ([] : List Keyword).isEmpty then 0 else 1) < 30)) = true := by rfl)
    (hline : (apos.endLine == cpos.line) = true := by rfl) (hs : starEach (e :: es) X.env = (false, eval e X.env) :: starEach es X.env := by rfl) (hplain : (backTo cpos (starEach es X.env)).any (·.1) = false := by rfl) :
    PE X (.Call (.Attribute o name apos) (e :: es) [] cpos) (tBM X.K T r to t) := by
  intro pins s σ H Q I h
  refine wpAny_Call_method_late hbase hfew hline rfl (thn (ho pins s σ H _ I h) fun v s1 ⟨x, H1, I1, r1, ty, q1⟩ => ?_)
  obtain ⟨h1, h2⟩ := tyV_is I1 r1 ty
  refine ⟨T, id, pa, slot, hty, h1, h2, ?_⟩
  have hA := ha cpos pins s1 σ H1 _ I1 q1
  rw [hs] at hA ⊢
  refine Calls.callWith_builtin (by show (false || (backTo cpos (starEach es X.env)).any (·.1)) = false; rw [hplain] <;> rfl) (Calls.evalArgs_plain ?_)
  exact thn hA fun us s2 ⟨vs, H2, I2, r2, q2⟩ => hm pins s2 σ H2 x vs v us Q I2 r1 r2 q2
/- xs.append(e), list.index on a module's tuple .. are MtR facts of 06m -/
end
end L2

namespace L2
open PySem PySem.Spec PyProof.Rows

def MtM (X : Cx) (id : String) (r : V → List V → Hp → VK → Prop) : Prop :=
  ∀ (pins : List (Addr × Obj)) (s : Shared) (σ : St) (H : Hp) (x : V) (xs : List V) (v : Value) (us : List Value) (Q : VK), Inv X pins σ H s → RelV x v → Vals xs us → r x xs H Q →
    wpAny (model X.prog X.w) X.A (call (.builtin id) (v :: us)) (EP X pins σ Q) X.xe s

/-! ### lists of values -/
theorem Vals.one : ∀ {x : V} {us : List Value}, Vals [x] us → ∃ u, us = [u] ∧ RelV x u
  | _, _, .cons r .nil => ⟨_, rfl, r⟩
theorem Vals.reverse {xs : List V} {us : List Value} (h : Vals xs us) : Vals xs.reverse us.reverse := by
  induction h with
  | nil => exact .nil
  | cons r t ih => rw [List.reverse_cons, List.reverse_cons]; exact Vals.append ih (.cons r .nil)
theorem Vals.rep {xs : List V} {us : List Value} (h : Vals xs us) : ∀ k : Nat, Vals (List.replicate k xs).flatten (List.replicate k us).flatten
  | 0 => .nil
  | k + 1 => by
    rw [List.replicate_succ, List.replicate_succ, List.flatten_cons, List.flatten_cons]
    exact Vals.append h (Vals.rep h k)
theorem foldl_rep (its : List Value) : ∀ (k : Nat) (acc : List Value),
    List.foldl (fun x1 x2 => x1 ++ x2) acc.toArray (List.replicate k its.toArray) = (acc ++ (List.replicate k its).flatten).toArray
  | 0, acc => by simp
  | k + 1, acc => by
    have e : acc.toArray ++ its.toArray = (acc ++ its).toArray := by simp
    have e2 : (acc ++ its) ++ (List.replicate k its).flatten = acc ++ (List.replicate (k + 1) its).flatten := by
      rw [List.replicate_succ, List.flatten_cons, List.append_assoc]
    rw [← e2, ← foldl_rep its k (acc ++ its), ← e, List.replicate_succ, List.foldl_cons]

section
variable {X : Cx} {pins : List (Addr × Obj)} {σ : St} {H : Hp} {s : Shared} {l b : Addr} {xs ys zs : List V}

/-! ### the two steps: a tracked list is rewritten, a new list is laid -/
theorem Inv.lset {its its' : List Value} {n : Nat} {f : Array Value → Array Value} {t' : Nat} (I : Inv X pins σ H s) (hH : H l = some (.lst xs))
    (e : s.heap.get? l = some { cls := .type "list", data := .seq its.toArray n }) (hf : f its.toArray = its'.toArray) (hv : Vals ys its') (hz : ys.length ≤ sizeLine) :
    Inv X pins σ (upd H l (.lst ys)) { s with heap := s.heap.update l (Obj.mapSeq f), toks := t' } := by
  have q := PySem.IsL.update e f
  rw [hf] at q
  refine I.write (x := l) (e := l) (by rw [hH]; exact trivial) (.inl rfl) (fun b' u hb hu => (Heap.get?_update_other s.heap (Obj.mapSeq f) (Ne.symm hb)).trans hu) ⟨_, q⟩ ?_
  exact ⟨hz, its', _, hv, q⟩
theorem Inv.lnew {its : List Value} {t' : Nat} (I : Inv X pins σ H s) (hv : Vals ys its) (hz : ys.length ≤ sizeLine) :
    Inv X pins σ (upd H s.heap.objs.size (.lst ys)) { s with heap := s.heap.push { cls := .type "list", data := .seq its.toArray }, toks := t' } :=
  I.laid (fun _ _ q => Heap.get?_push_of_some _ q) (Nat.le_refl _) ⟨hz, its, 0, hv, Heap.get?_push_size _ rfl⟩
theorem Inv.fresh (I : Inv X pins σ H s) : H s.heap.objs.size = none := I.hok.fresh (Nat.le_refl _)
theorem Inv.lstM (I : Inv X pins σ H s) (hH : H l = some (.lst xs)) : xs.length ≤ sizeLine ∧ ∃ (its : List Value) (n : Nat), Vals xs its ∧ xs.length = its.length ∧ s.heap.get? l = some { cls := .type "list", data := .seq its.toArray n } := by
  obtain ⟨z, its, n, r, e⟩ := I.hok l _ hH
  exact ⟨z, its, n, r, r.length, e⟩

theorem notLongL {n : Nat} (h : n ≤ sizeLine) : Builtin.List.listTooLong n = false := by
  unfold Builtin.List.listTooLong
  exact decide_eq_false (by omega)
end

section
variable {X : Cx}

/-! ### methods -/
def rAppend : V → List V → Hp → VK → Prop := fun x vs H Q => ∃ l xs y, x = .ref l ∧ vs = [y] ∧ H l = some (.lst xs) ∧ xs.length < sizeLine ∧ Q .non (upd H l (.lst (xs ++ [y])))
theorem mt_append : MtM X "list.append" rAppend := by
  intro pins s σ H x vs v us Q I rx rv h
  obtain ⟨l, xs, y, rfl, rfl, hH, hz, q⟩ := h
  cases rx
  obtain ⟨u, rfl, ru⟩ := rv.one
  obtain ⟨z, its, n, r, hl, e⟩ := I.lstM hH
  refine call_meets F.slot_list_append ⟨_, e, rfl⟩ F.entry_list_append (F.args_list_append_2 _ _) (PySem.list_append l its.toArray n u (by rw [List.size_toArray]; omega)) ⟨e, ?_⟩
  refine ⟨.non, _, I.lset (its' := its ++ [u]) hH e (by simp) (r.append (.cons ru .nil)) ?_, rfl, q⟩
  rw [List.length_append, List.length_singleton]
  omega

def rExtend : V → List V → Hp → VK → Prop := fun x vs H Q => ∃ l b xs zs, x = .ref l ∧ vs = [.ref b] ∧ H l = some (.lst xs) ∧ H b = some (.lst zs) ∧ xs.length + zs.length ≤ sizeLine ∧ Q .non (upd H l (.lst (xs ++ zs)))
theorem mt_extend : MtM X "list.extend" rExtend := by
  intro pins s σ H x vs v us Q I rx rv h
  obtain ⟨l, b, xs, zs, rfl, rfl, hH, hB, hz, q⟩ := h
  cases rx
  obtain ⟨u, rfl, ru⟩ := rv.one
  cases ru
  obtain ⟨z, its, n, r, hl, e⟩ := I.lstM hH
  obtain ⟨z2, its2, n2, r2, hl2, e2⟩ := I.lstM hB
  have hsz : its.toArray.size + its2.toArray.size ≤ sizeLine := by rw [List.size_toArray, List.size_toArray]; omega
  have hlong : ¬ (!its.toArray.isEmpty && Builtin.List.listTooLong (its.toArray.size + its2.toArray.size)) = true := by
    rw [notLongL hsz, Bool.and_false]
    exact Bool.false_ne_true
  refine call_meets F.slot_list_extend ⟨_, e, rfl⟩ F.entry_list_extend (F.args_list_extend_2 _ _)
    (AutoSeq1.list_extend_list_list_0 l its.toArray n b its2.toArray n2 hlong (by rw [List.size_toArray]; omega) (by omega)) ⟨e, e2, ?_⟩
  refine ⟨.non, _, I.lset (its' := its ++ its2) hH e (by simp) (r.append r2) ?_, rfl, q⟩
  rw [List.length_append]
  omega

/-! ### list + list, list += list, list * int -/
def rCat : R2 := fun x y H Q => ∃ l b xs zs, x = .ref l ∧ y = .ref b ∧ H l = some (.lst xs) ∧ H b = some (.lst zs) ∧ xs.length + zs.length ≤ sizeLine ∧ ∀ p, H p = none → Q (.ref p) (upd H p (.lst (xs ++ zs)))
theorem op_cat : OpR X (binaryOp .Add) rCat := by
  intro pins s σ H x y v u Q I rx ry h
  obtain ⟨l, b, xs, zs, rfl, rfl, hH, hB, hz, q⟩ := h
  cases rx
  cases ry
  obtain ⟨z, its, n, r, hl, e⟩ := I.lstM hH
  obtain ⟨z2, its2, n2, r2, hl2, e2⟩ := I.lstM hB
  refine PySem.P.add_list e e2 ?_ (by rw [List.size_toArray, List.size_toArray]; omega)
  have ea : its.toArray ++ its2.toArray = (its ++ its2).toArray := by simp
  rw [ea]
  exact ⟨.ref _, _, I.lnew (t' := s.toks) (r.append r2) (by rw [List.length_append]; omega), rfl, q _ I.fresh⟩
/-- a list times an int (a negative one is nothing) -/
def rRep : R2 := fun x y H Q => ∃ l k xs, x = .ref l ∧ y = .int k ∧ H l = some (.lst xs) ∧ -(2 ^ 63) ≤ k ∧ k < 2 ^ 63 ∧ xs.length * k.toNat ≤ sizeLine ∧
  ∀ p, H p = none → Q (.ref p) (upd H p (.lst (List.replicate k.toNat xs).flatten))
theorem len_rep {α : Type} (xs : List α) (k : Nat) : (List.replicate k xs).flatten.length = k * xs.length := by
  induction k with
  | zero => simp
  | succ k ih => rw [List.replicate_succ, List.flatten_cons, List.length_append, ih, Nat.succ_mul, Nat.add_comm]
theorem op_rep : OpR X (binaryOp .Mult) rRep := by
  intro pins s σ H x y v u Q I rx ry h
  obtain ⟨l, k, xs, rfl, rfl, hH, h1, h2, hz, q⟩ := h
  cases rx
  obtain ⟨t, rfl⟩ := ry
  obtain ⟨z, its, n, r, hl, e⟩ := I.lstM hH
  have hlen : its.toArray.size * k.toNat ≤ sizeLine := by rw [List.size_toArray, ← hl]; exact hz
  have hcap : ¬ its.toArray.size * k.toNat > (2 ^ 63 - 1) / 8 := by
    have : (sizeLine : Nat) ≤ (2 ^ 63 - 1) / 8 := by decide
    omega
  have hfit : ¬ (!Builtin.List.listFitsIndex k) = true := by
    rw [fitsIndex_both h1 h2]
    exact Bool.false_ne_true
  have hlong : ¬ Builtin.List.listTooLong (its.toArray.size * k.toNat) = true := by
    rw [notLongL hlen]
    exact Bool.false_ne_true
  have hnew : List.foldl (fun x1 x2 => x1 ++ x2) #[] (List.replicate (if its.toArray.isEmpty = true then 0 else k.toNat) its.toArray) = (List.replicate k.toNat its).flatten.toArray := by
    have f0 : ∀ m : Nat, List.foldl (fun x1 x2 => x1 ++ x2) #[] (List.replicate m its.toArray) = (List.replicate m its).flatten.toArray := fun m => by
      have := foldl_rep its m []
      rw [List.nil_append] at this
      exact this
    rw [f0]
    cases its with
    | nil => simp
    | cons a r' => rw [if_neg (by simp)]
  refine wpAny_binaryOp_repeat_ref (T := "list") (U := "int") (by decide) ⟨_, e, rfl⟩ (fun s' => typeIs_int s' k t) noFill_list_mul F.fills_int_mul F.slot_int_rmul repeat_list F.slot_int_index.lookup
    (call_meets F.slot_int_rmul (typeIs_int s k t) F.entry_int_rmul (F.args_int_rmul_2 _ _) (int___rmul___int_list k t l its.toArray n)
      ⟨e, rfl, ⟨_, e, rfl⟩, call_meets F.slot_list_mul ⟨_, e, rfl⟩ F.entry_list_mul (F.args_list_mul_2 _ _) (AutoListH.list___mul___list_int_3 l its.toArray n k t hfit hcap hlong) ⟨e, ?_⟩⟩)
  rw [hnew]
  exact ⟨.ref _, _, I.lnew (t' := s.toks) (r.rep k.toNat) (by rw [len_rep, Nat.mul_comm]; exact hz), rfl, q _ I.fresh⟩

/-! ### del xs[i] -/
end

/-! ### xs[a:b] = ys -/

end L2
namespace L2
open PySem PySem.Spec PyProof.Rows

/-! ### lists of pairs as tables -/
section
variable {κ : Type} [DecidableEq κ]
def valV (kvs : List (κ × V)) (k : κ) : Option V := (kvs.find? fun kv => decide (kv.1 = k)).map (·.2)
/-- in its place, or at the end -/
def putK (kvs : List (κ × V)) (k : κ) (v : V) : List (κ × V) :=
  if (kvs.any fun kv => decide (kv.1 = k)) = true then kvs.map (fun kv => if kv.1 = k then (kv.1, v) else kv) else kvs ++ [(k, v)]
theorem valV_pos {p : κ × V} {r : List (κ × V)} {k : κ} (e : p.1 = k) : valV (p :: r) k = some p.2 := by simp [valV, List.find?_cons, e]
theorem valV_neg {p : κ × V} {r : List (κ × V)} {k : κ} (e : ¬ p.1 = k) : valV (p :: r) k = valV r k := by simp [valV, List.find?_cons, e]
theorem valV_any (k : κ) : ∀ kvs : List (κ × V), (kvs.any fun kv => decide (kv.1 = k)) = (valV kvs k).isSome
  | [] => rfl
  | p :: r => by
    rw [List.any_cons]
    by_cases e : p.1 = k
    · simp only [valV_pos e, decide_eq_true e, Bool.true_or, Option.isSome_some]
    · rw [valV_neg e, decide_eq_false e, Bool.false_or]; exact valV_any k r
theorem length_putK (kvs : List (κ × V)) (k : κ) (v : V) : (putK kvs k v).length ≤ kvs.length + 1 := by
  unfold putK
  split
  · rw [List.length_map]; omega
  · rw [List.length_append, List.length_cons, List.length_nil]; omega
theorem RelO.isSome_eq {o : Option V} {u : Option Value} (r : RelO o u) : o.isSome = u.isSome := by
  cases o with
  | none => cases u with
    | none => rfl
    | some _ => exact (show False from r).elim
  | some _ => cases u with
    | none => exact (show False from r).elim
    | some _ => rfl
/-- raw tables of the same keys -/
theorem KV.val {kvs : List (κ × V)} {vs : List (κ × Value)} (r : KV kvs vs) (k : κ) : RelO (valV kvs k) (valueAt vs k) := by
  unfold KV at r
  induction r with
  | nil => exact True.intro
  | @cons p q ps qs h t ih =>
    obtain ⟨h1, h2⟩ := h
    by_cases e : p.1 = k
    · have e' : q.1 = k := h1.symm.trans e
      have b : valueAt (q :: qs) k = some q.2 := by simp [valueAt, List.find?_cons, e']
      rw [valV_pos e, b]; exact h2
    · have e' : ¬ q.1 = k := fun z => e (h1.trans z)
      have b : valueAt (q :: qs) k = valueAt qs k := by simp [valueAt, List.find?_cons, e']
      rw [valV_neg e, b]; exact ih
theorem KV.any {kvs : List (κ × V)} {vs : List (κ × Value)} (r : KV kvs vs) (k : κ) : (kvs.any fun kv => decide (kv.1 = k)) = vs.any fun kv => decide (kv.1 = k) := by
  unfold KV at r
  induction r with
  | nil => rfl
  | cons h t ih => rw [List.any_cons, List.any_cons, ih, h.1]
theorem KV.repl {kvs : List (κ × V)} {vs : List (κ × Value)} (r : KV kvs vs) (k : κ) {y : V} {u : Value} (ry : RelV y u) :
    KV (kvs.map fun kv => if kv.1 = k then (kv.1, y) else kv) (vs.map fun kv => if kv.1 = k then (kv.1, u) else kv) := by
  unfold KV at r ⊢
  induction r with
  | nil => exact .nil
  | @cons p q ps qs h t ih =>
    rw [List.map_cons, List.map_cons]
    refine .cons ?_ ih
    obtain ⟨h1, h2⟩ := h
    by_cases e : p.1 = k
    · rw [if_pos e, if_pos (h1.symm.trans e)]; exact ⟨h1, ry⟩
    · rw [if_neg e, if_neg (fun z => e (h1.trans z))]; exact ⟨h1, h2⟩
theorem KV.put {kvs : List (κ × V)} {vs : List (κ × Value)} (r : KV kvs vs) (k : κ) {y : V} {u : Value} (ry : RelV y u) : KV (putK kvs k y) (stored vs k u) := by
  unfold putK stored
  rw [r.any k]
  by_cases e : (vs.any fun kv => decide (kv.1 = k)) = true
  · rw [if_pos e, if_pos e]; exact r.repl k ry
  · rw [if_neg e, if_neg e]; exact Paired.snoc r ⟨rfl, ry⟩
theorem KV.length {kvs : List (κ × V)} {vs : List (κ × Value)} (r : KV kvs vs) : kvs.length = vs.length := Paired.length r
end


/-! ### a tracked dict, its keys ints and texts or tuples of these -/
theorem kV_is {P : Program} {w : World} {k : Key} {u : Value} (r : RelV (kV k) u) : (mixKind P w).is k u = true := by
  cases k with
  | inl i => obtain ⟨t, e⟩ := (show ∃ t, u = Value.int i t from r); subst e; exact mixKind_int P w i t
  | inr x => obtain ⟨t, e⟩ := (show ∃ t, u = Value.str x t from r); subst e; exact mixKind_str P w x t
theorem items_are {P : Program} {w : World} : ∀ {ks : List Key} {us : List Value}, Vals (ks.map kV) us → ItemsAre (mixKind P w) ks us
  | [], _, r => by rw [List.map_nil] at r; cases r; exact .nil
  | k :: ks, _, r => by
    rw [List.map_cons] at r
    cases r with
    | cons h t => exact .cons (kV_is h) (items_are t)

/-- raw entries of a dict with tuple keys -/
abbrev KT (H : Hp) : List (List Key × V) → List (List Key × Addr × Value) → Prop := Paired fun p q => p.1 = q.1 ∧ H q.2.1 = some (.tup (p.1.map kV)) ∧ RelV p.2 q.2.2
theorem KT.val {H : Hp} {kvs : List (List Key × V)} {xs : List (List Key × Addr × Value)} (r : KT H kvs xs) (k : List Key) : RelO (valV kvs k) ((atKey xs k).map (·.2)) := by
  induction r with
  | nil => exact True.intro
  | @cons p q ps qs h t ih =>
    obtain ⟨h1, _, h2⟩ := h
    by_cases e : p.1 = k
    · have e' : q.1 = k := h1.symm.trans e
      have b : atKey (q :: qs) k = some q.2 := by simp [atKey, List.find?_cons, e']
      rw [valV_pos e, b]; exact h2
    · have e' : ¬ q.1 = k := fun z => e (h1.trans z)
      have b : atKey (q :: qs) k = atKey qs k := by simp [atKey, List.find?_cons, e']
      rw [valV_neg e, b]; exact ih
theorem KT.repl {H : Hp} {kvs : List (List Key × V)} {xs : List (List Key × Addr × Value)} (r : KT H kvs xs) (k : List Key) {y : V} {u : Value} (ry : RelV y u) :
    KT H (kvs.map fun kv => if kv.1 = k then (kv.1, y) else kv) (xs.map (putAt k u)) := by
  induction r with
  | nil => exact .nil
  | @cons p q ps qs h t ih =>
    rw [List.map_cons, List.map_cons]
    refine .cons ?_ ih
    obtain ⟨h1, h2, h3⟩ := h
    unfold putAt
    by_cases e : p.1 = k
    · rw [if_pos e, if_pos (h1.symm.trans e)]; exact ⟨h1, h2, ry⟩
    · rw [if_neg e, if_neg (fun z => e (h1.trans z))]; exact ⟨h1, h2, h3⟩
theorem KT.put {H : Hp} {kvs : List (List Key × V)} {xs : List (List Key × Addr × Value)} (r : KT H kvs xs) (k : List Key) {b : Addr} {y : V} {u : Value} (hb : H b = some (.tup (k.map kV))) (ry : RelV y u) :
    KT H (putK kvs k y) (storedH xs k b u) := by
  have e : (kvs.any fun kv => decide (kv.1 = k)) = (atKey xs k).isSome := by
    rw [valV_any, (r.val k).isSome_eq, Option.isSome_map]
  unfold putK storedH
  rw [e]
  by_cases q : (atKey xs k).isSome = true
  · rw [if_pos q, if_pos q]; exact r.repl k ry
  · rw [if_neg q, if_neg q]; exact Paired.snoc r ⟨rfl, hb, ry⟩
theorem KT.keeps {H H' : Hp} {kvs : List (List Key × V)} {xs : List (List Key × Addr × Value)} (r : KT H kvs xs) (ht : ∀ b ys, H b = some (.tup ys) → H' b = some (.tup ys)) : KT H' kvs xs :=
  Paired.mapP r fun _ _ z => ⟨z.1, ht _ _ z.2.1, z.2.2⟩

section
variable {P : Program} {w : World} {H : Hp} {h : Heap} {a : Addr}
theorem rd_of {u : HO} (ok : HOk P w H h) (e : Rd H a u) : ObjOk P w H h a u := e.ok ok
theorem dk_rd {kvs : List (Key × V)} (ok : HOk P w H h) (e : Rd H a (.dK kvs)) : kvs.length ≤ sizeLine ∧ (a == sysModules) = false ∧ ∃ vs, KV kvs vs ∧ h.DictOf (mixKind P w) a vs :=
  show ObjOk P w H h a (.dK kvs) from rd_of ok e
theorem dk_of {kvs : List (Key × V)} (ok : HOk P w H h) (e : H a = some (.dK kvs)) : kvs.length ≤ sizeLine ∧ (a == sysModules) = false ∧ ∃ vs, KV kvs vs ∧ h.DictOf (mixKind P w) a vs := dk_rd ok (.inl e)
/-- a tracked tuple of ints and texts is a key -/
theorem key_of {ks : List Key} (ok : HOk P w H h) (e : H a = some (.tup (ks.map kV))) : (tupleKind (mixKind P w)).is h ks a := by
  obtain ⟨_, its, r, o, h1, h2, n, h3, _⟩ := (show ObjOk P w H h a (.tup (ks.map kV)) from ok a _ e)
  exact ⟨o, its.toArray, n, h1, h2, h3, by simpa using items_are r⟩
theorem dt_rd {kvs : List (List Key × V)} (ok : HOk P w H h) (e : Rd H a (.dT kvs)) : kvs.length ≤ sizeLine ∧ (a == sysModules) = false ∧
    ∃ xs, KT H kvs xs ∧ h.DictOfH (tupleKind (mixKind P w)) a xs := by
  obtain ⟨z, y, xs, r, o, es, ep, h1, h2, h3, h4, h5⟩ := (show ObjOk P w H h a (.dT kvs) from rd_of ok e)
  refine ⟨z, y, xs, r, o, es, ep, h1, h2, h3, h4, fun x hx => ?_, h5⟩
  have all : ∀ {l : List (List Key × V)} {m : List (List Key × Addr × Value)}, KT H l m → ∀ x ∈ m, (tupleKind (mixKind P w)).is h x.1 x.2.1 := by
    intro l m q
    induction q with
    | nil => intro x hx; exact nomatch hx
    | @cons p q ps qs hq t ih =>
      intro x hx
      rcases List.mem_cons.mp hx with e | hx
      · subst e
        exact key_of ok (by rw [← hq.1]; exact hq.2.1)
      · exact ih x hx
  exact all r x hx
theorem dt_of {kvs : List (List Key × V)} (ok : HOk P w H h) (e : H a = some (.dT kvs)) : kvs.length ≤ sizeLine ∧ (a == sysModules) = false ∧
    ∃ xs, KT H kvs xs ∧ h.DictOfH (tupleKind (mixKind P w)) a xs := dt_rd ok (.inl e)
end

/-- what the dict at a holds at the key y -/
def DGet (H : Hp) (a : Addr) (y : V) (r : Option V) : Prop :=
  (∃ kvs k, Rd H a (.dK kvs) ∧ y = kV k ∧ r = valV kvs k) ∨ ∃ kvs k b, Rd H a (.dT kvs) ∧ y = .ref b ∧ H b = some (.tup (k.map kV)) ∧ r = valV kvs k
/-- the heap behind a[y] = v -/
def DPut (H : Hp) (a : Addr) (y v : V) (H' : Hp) : Prop :=
  (∃ kvs k, H a = some (.dK kvs) ∧ y = kV k ∧ kvs.length < sizeLine ∧ H' = upd H a (.dK (putK kvs k v))) ∨
  ∃ kvs k b, H a = some (.dT kvs) ∧ y = .ref b ∧ H b = some (.tup (k.map kV)) ∧ kvs.length < sizeLine ∧ H' = upd H a (.dT (putK kvs k v))
theorem DGet.k {H : Hp} {a : Addr} {kvs : List (Key × V)} {k : Key} (e : H a = some (.dK kvs)) : DGet H a (kV k) (valV kvs k) := .inl ⟨kvs, k, .inl e, rfl, rfl⟩
theorem DPut.k {H : Hp} {a : Addr} {kvs : List (Key × V)} {k : Key} {v : V} (e : H a = some (.dK kvs)) (hl : kvs.length < sizeLine) : DPut H a (kV k) v (upd H a (.dK (putK kvs k v))) := .inl ⟨kvs, k, e, rfl, hl, rfl⟩
section
variable {X : Cx} {pins : List (Addr × Obj)} {σ : St} {H : Hp} {s : Shared} {a : Addr} {y v : V} {u r : Value} {o : Option V} {A : Around} {E : Value → Shared → Prop}

theorem Inv.big (I : Inv X pins σ H s) : sysModules < s.heap.objs.size := by
  have h : mainGlobals < s.heap.objs.size := (I.mod.glob.keeps I.bk).lt
  exact Nat.lt_trans (by decide) h

/-- d[y], there -/
theorem d_getItem {Q : Value → Shared → Prop} (hu : A.units + 1 < cLine) (I : Inv X pins σ H s) (g : DGet H a y (some v)) (ry : RelV y u) (h : ∀ w' s', Inv X pins σ H s' → RelV v w' → Q w' s') :
    wpAny (model X.prog X.w) A (getItem (.ref a) u) Q E s := by
  rcases g with ⟨kvs, k, e, ey, l⟩ | ⟨kvs, k, b, e, ey, eb, l⟩
  · subst ey
    obtain ⟨z, hd, vs, rel, dd⟩ := dk_rd I.hok e
    obtain ⟨w', hw, rw'⟩ := RelO.some_of (v := v) (o := valueAt vs k) (by rw [l]; exact rel.val k)
    exact wpAny_getItem_of (kV_is ry) dd.mapOf hw (h w' _ (I.tok _) rw')
  · subst ey
    cases (show u = Value.ref b from ry)
    obtain ⟨z, hd, xs, rel, dd⟩ := dt_rd I.hok e
    obtain ⟨w', hw, rw'⟩ := RelO.some_of (v := v) (o := (atKey xs k).map (·.2)) (by rw [l]; exact rel.val k)
    obtain ⟨p, hp, hp2⟩ := Option.map_eq_some_iff.mp hw
    refine wpAny_getItem_heap (tupleKind_room_in1 hu) (key_of I.hok eb) dd hp ?_
    rw [hp2]
    exact h w' _ (I.tok _) rw'
/-- a dict's object is replaced -/
theorem d_write {h' : Heap} {t' : Nat} {ob : HO} (I : Inv X pins σ H s) (mu : Mut (H a)) (hs : Heap.SameBut a s.heap h') (he : ∃ q, h'.get? a = some q) (new : ObjOk X.prog X.w (upd H a ob) h' a ob) :
    Inv X pins σ (upd H a ob) { s with heap := h', toks := t' } :=
  I.write (x := a) (e := a) mu (.inl rfl) (fun b q hb z => (hs.2 b hb).trans z) he new
theorem dk_new {P : Program} {w : World} {H' : Hp} {h' : Heap} {kvs : List (Key × V)} {vs : List (Key × Value)} (z : kvs.length ≤ sizeLine) (hd : (a == sysModules) = false) (rel : KV kvs vs) (dd : h'.DictOf (mixKind P w) a vs) :
    ObjOk P w H' h' a (.dK kvs) := ⟨z, hd, vs, rel, dd⟩
/-- d[y] = v -/
theorem d_setItem {H' : Hp} {Q : Unit → Shared → Prop} (hu : A.units + 1 < cLine) (I : Inv X pins σ H s) (g : DPut H a y v H') (ry : RelV y u) (rv : RelV v r) (h : ∀ s', Inv X pins σ H' s' → Q () s') :
    wpAny (model X.prog X.w) A (setItem (.ref a) u r) Q E s := by
  rcases g with ⟨kvs, k, e, ey, l, eH⟩ | ⟨kvs, k, b, e, ey, eb, l, eH⟩
  · subst ey eH
    obtain ⟨z, hd, vs, rel, dd⟩ := dk_of I.hok e
    have hz : vs.length ≤ sizeLine := by rw [← rel.length]; exact z
    have hl : (putK kvs k v).length ≤ sizeLine := by have := length_putK kvs k v; omega
    refine wpAny_setItem_pairs (hsz := hz) (kV_is ry) dd fun h' dd' hs => h _ ?_
    have he : ∃ q, h'.get? a = some q := let ⟨q, _, _, hq, _⟩ := dd'; ⟨q, hq⟩
    exact d_write I (by rw [e]; exact True.intro) hs he (dk_new hl hd (rel.put k rv) dd')
  · subst ey eH
    cases (show u = Value.ref b from ry)
    obtain ⟨z, hd, xs, rel, dd⟩ := dt_of I.hok e
    have hz : xs.length ≤ sizeLine := by rw [← Paired.length rel]; exact z
    have hl : (putK kvs k v).length ≤ sizeLine := by have := length_putK kvs k v; omega
    refine wpAny_setItem_heap (hsz := hz) (tupleKind_room_in1 hu) (key_of I.hok eb) dd fun h' dd' hs => h _ ?_
    obtain ⟨q, es, ep, hq, h2, h3, h4, _, h5⟩ := dd'
    refine d_write I (by rw [e]; exact True.intro) hs ⟨q, hq⟩ ⟨hl, hd, _, (rel.put k eb rv).keeps fun c ys ec => ?_, q, es, ep, hq, h2, h3, h4, h5⟩
    rw [upd_ne (ne_of ec e (fun z => nomatch z))]
    exact ec
end



/-! ### readings and rules -/
/-- the element of a subscription, not a slice -/
def NoSl (i : Expr) : Prop := ∀ ov iv, subscripted i false ov iv = operate [ov, iv] (getItem ov iv)
theorem subD_of {prog : Program} {w : World} {A : Around} {E : Value → Shared → Prop} {s : Shared} {env : Env} {value slice : Expr} {pos : Pos} {T id : String} {Q : Value → Shared → Prop}
    (hl : typeLookup (.type T) "__getitem__" = pure (some (.builtin id))) (hs : NoSl slice)
    (h : wpAny (model prog w) A (eval value env) (fun o s₁ => wpAny (model prog w) A (eval slice env) (fun i s₂ => s₂.TypeIs o T ∧ wpAny (model prog w) A (getItem o i) Q E s₂) E s₁) E s) :
    wpAny (model prog w) A (eval (.Subscript value slice pos) env) Q E s := by
  refine Subscript_ (wpAny_mono h (fun o s₁ h₁ => wpAny_mono h₁ (fun i s₂ h₂ => ?_) fun _ _ x => x) fun _ _ x => x)
  obtain ⟨hT, h₂⟩ := h₂
  unfold subscriptTail
  refine wpAny_bind ?_
  rw [getitemInPython_of_ne hT.not_modules]
  refine wpAny_bind (wpAny_specialOf hT hl ?_)
  have fin : wpAny (model prog w) A (subscripted slice false o i) (fun r s₃ => wpAny (model prog w) A (letTemporaryGo value o r >>= fun _ => pure r) Q E s₃) E s₂ := by
    rw [hs o i]
    exact wpAny_operating (wpAny_mono h₂ (fun r s₃ h₃ => wpAny_bind (wpAny_letTemporaryGo (wpAny_pure h₃))) fun _ _ x => x)
  first
    | exact wpAny_pure (wpAny_bind fin)
    | exact wpAny_bind (wpAny_pure (wpAny_bind fin))
    | exact wpAny_bind fin

theorem dict_typeIs {X : Cx} {pins : List (Addr × Obj)} {σ : St} {H : Hp} {s : Shared} {a : Addr} {y : V} {o : Option V} (I : Inv X pins σ H s) (g : DGet H a y o) : s.TypeIs (.ref a) "dict" := by
  rcases g with ⟨kvs, k, e, _, _⟩ | ⟨kvs, k, b, e, _, _, _⟩
  · obtain ⟨_, _, vs, _, dd⟩ := dk_rd I.hok e
    exact dd.typeIs
  · obtain ⟨_, _, xs, _, dd⟩ := dt_rd I.hok e
    exact dd.typeIs
/-- d[y] -/
def tDGet (td ty : TE) : TE := fun σ H Q => td σ H fun x H1 => ty σ H1 fun y H2 => ∃ a v, x = .ref a ∧ DGet H2 a y (some v) ∧ Q v H2
/-- d[y] = v -/
def sDPut (td ty tv : TE) : TS := fun D σ H => tv σ H fun v H1 => td σ H1 fun x H2 => ty σ H2 fun y H3 => ∃ a H4, x = .ref a ∧ DPut H3 a y v H4 ∧ D.nx σ H4
section
variable {X : Cx} {o i e value : Expr} {pos pos' tpos : Pos} {td ty tv : TE}
theorem pe_dget (hu : X.A.units + 1 < cLine) (ho : PE X o td) (hi : PE X i ty) (hs : NoSl i) : PE X (.Subscript o i pos) (tDGet td ty) := by
  intro pins s σ H Q I h
  refine subD_of PySem.F.slot_dict_getitem.lookup hs (thn (ho pins s σ H _ I h) fun u s1 ⟨x, H1, I1, rx, q1⟩ => thn (hi pins s1 σ H1 _ I1 q1) fun iv s2 ⟨y, H2, I2, ry, a, v, ex, g, q2⟩ => ?_)
  subst ex
  obtain rfl : u = Value.ref a := rx
  exact ⟨dict_typeIs I2 g, d_getItem hu I2 g ry fun w' s3 I3 rw' => ⟨v, H2, I3, rw', q2⟩⟩
theorem ps_dput (hu : X.A.units + 1 < cLine) (ho : PE X o td) (hi : PE X i ty) (hv : PE X value tv) (hs : swapsWith value (some (.Subscript o i pos')) pos.line X.env = pure false) :
    PS X (.Assign [.Subscript o i pos'] value pos) (sDPut td ty tv) := by
  intro pins s σ H D I h
  refine wpAny_Assign_Subscript (thn (hv pins s σ H _ I h) fun r s1 ⟨v, H1, I1, rv, q1⟩ => thn (ho pins s1 σ H1 _ I1 q1) fun u s2 ⟨x, H2, I2, rx, q2⟩ => thn (hi pins s2 σ H2 _ I2 q2) fun iv s3 ⟨y, H3, I3, ry, a, H4, ex, g, q3⟩ => ?_) hs
  subst ex
  obtain rfl : u = Value.ref a := rx
  exact d_setItem hu I3 g ry rv fun s4 I4 => ⟨σ, H4, I4, q3⟩
end


/-! ### displays -/
theorem dk_empty {P : Program} {w : World} {H : Hp} (h : Heap) (hb : sysModules < h.objs.size) : ObjOk P w H (h.push { cls := .type "dict", data := .dict #[] }) h.objs.size (.dK []) :=
  ⟨Nat.zero_le _, beq_eq_false_iff_ne.mpr (Ne.symm (Nat.ne_of_lt hb)), [], .nil, Heap.DictOf.new h⟩
theorem dt_empty {P : Program} {w : World} {H : Hp} (h : Heap) (hb : sysModules < h.objs.size) : ObjOk P w H (h.push { cls := .type "dict", data := .dict #[] }) h.objs.size (.dT []) :=
  ⟨Nat.zero_le _, beq_eq_false_iff_ne.mpr (Ne.symm (Nat.ne_of_lt hb)), [], .nil, _, #[], 0, Heap.get?_push_size _ rfl, ⟨rfl, rfl, rfl⟩, rfl, rfl, List.nodup_nil⟩
/-- {}, to be a dict of the kind that is wanted -/
def tDNewK : TE := fun _ H Q => ∀ p, H p = none → Q (.ref p) (upd H p (.dK []))
section
variable {X : Cx} {pos : Pos}
theorem pe_dnewK : PE X (.Dict [] [] pos) tDNewK := fun pins s σ H Q I h =>
  wpAny_Dict_empty ⟨.ref s.heap.objs.size, _, I.laid (a := s.heap.objs.size) (o := .dK []) (t' := s.toks) (fun _ _ q => Heap.get?_push_of_some _ q) (Nat.le_refl _) (dk_empty s.heap I.big), rfl, h _ (I.hok.fresh (Nat.le_refl _))⟩
end

/-- the pairs of a display, from the left -/
def tPairs : List (TE × TE) → St → Hp → (List (V × V) → Hp → Prop) → Prop
  | [], _, H, Q => Q [] H
  | (tk, tv) :: r, σ, H, Q => tk σ H fun x H1 => tv σ H1 fun y H2 => tPairs r σ H2 fun ps H3 => Q ((x, y) :: ps) H3
abbrev VV : List (V × V) → List (Value × Value) → Prop := Paired fun p q => RelV p.1 q.1 ∧ RelV p.2 q.2
def PPs (X : Cx) (pos : Pos) (keys : List (Option Expr)) (values : List Expr) (trs : List (TE × TE)) : Prop :=
  ∀ (pins : List (Addr × Obj)) (s : Shared) (σ : St) (H : Hp) (Q : List (V × V) → Hp → Prop), Inv X pins σ H s → tPairs trs σ H Q →
    wpAny (model X.prog X.w) X.A (evalPairs (pairTrees keys values X.env pos)) (fun vs s' => ∃ ps H', Inv X pins σ H' s' ∧ VV ps vs ∧ Q ps H') X.xe s
theorem pps_nil {X : Cx} {pos : Pos} : PPs X pos [] [] [] := fun pins s σ H Q I h => pairTrees_nil_walk ⟨[], H, I, .nil, h⟩
theorem pps_cons {X : Cx} {pos : Pos} {k v : Expr} {ks : List (Option Expr)} {vs : List Expr} {tk tv : TE} {trs : List (TE × TE)} (hk : PE X k tk) (hv : PE X v tv) (hr : PPs X pos ks vs trs) :
    PPs X pos (some k :: ks) (v :: vs) ((tk, tv) :: trs) := fun pins s σ H Q I h =>
  pairTrees_cons_walk (thn (hk pins s σ H _ I h) fun u s1 ⟨x, H1, I1, rx, q1⟩ => thn (hv pins s1 σ H1 _ I1 q1) fun w2 s2 ⟨y, H2, I2, ry, q2⟩ =>
    thn (hr pins s2 σ H2 _ I2 q2) fun ws s3 ⟨ps, H3, I3, rel, q3⟩ => ⟨(x, y) :: ps, H3, I3, .cons ⟨rx, ry⟩ rel, q3⟩)

def mergeK (kvs more : List (Key × V)) : List (Key × V) := more.foldl (fun acc kv => putK acc kv.1 kv.2) kvs
theorem KV.merge : ∀ {more : List (Key × V)} {rs : List (Key × Value)} {kvs : List (Key × V)} {vs : List (Key × Value)}, KV more rs → KV kvs vs → KV (mergeK kvs more) (merged vs rs) := by
  intro more rs kvs vs r
  unfold KV at r
  induction r generalizing kvs vs with
  | nil => intro q; exact q
  | @cons p q ps qs h t ih =>
    intro r0
    have e : KV (putK kvs p.1 p.2) (stored vs q.1 q.2) := by
      have := r0.put p.1 h.2
      rw [← h.1]; exact this
    exact ih e
theorem length_mergeK : ∀ (more kvs : List (Key × V)), (mergeK kvs more).length ≤ kvs.length + more.length
  | [], kvs => by show kvs.length ≤ kvs.length + 0; omega
  | p :: r, kvs => by
    have h1 := length_mergeK r (putK kvs p.1 p.2)
    have h2 := length_putK kvs p.1 p.2
    show (mergeK (putK kvs p.1 p.2) r).length ≤ _
    rw [List.length_cons]; omega
theorem carries_of {P : Program} {w : World} : ∀ {kvs : List (Key × V)} {ws : List (Value × Value)}, VV (kvs.map fun kv => (kV kv.1, kv.2)) ws → ∃ rs, Carries (mixKind P w) ws rs ∧ KV kvs rs
  | [], _, r => by rw [List.map_nil] at r; cases r; exact ⟨[], True.intro, .nil⟩
  | p :: kvs, _, r => by
    rw [List.map_cons] at r
    cases r with
    | @cons a b as bs h t =>
      obtain ⟨rs, c, q⟩ := carries_of (P := P) (w := w) t
      obtain ⟨b1, b2⟩ := b
      exact ⟨(p.1, b2) :: rs, ⟨kV_is h.1, rfl, c⟩, .cons ⟨rfl, h.2⟩ q⟩
/-- {k: v, ..} with keys ints and texts; the new dict stands empty while the pairs are made -/
def tDisp (trs : List (TE × TE)) : TE := fun σ H Q => ∀ p, H p = none → tPairs trs σ (upd H p (.dK [])) fun ps H2 => H2 p = some (.dK []) ∧ ∃ kvs : List (Key × V), ps = kvs.map (fun kv => (kV kv.1, kv.2)) ∧ kvs.length ≤ 15 ∧ Q (.ref p) (upd H2 p (.dK (mergeK [] kvs)))
theorem pe_disp {X : Cx} {pos : Pos} {keys : List (Option Expr)} {values : List Expr} {trs : List (TE × TE)} (h : PPs X pos keys values trs) (hall : keys.all (·.isSome) = true) (hl : keys.length = values.length) (h0 : keys ≠ [])
    (h15 : keys.length ≤ 15) : PE X (.Dict keys values pos) (tDisp trs) := by
  intro pins s σ H Q I q
  have hn := I.hok.fresh (Nat.le_refl s.heap.objs.size)
  have I1 := I.laid (a := s.heap.objs.size) (o := .dK []) (h' := s.heap.push { cls := .type "dict", data := .dict #[] }) (t' := s.toks) (fun _ _ q => Heap.get?_push_of_some _ q) (Nat.le_refl _) (dk_empty s.heap I.big)
  refine wpAny_Dict_walk (knd := mixKind X.prog X.w) hall hl h0 h15 (thn (h pins _ σ _ _ I1 (q _ hn)) fun ws s2 ⟨ps, H2, I2, rel, e, kvs, ep, lk, q2⟩ => ?_)
  subst ep
  obtain ⟨rs, c, rk⟩ := carries_of (P := X.prog) (w := X.w) rel
  obtain ⟨z, hd, vs0, r0, dd⟩ := dk_of I2.hok e
  cases r0
  refine ⟨rs, c, dd, fun h' dd' hs => ⟨.ref s.heap.objs.size, _, ?_, rfl, q2⟩⟩
  have hz : (mergeK [] kvs).length ≤ sizeLine := by
    have h1 := length_mergeK kvs []
    rw [List.length_nil] at h1
    rw [sizeLine_eq]; omega
  have he : ∃ q, h'.get? s.heap.objs.size = some q := let ⟨q, _, _, hq, _⟩ := dd'; ⟨q, hq⟩
  exact d_write I2 (by rw [e]; exact True.intro) hs he (dk_new hz hd (rk.merge .nil) dd')


/-! ### methods -/


/-! ### dict(d): a copy -/


end L2

namespace Att
open PySem PySem.W PySem.Calls PyProof.Rows

/-! ### the script -/
theorem ints_of_wellAll {P : Params} {h : Heap} : ∀ (ns : List Int) (vs : List Value), WellAll P h vs (ns.map WData.int) → IntsAre vs ns := by
  intro ns
  induction ns with
  | nil =>
    intro vs w
    rw [List.map_nil] at w
    cases w
    exact .nil
  | cons n ns ih =>
    intro vs w
    rw [List.map_cons] at w
    cases w with
    | cons a b =>
      cases a
      exact .cons _ _ (ih _ b)

theorem script_of {l : OpenLaw} {n : Nat} (hn : l.most = some n) {P : Params} {h : Heap} {args : List WData} {vals : List Value}
    (hpre : l.row.toRowW.claim.pre args = true) (hwl : WellAll P h vals args) :
    ∃ a vs ns, vals = [Value.ref a] ∧ args = [WData.list (ns.map WData.int)] ∧ h.get? a = some { cls := .type "list", data := .seq vs.toArray } ∧ IntsAre vs ns ∧ ns.length ≤ n := by
  have hsh : WShape.hasAll [] args [.list .int] = true := (pre_splitW hpre).1
  have hc : l.pre.holds [] { args := args } = true := (pre_splitW hpre).2
  obtain ⟨d, r, rfl, h1, h2⟩ := hasAllW_cons hsh
  obtain rfl := hasAllW_nil h2
  obtain ⟨xs, rfl, h3⟩ := hasW_list h1
  obtain ⟨ns, rfl⟩ := items_int h3
  have hlen : ns.length ≤ n := by
    unfold OpenLaw.pre at hc
    have h4 : (WTm.not (.lt (.lit (.int (n : Int))) (.len (.arg 0)))).holds [] { args := [.list (ns.map .int)] } = true := by
      have h4 := (holds_andW hc).1
      rw [hn] at h4
      exact h4
    have h5 := condW_of h4 (w_not (w_lt w_lit (w_len_list (w_arg rfl))))
    rw [List.length_map] at h5
    refine Nat.le_of_not_lt fun q => ?_
    have q' : (n : Int) < ((ns.length : Nat) : Int) := by omega
    first
      | (rw [decide_eq_true q'] at h5; exact absurd h5 (by decide))
      | (simp at h5; omega)
  cases hwl with
  | cons w1 w2 =>
    cases w2
    cases w1 with
    | list ho hall => exact ⟨_, _, ns, rfl, rfl, ho, ints_of_wellAll ns _ hall, hlen⟩

theorem post_true (l : OpenLaw) (args : List WData) : l.row.toRowW.claim.post args (.bool true) args = true :=
  postW_of (r := l.row.toRowW) (X := (true == true))
    (show WShape.has [] (.bool true) .bool = true by first | rfl | decide | simp [WShape.has, WShape.arms, WShape.armsAll])
    (show (WTm.eq .res (.lit (.bool true))).value [] { args := args, res := some (.bool true), after := args } = some (.bool (true == true)) from w_eq_bool (w_res rfl) w_lit) rfl

/-! ### the attachment: holds_open's last premise (the goal 'hc' behind k_head) from a wpAny of the law's body -/
/-- the same from a codeAny of the CALL (for a layer whose function contracts speak of calls) -/
theorem attach_call {l : OpenLaw} {n : Nat} {q : Program} {loose : List Str} {XP : (Str → Option Value) → Heap → Prop} {YP : World → Heap → Prop} {d : DefRec}
    (hn : l.most = some n) (hdf : d.params.defaults = [])
    (call : ∀ (w : World) (s₀ s₁ : Shared) (mg mb : Str → Option Value) (fa : Addr) (o : Obj) (pm cd doc : Value) (a : Addr) (vs : List Value) (ns : List Int),
      Ground q loose [] XP w s₀ mg mb s₁.heap → YP w s₁.heap →
      s₁.heap.get? fa = some o → o.data = .func (docDef d.name d.params d.body d.scope pm cd doc) → s₁.heap.CodeRec cd d.name → mg d.name = some (.ref fa) →
      s₁.heap.get? a = some { cls := .type "list", data := .seq vs.toArray } → IntsAre vs ns → ns.length ≤ n → s₁.gens = #[] →
      codeAny (model l.prog w) callerA (.call (.ref fa) ⟨[.ref a], []⟩) (fun r s' => r = .ok (.ret (.bool true)) ∧ OldK s₁.heap s'.heap ∧ s'.os = s₁.os ∧ AllBare s'.gens) s₁) :
    WalkO q loose XP YP l.row.toRowW d [] (fun f vs => PySem.call f vs) := by
  intro w s₀ s₁ mg mb G Y fa o pm cd doc dV kV ho hd hcd hD hmg hg args vals as hpre hlay hrd hwl hlo
  obtain rfl : dV = .none := Dflts.none hD hdf
  obtain rfl : kV = .none := Dflts.noKw hD
  obtain ⟨a, vs, ns, rfl, rfl, hobj, hints, hlen⟩ := script_of hn hpre hwl
  refine enter_call (codeAny_mono (call w s₀ s₁ mg mb fa o pm cd doc a vs ns G Y ho (fd_plain hd) hcd hmg hobj hints hlen hg) fun r s' hq => ?_)
  obtain ⟨rfl, h2, h3, h4⟩ := hq
  exact ⟨.inl ⟨.bool true, .bool true, [], rfl, fun _ => rfl, .bool true, post_true l _, fun _ => ⟨List.Pairwise.nil, fun _ hm => (nomatch hm)⟩⟩, h2, h3, h4⟩

/-! ### rules over ANY heap (no ledger) from facts about the written part K: the library's own take a ledger (News) for what they write -/
end Att

namespace L2
open PySem PySem.Spec PyProof.Rows

theorem vals_ints : ∀ {vs : List Value} {ns : List Int}, IntsAre vs ns → Vals (ns.map V.int) vs
  | _, _, .nil => .nil
  | _, _, .cons n t h => .cons ⟨t, rfl⟩ (vals_ints h)

/-- nothing is tracked but the script, known to the object (or it is an object of the module) -/
def Only (H : Hp) : Prop := ∀ b, H b = none ∨ ∃ o xs, H b = some (.frz o (.lst xs))

/-- THE HEAD: the law's promise, at the heap behind the top. F, the promise of the law's def, may use that base is part of the heap (so K.In base, base.Ns mainGlobals mg stand in Mod) -/
theorem law_call {P : Program} {w : World} {K : PySem.W.Frag} {mg mb : Str → Option Value} {CX : CXT} {k : Nat} {fa a : Addr} {fd : FuncData} {x : Str} {sp : Sp} {s₁ : Shared} {vs : List Value} {ns : List Int}
    (KX : K.In s₁.heap) (hns : s₁.heap.Ns mainGlobals mg) (hb : s₁.heap.Ns builtinsNs mb) (hbb : ∀ x : Str, x ≠ "__name__" → mb x = bootBuiltins x) (hlim : s₁.heap.NoLimit) (hg : s₁.gens = #[])
    (ha : s₁.heap.get? a = some { cls := .type "list", data := .seq vs.toArray }) (hi : IntsAre vs ns) (hl : ns.length ≤ sizeLine) (hr : Room k callerA)
    (F : ∀ base : Heap, K.In base → base.Ns mainGlobals mg → FnOk P w K mg base CX k fa fd [x] sp) (hbind : ∀ (s : Shared) (u : Value), BindsTo s fd ⟨[u], []⟩ [(x, u)])
    (hsp : ∀ H : Hp, Only H → SqL K H a (ns.map V.int) → sp [.ref a] H (fun v _ => v = .bl true) fun _ _ _ => False)
    (hCX : ∀ H e s', CX [] H s₁ (fun _ _ _ => False) e s' → False) :
    codeAny (model P w) callerA (.call (.ref fa) ⟨[.ref a], []⟩) (fun r s' => r = .ok (.ret (.bool true)) ∧ OldK s₁.heap s'.heap ∧ s'.os = s₁.os ∧ AllBare s'.gens) s₁ := by
  have rv := vals_ints hi
  have lenV := hi.length
  -- from an abstract heap in which nothing but the script may be tracked
  have core : ∀ H : Hp, Only H → SqL K H a (ns.map V.int) → HOk P w H s₁.heap → (∀ b, H b ≠ none → b = a) → (H a ≠ none → K.lookup a = none) →
      codeAny (model P w) callerA (.call (.ref fa) ⟨[.ref a], []⟩) (fun r s' => r = .ok (.ret (.bool true)) ∧ OldK s₁.heap s'.heap ∧ s'.os = s₁.os ∧ AllBare s'.gens) s₁ := by
    intro H hO hS hok hA hK
    have base_of : ∀ {b : Addr} {o : Obj}, s₁.heap.get? b = some o → H b = none → (hidT s₁.heap H).get? b = some o := fun e n => hidT_get e n
    have noA : ∀ {b : Addr} {o : Obj} {es : Array DictEntry} {ep : Nat}, s₁.heap.get? b = some o → o.data = .dict es ep → H b = none := fun {b o es ep} e d => by
      cases q : H b with
      | none => rfl
      | some u =>
        have e' : b = a := hA b (by rw [q]; simp)
        subst e'
        rw [ha] at e; cases e
        have d' : Data.seq vs.toArray _ = Data.dict es ep := d
        cases d'
    have nsK : ∀ {b : Addr} {m : Str → Option Value}, s₁.heap.Ns b m → (hidT s₁.heap H).Ns b m := fun {b m} ⟨o, es, ep, e, d, r⟩ => ⟨o, es, ep, base_of e (noA e d), d, r⟩
    have hKb : K.In (hidT s₁.heap H) := fun b o e => base_of (KX b o e) (by
      cases q : H b with
      | none => rfl
      | some u =>
        have e' : b = a := hA b (by rw [q]; simp)
        subst e'
        rw [hK (by rw [q]; simp)] at e; cases e)
    have hM : Mod K mg (hidT s₁.heap H) := ⟨hKb, nsK hns, ⟨mb, nsK hb, hbb⟩, let ⟨mc, h1, h2⟩ := hlim; ⟨mc, nsK h1, h2⟩⟩
    have e0 : Env0 P w K mg (hidT s₁.heap H) callerA [] s₁ H := ⟨rfl, hM, fun b o e => of_hidT e, Nat.le_of_eq (hidT_size _ _), trivial, fun b hb => absurd (show b ∈ ([] : List Addr) from hb) (by simp), hok, .of_eq hg⟩
    refine codeAny_mono ((F _ hKb (nsK hns)).run callerA [] s₁ H ⟨[.ref a], []⟩ [.ref a] [.ref a] _ _ hr e0 (hbind s₁ (.ref a)) (.cons rfl .nil) (hsp H hO hS)) fun r s' h => ?_
    cases r with
    | error e => exact (hCX H e s' h).elim
    | ok fl =>
      cases fl with
      | next => exact False.elim h
      | brk => exact False.elim h
      | cont => exact False.elim h
      | ret u =>
        obtain ⟨v, H', os, bare, un, hok', r', q⟩ := h
        have q' : v = .bl true := q
        subst q'
        obtain rfl : u = Value.bool true := r'
        refine ⟨rfl, OldK.of_keep fun b o e => ?_, os, bare⟩
        cases q : H b with
        | none => exact un.keep b o e q (by intro z; exact absurd (show b ∈ ([] : List Addr) from z) (by simp)) (by simp)
        | some u =>
          rcases hO b with z | ⟨ob, xs, z⟩
          · rw [q] at z; cases z
          · have z2 := un.frzs b ob _ z
            obtain ⟨e1, _⟩ := hok b _ z
            obtain ⟨e2, _⟩ := hok' b _ z2
            rw [e] at e1; cases e1
            exact e2
  cases hk : K.lookup a with
  | some o =>
    -- the script is one of the module's own objects
    have e := KX a o hk
    rw [ha] at e
    cases e
    refine core (fun _ => none) (fun _ => .inl rfl) (.inr ⟨_, vs.toArray, _, hk, rfl, rfl, rfl, by rw [List.size_toArray, lenV]; exact hl, by simpa using rv⟩) (fun b u z => by have z' : (none : Option HO) = some u := z; cases z') (fun b z => absurd rfl z) fun z => absurd rfl z
  | none =>
    refine core (fun b => if b = a then some (.frz { cls := .type "list", data := .seq vs.toArray } (.lst (ns.map V.int))) else none) (fun b => ?_) (.inl (.inr ⟨{ cls := .type "list", data := .seq vs.toArray }, if_pos rfl⟩)) (fun b u z => ?_) (fun b z => ?_) fun _ => hk
    · by_cases hb : b = a
      · exact .inr ⟨_, _, if_pos hb⟩
      · exact .inl (if_neg hb)
    · by_cases hb : b = a
      · have z' := (if_pos hb).symm.trans z
        cases z'
        subst hb
        exact ⟨ha, by rw [List.length_map]; exact hl, vs, _, rv, ha⟩
      · have z' := (if_neg hb).symm.trans z
        cases z'
    · by_cases hb : b = a
      · exact hb
      · exact absurd (if_neg hb) z
end L2

namespace L2
open PySem PySem.Spec PyProof.Rows

abbrev KOf {K : PySem.W.Frag} {h : Heap} (_ : K.In h) : PySem.W.Frag := K

/-- the goal that k_head leaves (case hc), from the law's promise. F gives the function object fd (K's own) once, then the promise over every base -/
theorem walk_of {l : PySem.W.OpenLaw} {n k : Nat} {q : Program} {loose : List Str} {XP : (Str → Option Value) → Heap → Prop} {YP : World → Heap → Prop} {d : DefRec} {K : Params → PySem.W.Frag} {CX : World → CXT} {sp : World → Sp} {x : Str}
    (hn : l.most = some n) (hn2 : n ≤ sizeLine) (hdf : d.params.defaults = []) (hr : Room k callerA)
    (hY : ∀ (w : World) (h : Heap), YP w h → (K w.params).In h)
    (F : ∀ (w : World) (mg : Str → Option Value) (fa : Addr) (h : Heap), (K w.params).In h → h.Ns mainGlobals mg → mg d.name = some (.ref fa) →
      ∃ fd : FuncData, (∀ (s : Shared) (u : Value), BindsTo s fd ⟨[u], []⟩ [(x, u)]) ∧
        ∀ base : Heap, (K w.params).In base → base.Ns mainGlobals mg → FnOk l.prog w (K w.params) mg base (CX w) k fa fd [x] (sp w))
    (hsp : ∀ (w : World) (H : Hp) (a : Addr) (ns : List Int), ns.length ≤ n → Only H → SqL (K w.params) H a (ns.map V.int) → sp w [.ref a] H (fun v _ => v = .bl true) fun _ _ _ => False)
    (hCX : ∀ (w : World) (H : Hp) (s : Shared) (e : Value) (s' : Shared), CX w [] H s (fun _ _ _ => False) e s' → False) :
    PySem.W.WalkO q loose XP YP l.row.toRowW d [] (fun f vs => PySem.call f vs) := by
  refine Att.attach_call hn hdf fun w s₀ s₁ mg mb fa o pm cd doc a vs ns G Y ho hd hcd hmg hobj hints hlen hg => ?_
  have KX := hY w _ Y
  obtain ⟨fd, hb, hF⟩ := F w mg fa _ KX G.T.g hmg
  exact law_call KX G.T.g G.T.b G.T.builtins G.T.nolimit hg hobj hints (Nat.le_trans hlen hn2) hr hF hb (fun H hO hS => hsp w H a ns hlen hO hS) fun H e s' => hCX w H s₁ e s'
end L2

/- THE LAST THEOREM (shape; LID, My.* are yours):
   My.Adr: a structure of the addresses that your layer names (classes, functions); My.Txt K t: a structure (Prop) of the equations over K;
   My.txt_mk : {K} {implicit addresses ..} (e1 : nsIn K mainGlobals "law" = some (some (.ref f))) (e2 : K.lookup f = some ⟨oc, od, .func (fnOf "law" "law" params body scope dV kV doc pm an cdv ct), sl⟩) (e3 : codeIn K cdv "law" = true) .. : ∃ t, My.Txt K t

(the tactic k_is has no namespace: write k_is) -/

/-! SHORT WORDS over the layer: a def of the text, its body, what a loop and a test want. -/
namespace L2
open PySem PySem.Spec PyProof.Rows

/-! ### the text by places -/
def defArgs (s : Stmt) : Arguments := match s with
  | .FunctionDef _ a _ _ _ _ _ _ _ _ => a
  | _ => { posonlyargs := [], args := [], vararg := none, kwonlyargs := [], kw_defaults := [], kwarg := none, defaults := [] }
def defBody (s : Stmt) : List Stmt := match s with
  | .FunctionDef _ _ b _ _ _ _ _ _ _ => b
  | _ => []
def defScope (s : Stmt) : Scope := match s with
  | .FunctionDef _ _ _ _ _ _ sc _ _ _ => sc
  | _ => { kind := .function, names := [], isGenerator := false, isCoroutine := false }

/-! ### no exception leaves a def -/
abbrev CX0 : CXT := fun _ _ _ _ _ _ => False
abbrev E0 : XK := fun _ _ _ => False
theorem pass0 {X : Cx} : Passes CX0 X E0 := fun _ _ _ _ _ _ _ h => h.elim

/-! ### a def (or method) of the text as it stands behind the top -/
structure Fun (K : PySem.W.Frag) (x qual : Str) (st : Stmt) (f : Addr) (fd : FuncData) : Prop where
  ex : ∃ (oc : Value) (od : Option Addr) (kV doc pm : Value) (an : Option Addr) (cdv ct : Value) (osl : Array (Option Value)),
    fd = PySem.W.fnOf x qual (defArgs st) (defBody st) (defScope st) .none kV doc pm an cdv ct ∧ K.lookup f = some ⟨oc, od, .func fd, osl⟩ ∧ PySem.W.codeIn K cdv qual = true
  kp : PySem.W.keepIn K (.ref f) = true
section
variable {P : Program} {w : World} {K : PySem.W.Frag} {mg : Str → Option Value} {base : Heap}
/-- THE RULE for a def: its body as a term of rules, and the reading of that term -/
theorem Fun.ok {x qual : Str} {st : Stmt} {f : Addr} {fd : FuncData} {N ps : List Str} {k : Nat} {sp : Sp} (F : Fun K x qual st f fd) (S : FnScope N ps (defScope st)) (len : ∀ vs H Q E, sp vs H Q E → vs.length = ps.length)
    (hbody : ∀ (cdv : Value) (A : Around) (outer : List Env) (s : Shared) (H : Hp) (vs : List V) (Q : VK) (E : XK), Room k (A.deeper (envOfC qual (defScope st) s.heap.objs.size f cdv)) → sp vs H Q E →
      ∃ t, PSs (cxOf CX0 P w K mg base N qual (defScope st) f cdv A outer s H E).nox (defBody st) t ∧ t { nx := fun _ H' => Q .non H', rt := Q } (start N vs) H) : FnOk P w K mg base CX0 (k + 1) f fd ps sp := by
  obtain ⟨oc, od, kV, doc, pm, an, cdv, ct, osl, rfl, lk, hcd⟩ := F.ex
  refine fn_of lk hcd S len fun A outer s H vs Q E hr hsp => ?_
  obtain ⟨t, h, q⟩ := hbody cdv A outer s H vs Q E hr hsp
  exact ⟨t, h.nox, q⟩
/-- how its arguments bind (no defaults): h is «fun _ _ _ _ _ _ us hl => match us, hl with | [_, _], _ => rfl», one _ a parameter -/
theorem Fun.binds {x qual : Str} {st : Stmt} {f : Addr} {fd : FuncData} {ps : List Str} (F : Fun K x qual st f fd)
    (h : ∀ (kV doc pm : Value) (an : Option Addr) (cdv ct : Value) (us : List Value), us.length = ps.length → bindArgs (PySem.W.fnOf x qual (defArgs st) (defBody st) (defScope st) .none kV doc pm an cdv ct) ⟨us, []⟩ = pure (ps.zip us)) : Binds K fd ps [] := by
  obtain ⟨oc, od, kV, doc, pm, an, cdv, ct, osl, rfl, lk, hcd⟩ := F.ex
  exact .all (h kV doc pm an cdv ct)
theorem fun_mk {x qual : Str} {st : Stmt} {f : Addr} {oc : Value} {od an : Option Addr} {osl : Array (Option Value)} {kV doc pm cdv ct : Value} (l : K.lookup f = some ⟨oc, od, .func (PySem.W.fnOf x qual (defArgs st) (defBody st) (defScope st) .none kV doc pm an cdv ct), osl⟩)
    (c : PySem.W.codeIn K cdv qual = true) (k : PySem.W.keepIn K (.ref f) = true) : Fun K x qual st f (PySem.W.fnOf x qual (defArgs st) (defBody st) (defScope st) .none kV doc pm an cdv ct) := ⟨⟨oc, od, kV, doc, pm, an, cdv, ct, osl, rfl, l, c⟩, k⟩
end
theorem hu_of {A : Around} {k : Nat} (hr : Room k A) : A.units + 1 < cLine := Nat.lt_of_le_of_lt (Nat.add_le_add_left (by decide : 1 ≤ 64) _) hr.units
/-! ### expressions in short: the name that stands in the i-th slot -/
section
variable {X : Cx}
theorem pv (i : Nat) {x : Str} {pos : Pos} (hN : X.N[i]? = some x := by rfl) (hv : Vis X.env.scope x := by first | exact Or.inl rfl | exact Or.inr (Or.inl rfl) | exact Or.inr (Or.inr rfl)) (hd : (x == ("__debug__" : Str)) = false := by decide)
    (hcd : (x == ("__classdict__" : Str)) = false := by decide) : PE X (.Name x pos) (tVar i) := pe_var hN hv hd hcd
end

/-! ### tests -/
theorem iteF {A B : Prop} (h : B) : if false = true then A else B := by
  rw [if_neg Bool.false_ne_true]
  exact h
theorem iteT {A B : Prop} (h : A) : if true = true then A else B := by
  rw [if_pos rfl]
  exact h
theorem ite2 {c A B : Prop} [Decidable c] (h1 : c → A) (h2 : ¬ c → B) : if c then A else B := by
  by_cases h : c
  · rw [if_pos h]
    exact h1 h
  · rw [if_neg h]
    exact h2 h
theorem iteNS {c A B : Prop} [Decidable c] (hc : c) (h : B) : if (!decide c) = true then A else B := by
  rw [decide_eq_true hc]
  exact iteF h

/-! ### heaps -/
/-- all that was tracked is as it was -/
def Same (H H' : Hp) : Prop := ∀ b o, H b = some o → H' b = some o
theorem Same.refl (H : Hp) : Same H H := fun _ _ h => h
theorem Same.trans {H H1 H2 : Hp} (a : Same H H1) (b : Same H1 H2) : Same H H2 := fun c o h => b c o (a c o h)
theorem Same.seq {K : PySem.W.Frag} {H H' : Hp} {a : Addr} {xs : List V} (e : Same H H') (h : SqL K H a xs) : SqL K H' a xs := by
  rcases h with (h | ⟨o, h⟩) | h
  · exact .inl (.inl (e _ _ h))
  · exact .inl (.inr ⟨o, e _ _ h⟩)
  · exact .inr h

end L2

namespace L2
open PySem PySem.Spec PyProof.Rows
/-! ### a dict's pairs: keys that differ -/

end L2

set_option Elab.async false
set_option linter.all false
set_option maxRecDepth 100000
set_option maxHeartbeats 4000000
namespace L2
open PySem PySem.Spec PyProof.Rows
section
variable {X : Cx}
theorem op_isnotB : OpR X (compareOp .IsNot) (fun x y H Q => ∃ b c, x = .bl b ∧ y = .bl c ∧ Q (.bl (b != c)) H) := by
  intro pins s σ H x y v u Q I rx ry h
  obtain ⟨b, c, rfl, rfl, q⟩ := h
  cases rx
  cases ry
  exact isnot_bool (fin_bl I q rfl)
/-- == of two tuples of flat values -/
def eqSeq (xs ys : List V) : Bool := (List.range (min xs.length ys.length)).all (fun j => eqV (xs.getD j .non) (ys.getD j .non)) && xs.length == ys.length
theorem getD_of {α : Type} {xs : List α} {d : α} {j : Nat} (h : j < xs.length) : xs.getD j d = xs[j] := by
  rw [List.getD_eq_getElem?_getD, List.getElem?_eq_getElem h]; rfl
theorem all_at {f : V → Bool} {xs : List V} (h : xs.all f = true) {j : Nat} (hj : j < xs.length) : f (xs.getD j .non) = true := by
  rw [getD_of hj]
  exact List.all_eq_true.mp h _ (List.getElem_mem hj)
theorem rel_at {xs : List V} {us : List Value} (r : Vals xs us) {j : Nat} (hj : j < us.toArray.size) : RelV (xs.getD j .non) (us.toArray[j]) := by
  have hl := r.length
  have hj' : j < us.length := by simpa using hj
  have hx : j < xs.length := by omega
  obtain ⟨u, h1, h2⟩ := r.get (i := j) (x := xs[j]) (List.getElem?_eq_getElem hx)
  rw [getD_of hx]
  have : us.toArray[j] = us[j] := by simp
  rw [this]
  rw [List.getElem?_eq_getElem hj'] at h1
  cases h1
  exact h2
def rEqT (K : PySem.W.Frag) : R2 := fun x y H Q => ∃ p q xs ys, x = .ref p ∧ y = .ref q ∧ SqT K H p xs ∧ SqT K H q ys ∧ xs.all flatV = true ∧ ys.all flatV = true ∧ Q (.bl (eqSeq xs ys)) H
theorem op_eqT (hu : X.A.units < cLine) : OpR X (compareOp .Eq) (rEqT X.K) := by
  intro pins s σ H x y v u Q I rx ry h
  obtain ⟨p, q, xs, ys, rfl, rfl, h1, h2, f1, f2, k⟩ := h
  cases rx
  cases ry
  obtain ⟨us, r1, t1, z1⟩ := I.tuple h1
  obtain ⟨ws, r2, t2, z2⟩ := I.tuple h2
  refine SeqAt.eq_tupleAt (show s.heap.IsTuple p us.toArray from t1) (show s.heap.IsTuple q ws.toArray from t2) hu (fun j a b => ?_) (fin_bl I k ?_) (e := fun j => eqV (xs.getD j .non) (ys.getD j .non))
  · exact eqAt_V (rel_at r1 a) (rel_at r2 b) (all_at f1 (by have := r1.length; have := a; simp at this; omega)) (all_at f2 (by have := r2.length; have := b; simp at this; omega))
  · unfold eqSeq
    rw [List.size_toArray, List.size_toArray, r1.length, r2.length]
end
end L2

set_option Elab.async false
set_option linter.all false
set_option maxRecDepth 100000
set_option maxHeartbeats 4000000
namespace L2
open PySem PySem.Spec PyProof.Rows
section
variable {X : Cx}
/-- isinstance(x, T), T a built-in -/
def rIsi (K : PySem.W.Frag) : List V → Hp → VK → Prop := fun xs H Q => ∃ x t T b, xs = [x, .ty T] ∧ TyOf K H x t ∧ PySem.W.kitOne K t (.type T) = some b ∧ Q (.bl b) H
theorem call_isi : CallR X (.builtin "isinstance") (rIsi X.K) := by
  intro pins s σ H xs us Q I r h
  obtain ⟨x, t, T, b, rfl, ty, e, q⟩ := h
  obtain ⟨u, w', rfl, rx, rt⟩ := vals2 r
  obtain rfl : w' = Value.type T := rt
  exact isinst_ok I rx ty e fun tk => ⟨.bl b, H, I.tok _, rfl, q⟩
example (K : PySem.W.Frag) : PySem.W.kitOne K (.type "int") (.type "bool") = some false := by rfl
example (K : PySem.W.Frag) : PySem.W.kitOne K (.type "tuple") (.type "tuple") = some true := by rfl
example (K : PySem.W.Frag) : PySem.W.kitOne K (.type "int") (.type "int") = some true := by rfl
end
/-- a def that may be called by its name -/
structure Cal (P : Program) (w : World) (K : PySem.W.Frag) (mg : Str → Option Value) (base : Heap) (x : Str) (ps : List Str) (k : Nat) (sp : Sp) : Prop where
  ex : ∃ f fd, FnOk P w K mg base CX0 k f fd ps sp ∧ mg x = some (.ref f) ∧ PySem.W.keepIn K (.ref f) = true ∧ Binds K fd ps []
structure FunAt (K : PySem.W.Frag) (mg : Str → Option Value) (x : Str) (ps : List Str) (st : Stmt) : Prop where
  ex : ∃ f fd, Fun K x x st f fd ∧ mg x = some (.ref f) ∧ Binds K fd ps []
theorem FunAt.cal {P : Program} {w : World} {K : PySem.W.Frag} {mg : Str → Option Value} {base : Heap} {x : Str} {ps N : List Str} {st : Stmt} {k : Nat} {sp : Sp} (F : FunAt K mg x ps st) (S : FnScope N ps (defScope st)) (len : ∀ vs H Q E, sp vs H Q E → vs.length = ps.length)
    (hbody : ∀ (f : Addr) (cdv : Value) (A : Around) (outer : List Env) (s : Shared) (H : Hp) (vs : List V) (Q : VK) (E : XK), Room k (A.deeper (envOfC x (defScope st) s.heap.objs.size f cdv)) → sp vs H Q E →
      ∃ t, PSs (cxOf CX0 P w K mg base N x (defScope st) f cdv A outer s H E).nox (defBody st) t ∧ t { nx := fun _ H' => Q .non H', rt := Q } (start N vs) H) : Cal P w K mg base x ps (k + 1) sp := by
  obtain ⟨f, fd, F1, m, b⟩ := F.ex
  exact ⟨f, fd, F1.ok S len (hbody f), m, F1.kp, b⟩
section
variable {X : Cx} {x : Str} {ps : List Str} {k : Nat} {sp : Sp} {e : Expr} {es : List Expr} {t : TA} {p pos : Pos}
theorem cc (c : Cal X.prog X.w X.K X.mg X.base x ps k sp) (hr : Room k X.A) (ha : PA X (e :: es) t) (hg : Gl X x := by rfl) (hd : (x == ("__debug__" : Str)) = false := by decide)
    (hs : starEach (e :: es) X.env = (false, eval e X.env) :: starEach es X.env := by rfl) (hp : (backTo pos (starEach es X.env)).any (·.1) = false := by rfl) : PE X (.Call (.Name x p) (e :: es) [] pos) (tCall sp [] E0 t) := by
  obtain ⟨f, fd, F, m, kp, b⟩ := c.ex
  exact pe_call F hr hg m kp b .nil pass0 ha hd hs hp
end
theorem funAt_mk {K : PySem.W.Frag} {h : Heap} {mg : Str → Option Value} {x : Str} {ps : List Str} {st : Stmt} {f : Addr} {oc : Value} {od an : Option Addr} {osl : Array (Option Value)} {kV doc pm cdv ct : Value} (X : K.In h) (G : h.Ns mainGlobals mg)
    (hb : ∀ (kV doc pm : Value) (an : Option Addr) (cdv ct : Value) (us : List Value), us.length = ps.length → bindArgs (PySem.W.fnOf x x (defArgs st) (defBody st) (defScope st) .none kV doc pm an cdv ct) ⟨us, []⟩ = pure (ps.zip us))
    (a : PySem.W.nsIn K mainGlobals x = some (some (.ref f))) (l : K.lookup f = some ⟨oc, od, .func (PySem.W.fnOf x x (defArgs st) (defBody st) (defScope st) .none kV doc pm an cdv ct), osl⟩)
    (c : PySem.W.codeIn K cdv x = true) (k : PySem.W.keepIn K (.ref f) = true) : FunAt K mg x ps st :=
  let F := fun_mk (st := st) l c k
  ⟨f, _, F, PySem.W.mg_of X G a, F.binds hb⟩

theorem bt_abs : bootBuiltins "abs" = some (.builtin "abs") := by decide +kernel
theorem bt_len : bootBuiltins "len" = some (.builtin "len") := by decide +kernel
theorem bt_isinstance : bootBuiltins "isinstance" = some (.builtin "isinstance") := by decide +kernel
theorem bt_int : bootBuiltins "int" = some (.type "int") := by decide +kernel
theorem bt_bool : bootBuiltins "bool" = some (.type "bool") := by decide +kernel
theorem bt_tuple : bootBuiltins "tuple" = some (.type "tuple") := by decide +kernel
theorem bt_list : bootBuiltins "list" = some (.type "list") := by decide +kernel
/-! ### shares in the heap -/
open MA
theorem same_new {H : Hp} {p : Addr} (h : H p = none) (o : HO) : Same H (upd H p o) := fun b u q => by rw [upd_ne (ne_of_none q h)]; exact q
/-- all but the thing at p is as it was -/
def penL (c : Addr) (a l : Int) : List (Key × V) := [(.inr "cells", .ref c), (.inr "at", .int a), (.inr "left", .int l)]
/-- .. and that thing is a pen that keeps its cells -/
structure SameX (p : Addr) (H H' : Hp) : Prop where
  all : ∀ b o, H b = some o → b ≠ p → H' b = some o
  pen : ∀ c a l, H p = some (.dK (penL c a l)) → ∃ a' l', H' p = some (.dK (penL c a' l'))
theorem SameX.trans {p : Addr} {H H1 H2 : Hp} (a : SameX p H H1) (b : SameX p H1 H2) : SameX p H H2 :=
  ⟨fun c o h n => b.all c o (a.all c o h n) n, fun c x l h => let ⟨x', l', h'⟩ := a.pen c x l h; b.pen c x' l' h'⟩
theorem Same.x {p : Addr} {H H' : Hp} (a : Same H H') : SameX p H H' := ⟨fun b o h _ => a b o h, fun _ x l h => ⟨x, l, a _ _ h⟩⟩
theorem SameX.upd {p c : Addr} {H : Hp} {a l a' l' : Int} (h : H p = some (.dK (penL c a l))) : SameX p H (upd H p (.dK (penL c a' l'))) :=
  ⟨fun b o e hb => by rw [upd_ne hb]; exact e, fun c' x y e => by rw [h] at e; cases e; exact ⟨a', l', upd_same⟩⟩
end L2

set_option Elab.async false
set_option linter.all false
set_option maxRecDepth 100000
set_option maxHeartbeats 4000000
namespace L2
open PySem PySem.Spec PyProof.Rows
/-! ### a list comprehension of one clause -/
theorem closure_go {env : Env} : ∀ (ns : List (Str × NameKind)) (cs : List (Str × Addr)), (∀ x ∈ ns, x.2 = .free → ∃ c, env.cells.lookup x.1 = some c) → (∀ x c, cs.lookup x = some c → env.cells.lookup x = some c) →
    ∃ cl, (forIn ns cs (fun (p : Str × NameKind) (r : List (Str × Addr)) => if (p.2 == NameKind.free) = true then (do let c ← cellOf env p.1; pure (ForInStep.yield ((p.1, c) :: r))) else pure (ForInStep.yield r)) : Sem (List (Str × Addr))) = pure cl ∧
      (∀ x c, cl.lookup x = some c → env.cells.lookup x = some c) ∧ (∀ x, (x, NameKind.free) ∈ ns → ∃ c, cl.lookup x = some c) ∧ (∀ x c, cs.lookup x = some c → ∃ c', cl.lookup x = some c')
  | [], cs, _, hcs => ⟨cs, rfl, hcs, fun _ h => (by simp at h), fun x c h => ⟨c, h⟩⟩
  | (n, k) :: r, cs, hall, hcs => by
    by_cases hk : k = .free
    · subst hk
      obtain ⟨c, hc⟩ := hall (n, .free) (by simp) rfl
      have hce : cellOf env n = pure c := by unfold cellOf; rw [hc]
      have hcs' : ∀ x d, ((n, c) :: cs).lookup x = some d → env.cells.lookup x = some d := fun x d h => by
        rw [List.lookup_cons] at h
        cases e : x == n with
        | true => rw [e] at h; cases h; rw [eq_of_beq e]; exact hc
        | false => rw [e] at h; exact hcs x d h
      obtain ⟨cl, e, h1, h2, h3⟩ := closure_go r ((n, c) :: cs) (fun x hx => hall x (by simp [hx])) hcs'
      refine ⟨cl, ?_, h1, fun x hx => ?_, fun x d hd => ?_⟩
      · rw [List.forIn_cons, ← e]
        show (cellOf env n >>= _) >>= _ = _
        rw [hce]
        rfl
      · rcases List.mem_cons.mp hx with z | z
        · cases z
          exact h3 n c (by simp)
        · exact h2 x z
      · cases q : x == n with
        | true => exact h3 x c (by rw [List.lookup_cons, q])
        | false => exact h3 x d (by rw [List.lookup_cons, q]; exact hd)
    · obtain ⟨cl, e, h1, h2, h3⟩ := closure_go r cs (fun x hx => hall x (by simp [hx])) hcs
      refine ⟨cl, ?_, h1, fun x hx => ?_, h3⟩
      · rw [List.forIn_cons, ← e]
        have : (k == NameKind.free) = false := by simpa using hk
        simp only [this, Bool.false_eq_true, if_false]
        rfl
      · rcases List.mem_cons.mp hx with z | z
        · cases z
          exact absurd rfl hk
        · exact h2 x z
theorem closure_of {env : Env} {scope : Scope} (hall : ∀ x ∈ scope.names, x.2 = .free → ∃ c, env.cells.lookup x.1 = some c) :
    ∃ cl, closureFor scope env = pure cl ∧ (∀ x c, cl.lookup x = some c → env.cells.lookup x = some c) ∧ (∀ x, (x, NameKind.free) ∈ scope.names → ∃ c, cl.lookup x = some c) := by
  obtain ⟨cl, e, h1, h2, _⟩ := closure_go (env := env) scope.names [] hall (fun x c h => by simp at h)
  refine ⟨cl, ?_, h1, h2⟩
  simp only [closureFor]
  rw [e]
  rfl
/-- the block of a comprehension -/
def cxComp (X : Cx) (scope : Scope) (N : List Str) (cl : List (Str × Addr)) (C : Addr) (s : Shared) (H : Hp) (ex : List Addr) : Cx :=
  { X with N := N, s₀ := s, H₀ := H, env := compEnvC scope cl C X.env, outer := X.stack, stack := X.stack, ex := ex, fn := fun _ => false, pn := [] }
def PTs (X : Cx) (ifs : List Expr) (t : TT) : Prop :=
  ∀ (pins : List (Addr × Obj)) (s : Shared) (σ : St) (H : Hp) (Q : Bool → Hp → Prop), Inv X pins σ H s → t σ H Q →
    wpAny (model X.prog X.w) X.A (forIn ifs true fun c r => if r = true then do let ok ← isTrue c X.env (eval c X.env); pure (ForInStep.yield ok) else pure (ForInStep.yield r)) (TP X pins σ Q) X.xe s
def tTT : TT := fun _ H Q => Q true H
theorem pts_nil {X : Cx} : PTs X [] tTT := fun pins s σ H Q I h => wpAny_tests_nil ⟨H, I, h⟩
theorem pts_one {X : Cx} {c : Expr} {t : TT} (h : PT X c t) : PTs X [c] t := fun pins s σ H Q I hw => wpAny_tests_one (h pins s σ H Q I hw)
def tComp (σ0 : St → St) (wi : TI) (g : TG) (tc : TT) (te : TE) : TE := fun σ H Q => wi σ H fun J H1 => ∀ p, H1 p = none → ∃ W : Nat → Nat → List V → St → Hp → Prop, (∃ m, W 0 m [] (σ0 σ) (upd H1 p (.lst []))) ∧ ∀ i m ys σ' H', W i m ys σ' H' →
  (J.stop i H' ∧ Q (.ref p) H') ∨ (J.go i H' ∧ ∀ x H2, J.yld i H' x H2 → g x σ' H2 fun σ2 H3 => tc σ2 H3 fun b H4 => if b = true then te σ2 H4 fun v H5 => ys.length < sizeLine ∧ H5 p = some (.lst ys) ∧ (∃ m', m' < m ∧ W (i + 1) m' (ys ++ [v]) σ2 (upd H5 p (.lst (ys ++ [v]))))
    else ∃ m', m' < m ∧ W (i + 1) m' ys σ2 H4)
/-- which of the def's values the block sees -/
def Sees (X : Cx) (scope : Scope) (N : List Str) (σ0 : St → St) : Prop :=
  ∀ σ : St, (σ0 σ).length = N.length ∧ ∀ (i : Nat) (x : Str) (v : V), N[i]? = some x → (σ0 σ)[i]? = some (some v) → scope.names.lookup x = some .free ∧ ∃ j : Nat, X.N[j]? = some x ∧ σ[j]? = some (some v)
theorem lookup_relabel_mem {env : Env} {names : List (Str × NameKind)} {x : Str} : ∀ {k}, (names.map fun (n, k) => if (k == NameKind.free && env.scope.kind == .function && env.kindOf n == some .cell) = true then (n, NameKind.cell) else (n, k)).lookup x = some k → (x, k) ∈ names ∨ (k = .cell ∧ (x, NameKind.free) ∈ names) := by
  induction names with
  | nil => intro k h; simp at h
  | cons a r ih =>
    intro k h
    obtain ⟨n, k0⟩ := a
    rw [List.map_cons] at h
    dsimp only at h
    by_cases hc : (k0 == NameKind.free && env.scope.kind == .function && env.kindOf n == some .cell) = true
    · rw [if_pos hc] at h
      have hk0 : k0 = .free := by
        simp only [Bool.and_eq_true, beq_iff_eq] at hc
        exact hc.1.1
      rw [List.lookup_cons] at h
      cases e : x == n with
      | true =>
        rw [e] at h
        cases h
        exact .inr ⟨rfl, by rw [eq_of_beq e, hk0]; simp⟩
      | false =>
        rw [e] at h
        rcases ih h with z | ⟨z1, z2⟩
        · exact .inl (List.mem_cons_of_mem _ z)
        · exact .inr ⟨z1, List.mem_cons_of_mem _ z2⟩
    · rw [if_neg hc] at h
      rw [List.lookup_cons] at h
      cases e : x == n with
      | true =>
        rw [e] at h
        cases h
        exact .inl (by rw [eq_of_beq e]; simp)
      | false =>
        rw [e] at h
        rcases ih h with z | ⟨z1, z2⟩
        · exact .inl (List.mem_cons_of_mem _ z)
        · exact .inr ⟨z1, List.mem_cons_of_mem _ z2⟩
theorem lookup_relabel_free {env : Env} {x : Str} : ∀ {names : List (Str × NameKind)}, names.lookup x = some .free →
    (names.map fun (n, k) => if (k == NameKind.free && env.scope.kind == .function && env.kindOf n == some .cell) = true then (n, NameKind.cell) else (n, k)).lookup x = some .cell ∨ (names.map fun (n, k) => if (k == NameKind.free && env.scope.kind == .function && env.kindOf n == some .cell) = true then (n, NameKind.cell) else (n, k)).lookup x = some .free
  | [], h => by simp at h
  | (n, k0) :: r, h => by
    rw [List.lookup_cons] at h
    rw [List.map_cons]
    dsimp only
    cases e : x == n with
    | true =>
      rw [e] at h
      cases h
      by_cases hc : (NameKind.free == NameKind.free && env.scope.kind == .function && env.kindOf n == some .cell) = true
      · rw [if_pos hc]; left; rw [List.lookup_cons, e]
      · rw [if_neg hc]; right; rw [List.lookup_cons, e]
    | false =>
      rw [e] at h
      have ih := lookup_relabel_free (env := env) h
      by_cases hc : (k0 == NameKind.free && env.scope.kind == .function && env.kindOf n == some .cell) = true
      · rw [if_pos hc, List.lookup_cons, e]; exact ih
      · rw [if_neg hc, List.lookup_cons, e]; exact ih
theorem mem_of_lookupF {x : Str} {k : NameKind} : ∀ {names : List (Str × NameKind)}, names.lookup x = some k → (x, k) ∈ names := fun h => PySem.mem_of_lookup h
theorem pe_comp {X : Cx} {elt tg iter : Expr} {ifs : List Expr} {scope : Scope} {pos : Pos} {wi : TI} {g : TG} {tc : TT} {te : TE} {N : List Str} {σ0 : St → St}
    (hc : X.calm = true) (hxe : ∀ e s, X.xe e s → False) (hcell : ∀ y ∈ scope.names, y.2 ≠ .cell) (hkind : scope.kind = .function) (hnames : ∀ y ∈ scope.names, y.2 = .local → scope.names.lookup y.1 = some .local)
    (hfr : ∀ y ∈ scope.names, y.2 = .free → X.env.kindOf y.1 = some .cell ∨ X.env.kindOf y.1 = some .free) (hσ : Sees X scope N σ0)
    (hi : PI X tg iter wi)
    (hg : ∀ cl C s H ex, PG (cxComp X scope N cl C s H ex) tg g) (ht : ∀ cl C s H ex, PTs (cxComp X scope N cl C s H ex) ifs tc) (he : ∀ cl C s H ex, PE (cxComp X scope N cl C s H ex) elt te)
    (hs : ∀ x, foldedSetIterable iter X.env x = pure x := by intro _; rfl) : PE X (.ListComp elt [⟨tg, iter, ifs, 0⟩] scope pos) (tComp σ0 wi g tc te) := by
  intro pins s σ H Q I h
  obtain ⟨cl, hclos, hcl1, hcl2⟩ := closure_of (env := X.env) (scope := scope) fun y hy hf => I.ok.has y.1 (hfr y hy hf)
  rw [eval_ListComp]
  refine wpAny_comprehension_free (use := none) rfl hs hclos hkind hnames (thn (hi pins s σ H _ I h) fun v s1 h1 => thn h1 fun itv s2 h2 => ?_)
  obtain ⟨it, fp, tn, J, H2, e, I2, T, st2, f2, h3⟩ := h2
  subst e
  have hpn : H2 s2.heap.objs.size = none := I2.hok.fresh (Nat.le_refl _)
  obtain ⟨W, ⟨m0, w0⟩, turn⟩ := h3 _ hpn
  refine wpAny_newObj_type ?_
  generalize hp : s2.heap.objs.size = p at *
  have I3 : Inv X pins σ (upd H2 p (.lst [])) { s2 with heap := s2.heap.push { cls := .type "list", dict := none, data := .seq ([] : List Value).toArray } } := by
    refine I2.laid (a := p) (o := .lst []) (t' := s2.toks) (fun b u q => Heap.get?_push_of_some _ q) (Nat.le_of_eq hp) ⟨Nat.zero_le _, [], 0, .nil, ?_⟩
    rw [← hp]
    exact Heap.get?_push_size _ rfl
  have hf3 : ∀ b ∈ fp, FpOk X pins (upd H2 p (.lst [])) b := fun b hb => by
    obtain ⟨o, ho, _⟩ := T.obj _ _ st2 b hb
    have : b ≠ p := by rw [← hp]; exact Nat.ne_of_lt (Heap.lt_size ho)
    exact ⟨by rw [upd_ne this]; exact (f2 b hb).1, (f2 b hb).2⟩
  generalize hs3 : ({ s2 with heap := s2.heap.push { cls := .type "list", dict := none, data := .seq ([] : List Value).toArray } } : Shared) = s3 at *
  have st3 : tn 0 s3.heap := by rw [← hs3]; exact T.keep _ _ _ st2 fun b _ o e => Heap.get?_push_of_some _ e
  generalize hH3 : upd H2 p (.lst []) = H3 at *
  refine wpAny_newFunctionEnv hcell (by intro y hy; simp at hy) (fun h1 hns1 hsb1 => ?_) hkind
  generalize hC : s3.heap.objs.size = C at *
  have keep : ∀ b u, s3.heap.get? b = some u → h1.get? b = some u := fun b u q =>
    hsb1.extBut b u (by rw [← hC]; exact Nat.ne_of_lt (Heap.lt_size q)) (Heap.get?_push_of_some _ q)
  have fpC : ∀ b ∈ fp, b ≠ C := fun b hb => by
    obtain ⟨o, ho, _⟩ := T.obj _ _ st3 b hb
    rw [← hC]; exact Nat.ne_of_lt (Heap.lt_size ho)
  have hCn : H3 C = none := I3.hok.fresh (Nat.le_of_eq hC)
  -- the block's own invariant, at its entry
  have ok' : (cxComp X scope N cl C s3 H3 fp).Ok := by
    refine ⟨I3.mod, hkind, I3.ok.glob, I3.ok.blt, Nat.le_of_eq hC, fun x y c a b => I3.ok.inj x y c (hcl1 x c a) (hcl1 y c b), fun x hx => ?_, fun _ _ z => Bool.noConfusion (show false = true from z), I3.ok.hd, I3.ok.frames, .inl rfl, fun b hb => ⟨fpC b hb, fun x c q => (hf3 b hb).2.2.2.2.1 x c (hcl1 x c q)⟩,
      I3.bs, Nat.le_trans I3.ok.bsz I3.sz, fun b o e hb => ?_, fun b hb z => ?_, I3.stack, I3.stkFree⟩
    · have hx' : (relabel scope X.env).names.lookup x = some .cell ∨ (relabel scope X.env).names.lookup x = some .free := hx
      rcases hx' with z | z
      · rcases lookup_relabel_mem z with y | ⟨_, y⟩
        · exact absurd rfl (hcell _ y)
        · exact hcl2 x y
      · rcases lookup_relabel_mem z with y | ⟨y, _⟩
        · exact hcl2 x y
        · cases y
    · rcases (hf3 b hb).2.2.2.1 with z | z
      · exact I3.ok.noex b o e z
      · exact absurd (Nat.lt_of_lt_of_le (Heap.lt_size e) (Nat.le_trans I3.ok.bsz z)) (Nat.lt_irrefl _)
    · rcases List.mem_cons.mp (I3.stkSub b z) with q | q
      · exact (hf3 b hb).2.1 q
      · exact (hf3 b hb).2.2.1 q
  have J0 : Inv (cxComp X scope N cl C s3 H3 fp) [] (σ0 σ) H3 { s3 with heap := h1, toks := s3.toks + ([] : List (Str × Value)).length } := by
    refine ⟨ok', rfl, I3.bare, Un.kept keep, ⟨_, hns1, fun i x v a b c => ?_⟩, fun x c q => ?_, hCn, fun x c q => I3.freeC x c (hcl1 x c q), fun q hq => absurd (show q ∈ ([] : List (Addr × Obj)) from hq) (by simp), I3.hok.kept keep, (hσ σ).1⟩
    · obtain ⟨hf, j, hj, hv⟩ := (hσ σ).2 i x v a b
      have hm := mem_of_lookupF hf
      obtain ⟨m, hn, hl⟩ := id I3.loc
      have hk := hfr _ hm rfl
      have hvis : Vis X.env.scope x := hk.elim (fun z => .inr (.inl z)) fun z => .inr (.inr z)
      obtain ⟨u, r, lk⟩ := hl j x v hj hv hvis
      refine ⟨u, r, .inr ⟨lookup_relabel_free hf, ?_⟩⟩
      obtain ⟨c', hc'⟩ := hcl2 x hm
      refine ⟨c', hc', ?_⟩
      have hx := hcl1 x c' hc'
      rcases lk with ⟨kl, _⟩ | ⟨_, c2, e2, o2, ho2, hd2⟩
      · rcases hk with z | z <;> rw [kl] at z <;> cases z
      · rw [hx] at e2
        cases e2
        exact ⟨o2, keep _ _ ho2, hd2⟩
    · obtain ⟨v, o, ho, hd⟩ := I3.cell x c (hcl1 x c q)
      exact ⟨v, o, keep _ _ ho, hd⟩
  have st4 : tn 0 h1 := T.keep _ _ _ st3 fun b _ o e => keep b o e
  have stat : ∀ {H' : Hp}, (∀ b ∈ fp, H' b = none) → ∀ b ∈ fp, FpOk (cxComp X scope N cl C s3 H3 fp) [] H' b := fun hn b hb =>
    ⟨hn b hb, fpC b hb, fun z => ok'.exfs b hb z, .inl hb, fun x c q => (hf3 b hb).2.2.2.2.1 x c (hcl1 x c q), fun q hq => absurd (show q ∈ ([] : List (Addr × Obj)) from hq) (by simp)⟩
  -- back to the def
  have back : ∀ {σ' : St} {H' : Hp} {s' : Shared} {pl : List (Addr × Obj)}, Inv (cxComp X scope N cl C s3 H3 fp) pl σ' H' s' → ∀ h', Heap.SameBut C s'.heap h' → Inv X pins σ H' { s' with heap := h' } := fun {σ' H' s' pl} J h' hsb => by
    have I5 : Inv X pins σ H' s' := Inv.call' (ch := fp) I3 J.os J.base J.hok J.bare fun b hb => ⟨(hf3 b hb).2.2.2.1, (hf3 b hb).2.1, (hf3 b hb).2.2.2.2.1, (hf3 b hb).2.2.2.2.2⟩
    refine Inv.turned (it := C) (t' := s'.toks) I5 (fun b o hb e => hsb.extBut b o hb e) J.free (fun z => ?_) (.inr ?_) (fun x c q z => ?_) fun q hq z => ?_
    · exact absurd (show X.env.locals < C by rw [← hC]; exact I3.lt) (by rw [z]; exact Nat.lt_irrefl _)
    · rw [← hC]; exact I3.sz
    · obtain ⟨v, o, ho, _⟩ := I3.cell x c q
      have := Heap.lt_size ho
      rw [z, hC] at this
      exact Nat.lt_irrefl _ this
    · have := Heap.lt_size (I3.pin q hq).1
      rw [z, hC] at this
      exact Nat.lt_irrefl _ this
  have loop : codeAny (model X.prog X.w) X.A (.compLoop (.ListComp elt [⟨tg, iter, ifs, 0⟩] scope pos) 0 (.ref it) (.ref p) (compEnvC scope cl C X.env)) (compPost (model X.prog X.w) X.A X.xe none (EP X pins σ Q) (.ref p) C) { s3 with heap := h1, toks := s3.toks + ([] : List (Str × Value)).length } := by
    refine codeAny_loop rfl (fun n s' => ∃ i ys σ' H', Inv (cxComp X scope N cl C s3 H3 fp) [] σ' H' s' ∧ tn i s'.heap ∧ (∀ b ∈ fp, H' b = none) ∧ W i n ys σ' H') (fun n s' hI => ?_) m0 ⟨0, [], σ0 σ, H3, J0, st4, fun b hb => (hf3 b hb).1, w0⟩
    obtain ⟨i, ys, σ', H', J', st', fr', w'⟩ := hI
    show wpAny _ X.A ((compTurn (.ListComp elt [⟨tg, iter, ifs, 0⟩] scope pos) 0 (.ref it) (.ref p) (compEnvC scope cl C X.env)).onRaise (fun x => do noteFrame x (compEnvC scope cl C X.env); theTreesLotGoes x)) _ _ s'
    refine wpAny_noted ?_
    rw [compTurn_list]
    rcases turn i n ys σ' H' w' with ⟨stop, q⟩ | ⟨go, step⟩
    · refine wpAny_bind (wpAny_standAt (wpAny_bind (wpAny_mono (T.done (cxComp X scope N cl C s3 H3 fp) rfl rfl rfl hc i [] s' σ' H' X.xe J' (stat fr') st' stop) (fun r s4 h4 => ?_) fun _ _ x => (hxe _ _ x).elim)))
      obtain ⟨hr, I4⟩ := h4
      subst hr
      refine wpAny_pure ?_
      obtain ⟨m, hn, _⟩ := id I4.loc
      exact ⟨m, hn, fun h' hsb => ⟨.ref p, H', back I4 h' hsb, rfl, q⟩⟩
    · refine wpAny_bind (wpAny_standAt (wpAny_bind (wpAny_mono (T.item (cxComp X scope N cl C s3 H3 fp) rfl rfl rfl hc i [] s' σ' H' X.xe J' (stat fr') st' go) (fun r s4 h4 => ?_) fun _ _ x => (hxe _ _ x).elim)))
      obtain ⟨u, hr, h4⟩ := h4
      subst hr
      refine wpAny_bind (wpAny_mono h4 (fun _ s5 h5 => ?_) fun _ _ x => (hxe _ _ x).elim)
      obtain ⟨x, H5, I5, r5, y5, st5, fr5⟩ := h5
      have I5' := I5.pinned (stat fr5) (T.obj _ _ st5)
      refine wpAny_bind (wpAny_mono (hg cl C s3 H3 fp _ s5 σ' H5 x u _ I5' r5 (step x H5 y5)) (fun _ s6 h6 => ?_) fun _ _ x => (hxe _ _ x).elim)
      obtain ⟨σ6, H6, I6, q6⟩ := h6
      have again : ∀ {σ7 : St} {H7 : Hp} {s7 : Shared} {ys7 : List V}, Inv (cxComp X scope N cl C s3 H3 fp) ([] ++ pinsAt fp s5.heap) σ7 H7 s7 → (∃ m', m' < n ∧ W (i + 1) m' ys7 σ7 H7) →
          ∃ m, m < n ∧ ∃ i ys σ' H', Inv (cxComp X scope N cl C s3 H3 fp) [] σ' H' s7 ∧ tn i s7.heap ∧ (∀ b ∈ fp, H' b = none) ∧ W i m ys σ' H' := fun {σ7 H7 s7 ys7} I7 n7 => by
        obtain ⟨m', hm, w7⟩ := n7
        refine ⟨m', hm, i + 1, ys7, σ7, H7, I7.unpinned, T.keep _ _ _ st5 fun b hb o e => (I7.pin (b, o) (List.mem_append_right _ (List.mem_append_right _ (mem_pinsAt hb e)))).1, fun b hb => ?_, w7⟩
        obtain ⟨o, e, d⟩ := T.obj _ _ st5 b hb
        exact (I7.pin (b, o) (List.mem_append_right _ (List.mem_append_right _ (mem_pinsAt hb e)))).2.1
      refine wpAny_bind (wpAny_mono (ht cl C s3 H3 fp _ s6 σ6 H6 _ I6 q6) (fun ok s7 h7 => ?_) fun _ _ x => (hxe _ _ x).elim)
      obtain ⟨H7, I7, q7⟩ := h7
      cases ok with
      | false =>
        rw [if_neg Bool.false_ne_true] at q7
        exact wpAny_pure ⟨rfl, again I7 q7⟩
      | true =>
        rw [if_pos rfl] at q7
        refine wpAny_bind (wpAny_bind (wpAny_mono (he cl C s3 H3 fp _ s7 σ6 H7 _ I7 q7) (fun y s8 h8 => ?_) fun _ _ x => (hxe _ _ x).elim))
        obtain ⟨v, H8, I8, r8, hz, hH8, w8⟩ := h8
        refine wpAny_bind (wpAny_mono (mt_append (X := cxComp X scope N cl C s3 H3 fp) _ s8 σ6 H8 (.ref p) [v] (.ref p) [y] (fun x H9 => x = .non ∧ H9 = upd H8 p (.lst (ys ++ [v]))) I8 rfl (.cons r8 .nil) ⟨p, ys, v, rfl, rfl, hH8, hz, rfl, rfl⟩) (fun _ s9 h9 => ?_) fun _ _ x => (hxe _ _ x).elim)
        obtain ⟨z, H9, I9, _, _, e9⟩ := h9
        subst e9
        exact wpAny_pure (wpAny_pure ⟨rfl, again I9 w8⟩)
  exact codeAny_compStart_list loop (T.self X.A 0 _ _ _ st4 loop)
end L2
namespace L2
open PySem PySem.Spec PyProof.Rows
theorem bt_all : bootBuiltins "all" = some (.builtin "all") := by decide +kernel
theorem range_all (bs : List Bool) (n : Nat) (h : bs.length = n) : (List.range n).all (fun i => bs.getD i false) = bs.all id := by
  subst h
  rw [Bool.eq_iff_iff, List.all_eq_true, List.all_eq_true]
  constructor
  · intro h x hx
    obtain ⟨i, hi, e⟩ := List.mem_iff_getElem.mp hx
    have := h i (by simpa using hi)
    rw [getD_of hi, e] at this
    exact this
  · intro h i hi
    have hi' : i < bs.length := by simpa using hi
    rw [getD_of hi']
    exact h _ (List.getElem_mem hi')
section
variable {X : Cx}
/-- all(xs), xs a list of truths -/
def rAll : List V → Hp → VK → Prop := fun xs H Q => ∃ (l : Addr) (bs : List Bool), xs = [.ref l] ∧ H l = some (.lst (bs.map V.bl)) ∧ Q (.bl (bs.all id)) H
theorem call_all (hc : X.calm = true) : CallR X (.builtin "all") rAll := by
  intro pins s σ H xs us Q I r h
  obtain ⟨l, bs, rfl, hl, q⟩ := h
  obtain ⟨u, rfl, ru⟩ := vals1 r
  cases ru
  obtain ⟨its, rv, p, hz⟩ := I.list (SqL.of hl)
  have hlt : l < s.heap.objs.size := I.hok.lt hl
  have hlen : bs.length = its.length := by have := rv.length; rwa [List.length_map] at this
  refine call_all_walk (wpAny_pyIter_list p.isList ?_)
  refine ⟨s.heap.objs.size, _, _, _, _, _, fun i => bs.getD i false, rfl, Walks.list (A := X.A.in1) (show X.A.in1.handled = none from I.ok.hd hc) s.heap.objs.size l (Nat.ne_of_lt hlt) its.toArray, ⟨⟨_, Heap.get?_push_size _ rfl, rfl, rfl⟩, ?_⟩, ?_, fun h' tk hk => ?_⟩
  · exact p.isList.at fun o e => Heap.get?_push_of_some _ e
  · intro i v s' Q' E' hv hQ
    have hi : i < its.length := by
      have := (Array.getElem?_eq_some_iff.mp hv).1
      simpa using this
    have hb : (bs.map V.bl)[i]? = some (.bl (bs.getD i false)) := by
      rw [List.getElem?_map, List.getElem?_eq_getElem (by omega), getD_of (by omega)]; rfl
    obtain ⟨u, hu, ru⟩ := rv.get hb
    have : v = u := by
      rw [List.getElem?_toArray, hu] at hv
      exact (Option.some.inj hv).symm
    subst this
    obtain rfl : v = Value.bool (bs.getD i false) := ru
    exact wpAny_pure hQ
  · refine ⟨.bl (bs.all id), H, I.kept (t' := tk) fun b o e => hk b o ?_ (Heap.get?_push_of_some _ e), ?_, q⟩
    · intro z
      have : b = s.heap.objs.size := by simpa using z
      subst this
      exact Nat.lt_irrefl _ (Heap.lt_size e)
    · show Value.bool _ = Value.bool _
      rw [range_all bs its.toArray.size (by simpa using hlen)]
end
end L2

set_option Elab.async false
set_option linter.all false
set_option maxRecDepth 100000
set_option maxHeartbeats 4000000
namespace L2
open PySem PySem.Spec PyProof.Rows
end L2
namespace L2
open MA
end L2
namespace My
open PySem L2 MA
section
variable {P : Program} {w : World} {K : PySem.W.Frag} {mg : Str → Option Value} {base : Heap}
structure Txt (mg : Str → Option Value) : Prop where
  z_abs : mg "abs" = none
  z_len : mg "len" = none
  z_isinstance : mg "isinstance" = none
  z_range : mg "range" = none
  z_int : mg "int" = none
  z_bool : mg "bool" = none
  z_tuple : mg "tuple" = none
  z_list : mg "list" = none
  z_all : mg "all" = none
/-- the pen: where it stands in the script, n draws at most so far -/
def Pen (H : Hp) (p : Addr) (n : Nat) : Prop := ∃ (c : Addr) (ns : List Int) (a l : Int), H p = some (.dK (penL c a l)) ∧ H c = some (.lst (ns.map V.int)) ∧ 0 ≤ a ∧ a ≤ n
theorem Pen.mono {H : Hp} {p : Addr} {m n : Nat} (h : Pen H p m) (l : m ≤ n) : Pen H p n := let ⟨c, ns, a, x, h1, h2, h3, h4⟩ := h; ⟨c, ns, a, x, h1, h2, h3, by omega⟩
theorem Pen.same {H H' : Hp} {p : Addr} {n : Nat} (h : Pen H p n) (s : Same H H') : Pen H' p n := let ⟨c, ns, a, x, h1, h2, h3, h4⟩ := h; ⟨c, ns, a, x, s _ _ h1, s _ _ h2, h3, h4⟩
theorem Pen.dk {H : Hp} {p : Addr} {n : Nat} (h : Pen H p n) : ∃ kvs, H p = some (.dK kvs) := let ⟨c, ns, a, x, h1, _⟩ := h; ⟨_, h1⟩
theorem pen_cells (c : Addr) (a l : Int) : valV (penL c a l) (.inr "cells" : Key) = some (.ref c) := by rfl

theorem pen_at (c : Addr) (a l : Int) : valV (penL c a l) (.inr "at" : Key) = some (.int a) := by rfl
theorem pen_left (c : Addr) (a l : Int) : valV (penL c a l) (.inr "left" : Key) = some (.int l) := by rfl
theorem put_at (c : Addr) (a l b : Int) : putK (penL c a l) (.inr "at" : Key) (.int b) = penL c b l := by rfl
theorem put_left (c : Addr) (a l b : Int) : putK (penL c a l) (.inr "left" : Key) (.int b) = penL c a b := by rfl
theorem get_cells {H : Hp} {p c : Addr} {a l : Int} (h : H p = some (.dK (penL c a l))) : DGet H p (.str "cells") (some (.ref c)) := by
  have := DGet.k (k := (.inr "cells" : Key)) h; rw [pen_cells] at this; exact this
theorem get_at {H : Hp} {p c : Addr} {a l : Int} (h : H p = some (.dK (penL c a l))) : DGet H p (.str "at") (some (.int a)) := by
  have := DGet.k (k := (.inr "at" : Key)) h; rw [pen_at] at this; exact this
theorem get_left {H : Hp} {p c : Addr} {a l : Int} (h : H p = some (.dK (penL c a l))) : DGet H p (.str "left") (some (.int l)) := by
  have := DGet.k (k := (.inr "left" : Key)) h; rw [pen_left] at this; exact this
theorem dput_at {H : Hp} {p c : Addr} {a l b : Int} (h : H p = some (.dK (penL c a l))) : DPut H p (.str "at") (.int b) (upd H p (.dK (penL c b l))) := by
  have := DPut.k (k := (.inr "at" : Key)) (v := .int b) h (by show 3 < sizeLine; decide); rw [put_at] at this; exact this
theorem dput_left {H : Hp} {p c : Addr} {a l b : Int} (h : H p = some (.dK (penL c a l))) : DPut H p (.str "left") (.int b) (upd H p (.dK (penL c a b))) := by
  have := DPut.k (k := (.inr "left" : Key)) (v := .int b) h (by show 3 < sizeLine; decide); rw [put_left] at this; exact this
theorem prime_at (a : Int) : ∃ pr : Int, 0 < pr ∧ pr < 2147483648 ∧ atI ([.int 2147483647, .int 2147483629, .int 2147483587, .int 2147483579, .int 2147483563, .int 2147483549, .int 2147483543] : List V) (a % 7) = some (.int pr) := by
  have h : a % 7 = 0 ∨ a % 7 = 1 ∨ a % 7 = 2 ∨ a % 7 = 3 ∨ a % 7 = 4 ∨ a % 7 = 5 ∨ a % 7 = 6 := by omega
  rcases h with e | e | e | e | e | e | e <;> rw [e] <;> exact ⟨_, by decide, by decide, rfl⟩
theorem sq_bound {a : Int} (h0 : 0 ≤ a) (h1 : a ≤ 100000) : 0 ≤ 75329 * a * a ∧ 75329 * a * a ≤ 753290000000000 := by
  have h2 : 0 ≤ 75329 * a := by omega
  refine ⟨Int.mul_nonneg h2 h0, ?_⟩
  have := Int.mul_le_mul (show 75329 * a ≤ 7532900000 by omega) h1 h0 (by decide)
  omega
theorem cell_at {ns : List Int} (a : Int) (h : 0 < ns.length) : ∃ z : Int, atI (ns.map V.int) (a % (((ns.map V.int).length : Nat) : Int)) = some (.int z) := by
  rw [List.length_map]
  have h0 := Int.emod_nonneg a (show ((ns.length : Nat) : Int) ≠ 0 by omega)
  have h1 := Int.emod_lt_of_pos a (show 0 < ((ns.length : Nat) : Int) by omega)
  have hk : (a % (ns.length : Int)).toNat < ns.length := by omega
  have ek : a % (ns.length : Int) = (((a % (ns.length : Int)).toNat : Nat) : Int) := by omega
  refine ⟨ns[(a % (ns.length : Int)).toNat], ?_⟩
  have q : atI (ns.map V.int) (((a % (ns.length : Int)).toNat : Nat) : Int) = some (.int ns[(a % (ns.length : Int)).toNat]) := atI_nat (by rw [List.getElem?_map, List.getElem?_eq_getElem hk] <;> rfl)
  rw [← ek] at q
  exact q
/-- the last rows of a draw, as they are read -/
abbrev tTail (K : PySem.W.Frag) : TS := tSeq (tAsg (tOp (rIxT K) (tTup (tCons (tC (.int 2147483647)) (tCons (tC (.int 2147483629)) (tCons (tC (.int 2147483587)) (tCons (tC (.int 2147483579)) (tCons (tC (.int 2147483563)) (tCons (tC (.int 2147483549)) (tCons (tC (.int 2147483543)) tNil))))))))
    (tOp (rI (fun _ j => 0 < j) fun i j => .int (i % j)) (tVar 2) (tC (.int 7)))) (gName 4))
  (tSeq (tAsg (tOp (rI (fun _ j => 0 < j) fun i j => .int (i % j)) (tOp (rI CPow fun i j => .int (i ^ j.toNat)) (tOp (rI0 fun i j => .int (i + j)) (tOp (rI0 fun i j => .int (i + j)) (tOp (rI0 fun i j => .int (i + j)) (tOp (rI (fun _ j => 0 < j) fun i j => .int (i % j)) (tVar 3) (tC (.int 2147483497)))
      (tOp (rI CMul fun i j => .int (i * j)) (tOp (rI CMul fun i j => .int (i * j)) (tC (.int 75329)) (tVar 2)) (tVar 2))) (tOp (rI CMul fun i j => .int (i * j)) (tC (.int 30011)) (tVar 2))) (tC (.int 271))) (tC (.int 3))) (tVar 4)) (gName 5))
  (tSeq (tAsg (tOp (rI (fun _ j => 0 < j) fun i j => .int (i % j)) (tOp (rI CPow fun i j => .int (i ^ j.toNat)) (tOp (rI0 fun i j => .int (i + j)) (tOp (rI0 fun i j => .int (i + j)) (tVar 5) (tOp (rI CMul fun i j => .int (i * j)) (tC (.int 11)) (tVar 2))) (tC (.int 5))) (tC (.int 2))) (tC (.int 2147483489))) (gName 5))
  (tRet (tOp (rI (fun _ j => 0 < j) fun i j => .int (i % j)) (tOp (rI CDiv fun i j => .int (i / j)) (tOp (rI (fun _ j => 0 < j) fun i j => .int (i % j)) (tOp (rI CMul fun i j => .int (i * j)) (tVar 5) (tC (.int 69621))) (tC (.int 2147483477))) (tC (.int 1013))) (tVar 1)))))
theorem draw_tail {D : Ends} {H : Hp} {p : Addr} {m a x pr : Int} {u v y : Option V} (hm : 0 < m) (pr0 : 0 < pr) (pr1 : pr < 2147483648)
    (hpr : atI ([.int 2147483647, .int 2147483629, .int 2147483587, .int 2147483579, .int 2147483563, .int 2147483549, .int 2147483543] : List V) (a % 7) = some (.int pr)) (ha0 : 0 ≤ a) (ha : a ≤ 100000) (sq0 : 0 ≤ 75329 * a * a) (sq1 : 75329 * a * a ≤ 753290000000000)
    (k : ∀ (r : Int) (t : Addr), H t = none → 0 ≤ r → r < m → D.rt (.int r) (upd H t (.tup [.int 2147483647, .int 2147483629, .int 2147483587, .int 2147483579, .int 2147483563, .int 2147483549, .int 2147483543]))) :
    tTail K D [some (.ref p), some (.int m), some (.int a), some (.int x), u, v, y] H := by
  refine ⟨(by show 7 ≤ sizeLine; decide), fun t ht => ?_⟩
  refine ⟨_, rfl, _, _, rfl, rfl, (show (0 : Int) < 7 by decide), t, _, _, _, rfl, rfl, SqT.of upd_same, hpr, ?_⟩
  have e0 := Int.emod_nonneg x (show (2147483497 : Int) ≠ 0 by decide)
  have e1 := Int.emod_lt_of_pos x (show (0 : Int) < 2147483497 by decide)
  refine ⟨_, rfl, _, _, rfl, rfl, (show (0 : Int) < 2147483497 by decide), _, rfl, _, _, rfl, rfl, .inl ⟨by decide, by decide⟩, _, rfl, _, _, rfl, rfl, .inr ⟨by omega, by omega⟩, _, _, rfl, rfl, _, rfl, _, _, rfl, rfl, .inl ⟨by decide, by decide⟩, _, _, rfl, rfl, _, _, rfl, rfl, _, _, rfl, rfl, ⟨by decide, by decide, ?_⟩, _, rfl, _, _, rfl, rfl, pr0, ?_⟩
  · show (x % 2147483497 + 75329 * a * a + 30011 * a + 271).natAbs < 2 ^ 64
    omega
  have w0 := Int.emod_nonneg ((x % 2147483497 + 75329 * a * a + 30011 * a + 271) ^ Int.toNat 3) (show pr ≠ 0 by omega)
  have w2 := Int.emod_lt_of_pos ((x % 2147483497 + 75329 * a * a + 30011 * a + 271) ^ Int.toNat 3) pr0
  refine ⟨_, rfl, _, rfl, _, _, rfl, rfl, .inl ⟨by decide, by decide⟩, _, _, rfl, rfl, _, _, rfl, rfl, _, _, rfl, rfl, ⟨by decide, by decide, ?_⟩, _, _, rfl, rfl, (show (0 : Int) < 2147483489 by decide), ?_⟩
  · show ((x % 2147483497 + 75329 * a * a + 30011 * a + 271) ^ Int.toNat 3 % pr + 11 * a + 5).natAbs < 2 ^ 64
    generalize (x % 2147483497 + 75329 * a * a + 30011 * a + 271) ^ Int.toNat 3 % pr = w1 at w0 w2 ⊢
    omega
  refine ⟨_, rfl, _, _, rfl, rfl, .inr ⟨by decide, by decide⟩, _, _, rfl, rfl, (show (0 : Int) < 2147483477 by decide), _, _, rfl, rfl, ⟨by decide, by decide⟩, _, rfl, _, _, rfl, rfl, hm, ?_⟩
  exact k _ t ht (Int.emod_nonneg _ (by omega)) (Int.emod_lt_of_pos _ hm)
def spDraw : Sp := fun vs H Q _ => ∃ (p : Addr) (m : Int) (n : Nat), vs = [.ref p, .int m] ∧ Pen H p n ∧ n < 100000 ∧ 0 < m ∧ m < 1073741824 ∧ ∀ (r : Int) (H' : Hp), 0 ≤ r → r < m → Pen H' p (n + 1) → SameX p H H' → Q (.int r) H'
def spPen (K : PySem.W.Frag) : Sp := fun vs H Q _ => ∃ (a : Addr) (ns : List Int), vs = [.ref a] ∧ SqL K H a (ns.map V.int) ∧ ∀ (p : Addr) (H' : Hp), Same H H' → Pen H' p 0 → Q (.ref p) H'
theorem cut_ints (ns : List Int) (lo hi : Option Int) : ∃ ms : List Int, cutV (ns.map V.int) lo hi = ms.map V.int := by
  unfold cutV
  rw [← List.map_drop, ← List.map_take]
  exact ⟨_, rfl⟩
def spLaw (K : PySem.W.Frag) : Sp := fun vs H Q _ => ∃ (a : Addr) (ns : List Int), vs = [.ref a] ∧ SqL K H a (ns.map V.int) ∧ ns.length ≤ 63 ∧ ∀ H', Q (.bl true) H'
end
end My
namespace L2
open PySem PySem.Spec PyProof.Rows
theorem Sees.none1 {X : Cx} {scope : Scope} {x : Str} : Sees X scope [x] (fun _ => [none]) := fun σ => ⟨rfl, fun i y v _ h2 => by
  match i with
  | 0 => simp at h2
  | n + 1 => simp at h2⟩
theorem pe_comp0 {X : Cx} {elt tg iter : Expr} {ifs : List Expr} {scope : Scope} {pos : Pos} {wi : TI} {g : TG} {tc : TT} {te : TE} {N : List Str} {σ0 : St → St}
    (hc : X.calm = true) (hxe : ∀ e s, X.xe e s → False) (hcell : ∀ y ∈ scope.names, y.2 ≠ .cell) (hkind : scope.kind = .function) (hnames : ∀ y ∈ scope.names, y.2 = .local → scope.names.lookup y.1 = some .local)
    (hnf : ∀ y ∈ scope.names, y.2 ≠ .free) (hσ : Sees X scope N σ0) (hi : PI X tg iter wi)
    (hg : ∀ cl C s H ex, PG (cxComp X scope N cl C s H ex) tg g) (ht : ∀ cl C s H ex, PTs (cxComp X scope N cl C s H ex) ifs tc) (he : ∀ cl C s H ex, PE (cxComp X scope N cl C s H ex) elt te)
    (hs : ∀ x, foldedSetIterable iter X.env x = pure x := by intro _; rfl) : PE X (.ListComp elt [⟨tg, iter, ifs, 0⟩] scope pos) (tComp σ0 wi g tc te) :=
  pe_comp hc hxe hcell hkind hnames (fun y hy hf => absurd hf (hnf y hy)) hσ hi hg ht he hs
end L2

set_option Elab.async false
set_option linter.all false
set_option maxRecDepth 100000
set_option maxHeartbeats 4000000
namespace L2
open PySem PySem.Spec PyProof.Rows
/-! ### repr: what a value is, as plain data -/
mutual
inductive DataV (H : Hp) : V → PyData → Prop
  | non : DataV H .non .none
  | bl (b : Bool) : DataV H (.bl b) (.bool b)
  | int (i : Int) : DataV H (.int i) (.int i)
  | str (x : Str) : DataV H (.str x) (.str x)
  | lst {a : Addr} {xs : List V} {ds : List PyData} : H a = some (.lst xs) → DataL H xs ds → DataV H (.ref a) (.list ds)
  | tup {a : Addr} {xs : List V} {ds : List PyData} : H a = some (.tup xs) → DataL H xs ds → DataV H (.ref a) (.tuple ds)
  | dict {a : Addr} {kvs : List (Key × V)} {ps : List (PyData × PyData)} : H a = some (.dK kvs) → DataL H (kvs.map fun p => kV p.1) (ps.map (·.1)) → DataL H (kvs.map (·.2)) (ps.map (·.2)) → DataV H (.ref a) (.dict ps)
inductive DataL (H : Hp) : List V → List PyData → Prop
  | nil : DataL H [] []
  | cons {x : V} {xs : List V} {d : PyData} {ds : List PyData} : DataV H x d → DataL H xs ds → DataL H (x :: xs) (d :: ds)
end
mutual
def lists : PyData → Bool
  | .list _ => true
  | .tuple xs => listsAll xs
  | .dict kvs => listsKv kvs
  | _ => false
def listsAll : List PyData → Bool
  | [] => false
  | x :: xs => lists x || listsAll xs
def listsKv : List (PyData × PyData) → Bool
  | [] => false
  | (k, v) :: r => lists k || lists v || listsKv r
end
theorem listsKv_eq : ∀ ps : List (PyData × PyData), listsKv ps = false → listsAll (ps.map (·.1)) = false ∧ listsAll (ps.map (·.2)) = false
  | [], _ => ⟨rfl, rfl⟩
  | (k, v) :: r, h => by
    simp only [listsKv, Bool.or_eq_false_iff] at h
    obtain ⟨h1, h2⟩ := listsKv_eq r h.2
    simp only [List.map_cons, listsAll, Bool.or_eq_false_iff]
    exact ⟨⟨h.1.1, h1⟩, ⟨h.1.2, h2⟩⟩
theorem pairs_split {P : Program} {w : World} : ∀ {es : List DictEntry} {vs : List (Key × Value)} {kvs : List (Key × V)}, Pairs (mixKind P w) es vs → KV kvs vs → Vals (kvs.map fun p => kV p.1) (es.map (·.key)) ∧ Vals (kvs.map (·.2)) (es.map (·.val)) := by
  intro es vs kvs h
  induction h generalizing kvs with
  | nil =>
    intro r
    cases r
    exact ⟨.nil, .nil⟩
  | @cons e kv es vs h1 h2 _ ih =>
    intro r
    cases r with
    | @cons p _ kvs' _ hp hr =>
      obtain ⟨a, b⟩ := ih hr
      refine ⟨.cons ?_ a, .cons ?_ b⟩
      · have h1' : keyIs kv.1 e.key = true := h1
        rw [← hp.1] at h1'
        rcases keyIs_shape h1' with ⟨i, t, e1, e2⟩ | ⟨x, t, e1, e2⟩
        · show RelV (kV p.1) e.key
          rw [e1, e2]; exact ⟨t, rfl⟩
        · show RelV (kV p.1) e.key
          rw [e1, e2]; exact ⟨t, rfl⟩
      · show RelV p.2 e.val
        rw [h2]; exact hp.2
mutual
theorem reads_of {P : Program} {w : World} {H : Hp} {h : Heap} (ok : HOk P w H h) : ∀ {v : V} {d : PyData} {u : Value}, DataV H v d → RelV v u → ∃ as, Reads h u d as ∧ (lists d = false → sysModules ∉ as)
  | _, _, _, .non, r => by cases r; exact ⟨[], .none, fun _ => by simp⟩
  | _, _, _, .bl b, r => by cases r; exact ⟨[], .bool b, fun _ => by simp⟩
  | _, _, _, .int i, r => by obtain ⟨t, rfl⟩ := r; exact ⟨[], .int i t, fun _ => by simp⟩
  | _, _, _, .str x, r => by obtain ⟨t, rfl⟩ := r; exact ⟨[], .str x t, fun _ => by simp⟩
  | _, _, _, .lst (a := a) (xs := xs) ha hd, r => by
    cases r
    obtain ⟨_, its, n, rv, e⟩ := ok a _ ha
    obtain ⟨as, hr, _⟩ := readsAll_of ok hd rv
    exact ⟨a :: as, .list e rfl rfl (by simpa using hr), fun z => by simp [lists] at z⟩
  | _, _, _, .tup (a := a) (xs := xs) ha hd, r => by
    cases r
    obtain ⟨_, its, rv, o, e, hc, n, hdt, _⟩ := ok a _ ha
    obtain ⟨as, hr, hs⟩ := readsAll_of ok hd rv
    exact ⟨as, .tuple e hc hdt (by simpa using hr), fun z => hs (by simpa [lists] using z)⟩
  | _, _, _, .dict (a := a) (kvs := kvs) (ps := ps) ha hk hv, r => by
    cases r
    obtain ⟨_, hm, vs, rv, o, es, ep, e, hx, hdt, _, hp, _⟩ := ok a _ ha
    obtain ⟨rk, rvv⟩ := pairs_split hp rv
    obtain ⟨as, hr, hs⟩ := readsAll_of ok hk rk
    obtain ⟨bs, hr', hs'⟩ := readsAll_of ok hv rvv
    refine ⟨a :: as ++ bs, .dict e hx.1 hdt hr hr', fun z => ?_⟩
    obtain ⟨z1, z2⟩ := listsKv_eq ps (by simpa [lists] using z)
    have hne : a ≠ sysModules := by simpa using hm
    simp only [List.cons_append, List.mem_cons, List.mem_append, not_or]
    exact ⟨fun q => hne q.symm, hs z1, hs' z2⟩
theorem readsAll_of {P : Program} {w : World} {H : Hp} {h : Heap} (ok : HOk P w H h) : ∀ {vs : List V} {ds : List PyData} {us : List Value}, DataL H vs ds → Vals vs us → ∃ as, ReadsAll h us ds as ∧ (listsAll ds = false → sysModules ∉ as)
  | _, _, _, .nil, r => by cases r; exact ⟨[], .nil, fun _ => by simp⟩
  | _, _, _, .cons hx hd, r => by
    cases r with
    | cons r1 r2 =>
      obtain ⟨as, h1, s1⟩ := reads_of ok hx r1
      obtain ⟨bs, h2, s2⟩ := readsAll_of ok hd r2
      refine ⟨as ++ bs, .cons h1 h2, fun z => ?_⟩
      simp only [listsAll, Bool.or_eq_false_iff] at z
      simp only [List.mem_append, not_or]
      exact ⟨s1 z.1, s2 z.2⟩
end
theorem bt_repr : bootBuiltins "repr" = some (.builtin "repr") := by decide +kernel
section
variable {X : Cx}
/-- repr(x), x plain data -/
def rRepr : List V → Hp → VK → Prop := fun xs H Q => ∃ v d, xs = [v] ∧ DataV H v d ∧ d.showable = true ∧ (d.hasDict = true → lists d = false) ∧ d.depth ≤ 20 ∧ d.shown.length ≤ sizeLine ∧ Q (.str d.shown) H
theorem call_repr {k : Nat} (hr : Room k X.A) : CallR X (.builtin "repr") rRepr := by
  intro pins s σ H xs us Q I r h
  obtain ⟨v, d, rfl, hd, hs, hl, hdp, hz, q⟩ := h
  obtain ⟨u, rfl, ru⟩ := vals1 r
  obtain ⟨as, rd, hsm⟩ := reads_of I.hok hd ru
  have fin : ∀ h' u tk, (∀ b o, s.heap.get? b = some o → h'.get? b = some o) → EP X pins σ Q (.str d.shown u) { s with heap := h', toks := tk } := fun h' u tk hk =>
    ⟨.str d.shown, H, I.kept (t' := tk) hk, ⟨u, rfl⟩, q⟩
  cases u with
  | ref a => exact repr_of_reads' rd hs (fun z => hsm (hl z)) hr.gd (by have := hr.un; omega) (fun _ _ e => e) fin hz
  | none => cases rd; rw [PyData.shown_none] at fin; exact PySem.P.repr_of_none (fin _ _ _ fun _ _ e => e)
  | bool b => cases rd; rw [PyData.shown_bool] at fin; exact PySem.P.repr_of_bool (fin _ _ _ fun _ _ e => e)
  | int i t => cases rd; rw [PyData.shown_int] at fin; exact PySem.P.repr_of_int (by simpa [PyData.showable] using hs) (fin _ _ _ fun _ _ e => e)
  | str x t => cases rd; rw [PyData.shown_str] at fin hz; exact PySem.P.repr_of_str (fin _ _ _ fun _ _ e => e) hz
  | _ => cases rd
end
end L2

set_option Elab.async false
set_option linter.all false
set_option maxRecDepth 100000
set_option maxHeartbeats 4000000
namespace L2
open PySem PySem.Spec PyProof.Rows MA
mutual
theorem DataV.same {H H' : Hp} (s : Same H H') : ∀ {v : V} {d : PyData}, DataV H v d → DataV H' v d
  | _, _, .non => .non
  | _, _, .bl b => .bl b
  | _, _, .int i => .int i
  | _, _, .str x => .str x
  | _, _, .lst h r => .lst (s _ _ h) (DataL.same s r)
  | _, _, .tup h r => .tup (s _ _ h) (DataL.same s r)
  | _, _, .dict h r q => .dict (s _ _ h) (DataL.same s r) (DataL.same s q)
theorem DataL.same {H H' : Hp} (s : Same H H') : ∀ {vs : List V} {ds : List PyData}, DataL H vs ds → DataL H' vs ds
  | _, _, .nil => .nil
  | _, _, .cons h r => .cons (DataV.same s h) (DataL.same s r)
end
theorem DataL.length {H : Hp} : ∀ {vs : List V} {ds : List PyData}, DataL H vs ds → vs.length = ds.length
  | _, _, .nil => rfl
  | _, _, .cons _ r => by simp [DataL.length r]
theorem DataL.append {H : Hp} : ∀ {vs ws : List V} {ds es : List PyData}, DataL H vs ds → DataL H ws es → DataL H (vs ++ ws) (ds ++ es)
  | _, _, _, _, .nil, r => r
  | _, _, _, _, .cons h t, r => .cons h (DataL.append t r)
structure Sm (n : Nat) (d : PyData) : Prop where
  sh : d.showable = true
  ld : (d.hasDict && lists d) = false
  dp : d.depth ≤ n
  lv : d.leavesShort 40 = true
  bk : d.bulk ≤ n
/-- an int of at most eighteen figures -/
abbrev I18 (i : Int) : Prop := i.natAbs < 1000000000000000000
theorem showable_int {i : Int} (h : I18 i) : PyData.showable (.int i) = true := by
  have h' : i.natAbs < 1000000000000000000 := h
  simp only [PyData.showable, decide_eq_true_eq]
  by_cases z : i.natAbs = 0
  · rw [z]; decide
  · exact (Nat.log2_lt z).mpr (Nat.lt_of_lt_of_le h' (Nat.le_trans (show (1000000000000000000 : Nat) ≤ 2 ^ 60 by decide) (Nat.pow_le_pow_right (by decide) (by decide))))
theorem log_int {i : Int} (h : I18 i) : i.natAbs.log2 < 1920 := by simpa only [PyData.showable, decide_eq_true_eq] using showable_int h
theorem short_int {i : Int} (h : I18 i) : PyData.leavesShort 40 (.int i) = true := by
  have e := int_text_length_le10 (a := i) (k := 18) (by decide) (by have h' : i.natAbs < 1000000000000000000 := h; exact Nat.lt_of_lt_of_le h' (by decide))
  simp only [PyData.leavesShort, decide_eq_true_eq]
  show (Str.ofString (toString i)).length ≤ 40
  rw [PySem.ofString_length]; omega
theorem sm_int {i : Int} (h : I18 i) (n : Nat) : Sm n (.int i) := ⟨showable_int h, rfl, Nat.zero_le _, short_int h, Nat.zero_le _⟩
theorem str_chars (x : String) : (Str.ofString x).cps.toList.all (fun c => decide (c < 16 ^ 8)) = true := by
  rw [Str.ofString_eq_toList]
  simp only [List.all_eq_true, decide_eq_true_eq, List.mem_map]
  rintro c ⟨ch, _, rfl⟩
  have := ch.valid
  have h2 : ch.toNat < 0x110000 := by
    rcases this with h | ⟨_, h⟩
    · exact Nat.lt_trans h (by decide)
    · exact h
  have e : (16 : Nat) ^ 8 = 4294967296 := by decide
  omega
theorem sm_str {x : String} {n : Nat} (h : x.length ≤ n) : Sm n (.str (Str.ofString x)) := ⟨rfl, rfl, Nat.zero_le _, by simp only [PyData.leavesShort]; exact str_chars x, by
  simp only [PyData.bulk]
  show (Str.ofString x).length ≤ n
  rw [PySem.ofString_length]; exact h⟩
theorem sm_text {i : Int} (h : I18 i) : Sm 20 (.str (toString i : String)) := sm_str (by
  have e := int_text_length_le10 (a := i) (k := 18) (by decide) (by have h' : i.natAbs < 1000000000000000000 := h; exact Nat.lt_of_lt_of_le h' (by decide))
  omega)
/-- what the look of a share tells -/
def isI : PyData → Bool
  | .int _ => true
  | _ => false
end L2
namespace L2
open PySem
theorem bt_str : bootBuiltins "str" = some (.type "str") := by decide +kernel
theorem bt_dict : bootBuiltins "dict" = some (.type "dict") := by decide +kernel
theorem bt_sum : bootBuiltins "sum" = some (.builtin "sum") := by decide +kernel
theorem bt_sorted : bootBuiltins "sorted" = some (.builtin "sorted") := by decide +kernel
theorem bt_max : bootBuiltins "max" = some (.builtin "max") := by decide +kernel
end L2
namespace My
open PySem L2 MA
structure Txt2 (mg : Str → Option Value) : Prop extends Txt mg where
  z_str : mg "str" = none
  z_repr : mg "repr" = none
  z_dict : mg "dict" = none
  z_sum : mg "sum" = none
  z_sorted : mg "sorted" = none
  z_max : mg "max" = none
  z_min : mg "min" = none
  z_any : mg "any" = none
  z_enumerate : mg "enumerate" = none
  z_zip : mg "zip" = none
  z_set : mg "set" = none
  z_reversed : mg "reversed" = none
  z_ValueError : mg "ValueError" = none
def spWholeV : Sp := fun vs H Q _ => ∃ v d, vs = [v] ∧ DataV H v d ∧ Q (.bl (isI d)) H
/-- a bool told, the one that is due -/
def spTells : Sp := fun vs H Q _ => ∃ b, vs = [.bl b, .bl b] ∧ Q (.bl true) H
def tyI : PyData → Bool
  | .int _ | .bool _ => true
  | _ => false
def tyB : PyData → Bool
  | .bool _ => true
  | _ => false
def tyT : PyData → Bool
  | .tuple _ => true
  | _ => false
def tyL : PyData → Bool
  | .list _ => true
  | _ => false
theorem tyOf {K : PySem.W.Frag} {H : Hp} {v : V} {d : PyData} (h : DataV H v d) : ∃ t, TyOf K H v (.type t) ∧
    PySem.W.kitOne K (.type t) (.type "int") = some (tyI d) ∧ PySem.W.kitOne K (.type t) (.type "bool") = some (tyB d) ∧
    PySem.W.kitOne K (.type t) (.type "tuple") = some (tyT d) ∧ PySem.W.kitOne K (.type t) (.type "list") = some (tyL d) := by
  cases h with
  | non => exact ⟨_, .non, rfl, rfl, rfl, rfl⟩
  | bl b => exact ⟨_, .bl b, rfl, rfl, rfl, rfl⟩
  | int i => exact ⟨_, .int i, rfl, rfl, rfl, rfl⟩
  | str x => exact ⟨_, .str x, rfl, rfl, rfl, rfl⟩
  | lst h _ => exact ⟨_, .lst h, rfl, rfl, rfl, rfl⟩
  | tup h _ => exact ⟨_, .tup h, rfl, rfl, rfl, rfl⟩
  | dict h _ _ => exact ⟨_, .dK h, rfl, rfl, rfl, rfl⟩
end My

set_option Elab.async false
set_option linter.all false
set_option maxRecDepth 100000
set_option maxHeartbeats 4000000
namespace L2
open PySem PySem.Spec PyProof.Rows
def notStar : Expr → Bool
  | .Starred _ _ => false
  | _ => true
theorem star_cons {e : Expr} {es : List Expr} {env : Env} (h : notStar e = true) : starEach (e :: es) env = (false, eval e env) :: starEach es env := by
  cases e <;> first | rfl | exact absurd h (by simp [notStar])
section
variable {X : Cx} {e : Expr} {es : List Expr} {te : TE} {t : TA} {pos : Pos}
/-- an item of a row, whose rest may be long -/
theorem pa_consN (ha : PE X e te) (hr : PA X es t) (hn : notStar e = true := by rfl) : PA X (e :: es) (tCons te t) := pa_cons ha hr (star_cons hn)
end
end L2
namespace L2
end L2
namespace L2
end L2

set_option Elab.async false
set_option linter.all false
set_option maxRecDepth 100000
set_option maxHeartbeats 4000000
namespace L2
open PySem PySem.Spec PyProof.Rows
theorem comp_core {X : Cx} {elt tg iter : Expr} {ifs : List Expr} {scope : Scope} {pos pos2 : Pos} {wi : TI} {g : TG} {tc : TT} {te : TE} {N : List Str} {σ0 : St → St} {pins : List (Addr × Obj)} {s : Shared} {σ : St} {H : Hp} {Q : VK} {use : Option (Value → Sem Unit)} {QQ : Value → Shared → Prop}
    (hc : X.calm = true) (hxe : ∀ e s, X.xe e s → False) (hcell : ∀ y ∈ scope.names, y.2 ≠ .cell) (hkind : scope.kind = .function) (hnames : ∀ y ∈ scope.names, y.2 = .local → scope.names.lookup y.1 = some .local)
    (hfr : ∀ y ∈ scope.names, y.2 = .free → X.env.kindOf y.1 = some .cell ∨ X.env.kindOf y.1 = some .free) (hσ : Sees X scope N σ0)
    (hi : PI X tg iter wi)
    (hg : ∀ cl C s H ex, PG (cxComp X scope N cl C s H ex) tg g) (ht : ∀ cl C s H ex, PTs (cxComp X scope N cl C s H ex) ifs tc) (he : ∀ cl C s H ex, PE (cxComp X scope N cl C s H ex) elt te)
    (hs : ∀ x, foldedSetIterable iter X.env x = pure x) (I : Inv X pins σ H s) (h : tComp σ0 wi g tc te σ H Q)
    (hend : ∀ (p C : Addr) (H' : Hp) (s' : Shared) (m : Str → Option Value) (f : Flow), Inv X pins σ H' s' → FpOk X pins H' C → s'.heap.Ns C m → (∀ h', Heap.SameBut C s'.heap h' → Inv X pins σ H' { s' with heap := h' }) → Q (.ref p) H' →
      compPost (model X.prog X.w) X.A X.xe use QQ (.ref p) C (.ok f) s') :
    wpAny (model X.prog X.w) X.A (comprehension (.ListComp elt [⟨tg, iter, ifs, 0⟩] scope pos) scope X.env pos2 (newList []) false (eval iter X.env) use) QQ X.xe s := by
  obtain ⟨cl, hclos, hcl1, hcl2⟩ := closure_of (env := X.env) (scope := scope) fun y hy hf => I.ok.has y.1 (hfr y hy hf)
  refine wpAny_comprehension_free (use := use) rfl hs hclos hkind hnames (thn (hi pins s σ H _ I h) fun v s1 h1 => thn h1 fun itv s2 h2 => ?_)
  obtain ⟨it, fp, tn, J, H2, e, I2, T, st2, f2, h3⟩ := h2
  subst e
  have hpn : H2 s2.heap.objs.size = none := I2.hok.fresh (Nat.le_refl _)
  obtain ⟨W, ⟨m0, w0⟩, turn⟩ := h3 _ hpn
  refine wpAny_newObj_type ?_
  generalize hp : s2.heap.objs.size = p at *
  have I3 : Inv X pins σ (upd H2 p (.lst [])) { s2 with heap := s2.heap.push { cls := .type "list", dict := none, data := .seq ([] : List Value).toArray } } := by
    refine I2.laid (a := p) (o := .lst []) (t' := s2.toks) (fun b u q => Heap.get?_push_of_some _ q) (Nat.le_of_eq hp) ⟨Nat.zero_le _, [], 0, .nil, ?_⟩
    rw [← hp]
    exact Heap.get?_push_size _ rfl
  have hf3 : ∀ b ∈ fp, FpOk X pins (upd H2 p (.lst [])) b := fun b hb => by
    obtain ⟨o, ho, _⟩ := T.obj _ _ st2 b hb
    have : b ≠ p := by rw [← hp]; exact Nat.ne_of_lt (Heap.lt_size ho)
    exact ⟨by rw [upd_ne this]; exact (f2 b hb).1, (f2 b hb).2⟩
  generalize hs3 : ({ s2 with heap := s2.heap.push { cls := .type "list", dict := none, data := .seq ([] : List Value).toArray } } : Shared) = s3 at *
  have st3 : tn 0 s3.heap := by rw [← hs3]; exact T.keep _ _ _ st2 fun b _ o e => Heap.get?_push_of_some _ e
  generalize hH3 : upd H2 p (.lst []) = H3 at *
  refine wpAny_newFunctionEnv hcell (by intro y hy; simp at hy) (fun h1 hns1 hsb1 => ?_) hkind
  generalize hC : s3.heap.objs.size = C at *
  have keep : ∀ b u, s3.heap.get? b = some u → h1.get? b = some u := fun b u q =>
    hsb1.extBut b u (by rw [← hC]; exact Nat.ne_of_lt (Heap.lt_size q)) (Heap.get?_push_of_some _ q)
  have fpC : ∀ b ∈ fp, b ≠ C := fun b hb => by
    obtain ⟨o, ho, _⟩ := T.obj _ _ st3 b hb
    rw [← hC]; exact Nat.ne_of_lt (Heap.lt_size ho)
  have hCn : H3 C = none := I3.hok.fresh (Nat.le_of_eq hC)
  -- the block's own invariant, at its entry
  have ok' : (cxComp X scope N cl C s3 H3 fp).Ok := by
    refine ⟨I3.mod, hkind, I3.ok.glob, I3.ok.blt, Nat.le_of_eq hC, fun x y c a b => I3.ok.inj x y c (hcl1 x c a) (hcl1 y c b), fun x hx => ?_, fun _ _ z => Bool.noConfusion (show false = true from z), I3.ok.hd, I3.ok.frames, .inl rfl, fun b hb => ⟨fpC b hb, fun x c q => (hf3 b hb).2.2.2.2.1 x c (hcl1 x c q)⟩,
      I3.bs, Nat.le_trans I3.ok.bsz I3.sz, fun b o e hb => ?_, fun b hb z => ?_, I3.stack, I3.stkFree⟩
    · have hx' : (relabel scope X.env).names.lookup x = some .cell ∨ (relabel scope X.env).names.lookup x = some .free := hx
      rcases hx' with z | z
      · rcases lookup_relabel_mem z with y | ⟨_, y⟩
        · exact absurd rfl (hcell _ y)
        · exact hcl2 x y
      · rcases lookup_relabel_mem z with y | ⟨y, _⟩
        · exact hcl2 x y
        · cases y
    · rcases (hf3 b hb).2.2.2.1 with z | z
      · exact I3.ok.noex b o e z
      · exact absurd (Nat.lt_of_lt_of_le (Heap.lt_size e) (Nat.le_trans I3.ok.bsz z)) (Nat.lt_irrefl _)
    · rcases List.mem_cons.mp (I3.stkSub b z) with q | q
      · exact (hf3 b hb).2.1 q
      · exact (hf3 b hb).2.2.1 q
  have J0 : Inv (cxComp X scope N cl C s3 H3 fp) [] (σ0 σ) H3 { s3 with heap := h1, toks := s3.toks + ([] : List (Str × Value)).length } := by
    refine ⟨ok', rfl, I3.bare, Un.kept keep, ⟨_, hns1, fun i x v a b c => ?_⟩, fun x c q => ?_, hCn, fun x c q => I3.freeC x c (hcl1 x c q), fun q hq => absurd (show q ∈ ([] : List (Addr × Obj)) from hq) (by simp), I3.hok.kept keep, (hσ σ).1⟩
    · obtain ⟨hf, j, hj, hv⟩ := (hσ σ).2 i x v a b
      have hm := mem_of_lookupF hf
      obtain ⟨m, hn, hl⟩ := id I3.loc
      have hk := hfr _ hm rfl
      have hvis : Vis X.env.scope x := hk.elim (fun z => .inr (.inl z)) fun z => .inr (.inr z)
      obtain ⟨u, r, lk⟩ := hl j x v hj hv hvis
      refine ⟨u, r, .inr ⟨lookup_relabel_free hf, ?_⟩⟩
      obtain ⟨c', hc'⟩ := hcl2 x hm
      refine ⟨c', hc', ?_⟩
      have hx := hcl1 x c' hc'
      rcases lk with ⟨kl, _⟩ | ⟨_, c2, e2, o2, ho2, hd2⟩
      · rcases hk with z | z <;> rw [kl] at z <;> cases z
      · rw [hx] at e2
        cases e2
        exact ⟨o2, keep _ _ ho2, hd2⟩
    · obtain ⟨v, o, ho, hd⟩ := I3.cell x c (hcl1 x c q)
      exact ⟨v, o, keep _ _ ho, hd⟩
  have st4 : tn 0 h1 := T.keep _ _ _ st3 fun b _ o e => keep b o e
  have stat : ∀ {H' : Hp}, (∀ b ∈ fp, H' b = none) → ∀ b ∈ fp, FpOk (cxComp X scope N cl C s3 H3 fp) [] H' b := fun hn b hb =>
    ⟨hn b hb, fpC b hb, fun z => ok'.exfs b hb z, .inl hb, fun x c q => (hf3 b hb).2.2.2.2.1 x c (hcl1 x c q), fun q hq => absurd (show q ∈ ([] : List (Addr × Obj)) from hq) (by simp)⟩
  -- back to the def
  have back : ∀ {σ' : St} {H' : Hp} {s' : Shared} {pl : List (Addr × Obj)}, Inv (cxComp X scope N cl C s3 H3 fp) pl σ' H' s' → ∀ h', Heap.SameBut C s'.heap h' → Inv X pins σ H' { s' with heap := h' } := fun {σ' H' s' pl} J h' hsb => by
    have I5 : Inv X pins σ H' s' := Inv.call' (ch := fp) I3 J.os J.base J.hok J.bare fun b hb => ⟨(hf3 b hb).2.2.2.1, (hf3 b hb).2.1, (hf3 b hb).2.2.2.2.1, (hf3 b hb).2.2.2.2.2⟩
    refine Inv.turned (it := C) (t' := s'.toks) I5 (fun b o hb e => hsb.extBut b o hb e) J.free (fun z => ?_) (.inr ?_) (fun x c q z => ?_) fun q hq z => ?_
    · exact absurd (show X.env.locals < C by rw [← hC]; exact I3.lt) (by rw [z]; exact Nat.lt_irrefl _)
    · rw [← hC]; exact I3.sz
    · obtain ⟨v, o, ho, _⟩ := I3.cell x c q
      have := Heap.lt_size ho
      rw [z, hC] at this
      exact Nat.lt_irrefl _ this
    · have := Heap.lt_size (I3.pin q hq).1
      rw [z, hC] at this
      exact Nat.lt_irrefl _ this
  have loop : codeAny (model X.prog X.w) X.A (.compLoop (.ListComp elt [⟨tg, iter, ifs, 0⟩] scope pos) 0 (.ref it) (.ref p) (compEnvC scope cl C X.env)) (compPost (model X.prog X.w) X.A X.xe use QQ (.ref p) C) { s3 with heap := h1, toks := s3.toks + ([] : List (Str × Value)).length } := by
    refine codeAny_loop rfl (fun n s' => ∃ i ys σ' H', Inv (cxComp X scope N cl C s3 H3 fp) [] σ' H' s' ∧ tn i s'.heap ∧ (∀ b ∈ fp, H' b = none) ∧ W i n ys σ' H') (fun n s' hI => ?_) m0 ⟨0, [], σ0 σ, H3, J0, st4, fun b hb => (hf3 b hb).1, w0⟩
    obtain ⟨i, ys, σ', H', J', st', fr', w'⟩ := hI
    show wpAny _ X.A ((compTurn (.ListComp elt [⟨tg, iter, ifs, 0⟩] scope pos) 0 (.ref it) (.ref p) (compEnvC scope cl C X.env)).onRaise (fun x => do noteFrame x (compEnvC scope cl C X.env); theTreesLotGoes x)) _ _ s'
    refine wpAny_noted ?_
    rw [compTurn_list]
    rcases turn i n ys σ' H' w' with ⟨stop, q⟩ | ⟨go, step⟩
    · refine wpAny_bind (wpAny_standAt (wpAny_bind (wpAny_mono (T.done (cxComp X scope N cl C s3 H3 fp) rfl rfl rfl hc i [] s' σ' H' X.xe J' (stat fr') st' stop) (fun r s4 h4 => ?_) fun _ _ x => (hxe _ _ x).elim)))
      obtain ⟨hr, I4⟩ := h4
      subst hr
      refine wpAny_pure ?_
      obtain ⟨m, hn, _⟩ := id I4.loc
      have I5 : Inv X pins σ H' s4 := Inv.call' (ch := fp) I3 I4.os I4.base I4.hok I4.bare fun b hb => ⟨(hf3 b hb).2.2.2.1, (hf3 b hb).2.1, (hf3 b hb).2.2.2.2.1, (hf3 b hb).2.2.2.2.2⟩
      exact hend p C H' s4 m _ I5 (I3.fpOk (Nat.le_of_eq hC) I4.free) hn (fun h' hsb => back I4 h' hsb) q
    · refine wpAny_bind (wpAny_standAt (wpAny_bind (wpAny_mono (T.item (cxComp X scope N cl C s3 H3 fp) rfl rfl rfl hc i [] s' σ' H' X.xe J' (stat fr') st' go) (fun r s4 h4 => ?_) fun _ _ x => (hxe _ _ x).elim)))
      obtain ⟨u, hr, h4⟩ := h4
      subst hr
      refine wpAny_bind (wpAny_mono h4 (fun _ s5 h5 => ?_) fun _ _ x => (hxe _ _ x).elim)
      obtain ⟨x, H5, I5, r5, y5, st5, fr5⟩ := h5
      have I5' := I5.pinned (stat fr5) (T.obj _ _ st5)
      refine wpAny_bind (wpAny_mono (hg cl C s3 H3 fp _ s5 σ' H5 x u _ I5' r5 (step x H5 y5)) (fun _ s6 h6 => ?_) fun _ _ x => (hxe _ _ x).elim)
      obtain ⟨σ6, H6, I6, q6⟩ := h6
      have again : ∀ {σ7 : St} {H7 : Hp} {s7 : Shared} {ys7 : List V}, Inv (cxComp X scope N cl C s3 H3 fp) ([] ++ pinsAt fp s5.heap) σ7 H7 s7 → (∃ m', m' < n ∧ W (i + 1) m' ys7 σ7 H7) →
          ∃ m, m < n ∧ ∃ i ys σ' H', Inv (cxComp X scope N cl C s3 H3 fp) [] σ' H' s7 ∧ tn i s7.heap ∧ (∀ b ∈ fp, H' b = none) ∧ W i m ys σ' H' := fun {σ7 H7 s7 ys7} I7 n7 => by
        obtain ⟨m', hm, w7⟩ := n7
        refine ⟨m', hm, i + 1, ys7, σ7, H7, I7.unpinned, T.keep _ _ _ st5 fun b hb o e => (I7.pin (b, o) (List.mem_append_right _ (List.mem_append_right _ (mem_pinsAt hb e)))).1, fun b hb => ?_, w7⟩
        obtain ⟨o, e, d⟩ := T.obj _ _ st5 b hb
        exact (I7.pin (b, o) (List.mem_append_right _ (List.mem_append_right _ (mem_pinsAt hb e)))).2.1
      refine wpAny_bind (wpAny_mono (ht cl C s3 H3 fp _ s6 σ6 H6 _ I6 q6) (fun ok s7 h7 => ?_) fun _ _ x => (hxe _ _ x).elim)
      obtain ⟨H7, I7, q7⟩ := h7
      cases ok with
      | false =>
        rw [if_neg Bool.false_ne_true] at q7
        exact wpAny_pure ⟨rfl, again I7 q7⟩
      | true =>
        rw [if_pos rfl] at q7
        refine wpAny_bind (wpAny_bind (wpAny_mono (he cl C s3 H3 fp _ s7 σ6 H7 _ I7 q7) (fun y s8 h8 => ?_) fun _ _ x => (hxe _ _ x).elim))
        obtain ⟨v, H8, I8, r8, hz, hH8, w8⟩ := h8
        refine wpAny_bind (wpAny_mono (mt_append (X := cxComp X scope N cl C s3 H3 fp) _ s8 σ6 H8 (.ref p) [v] (.ref p) [y] (fun x H9 => x = .non ∧ H9 = upd H8 p (.lst (ys ++ [v]))) I8 rfl (.cons r8 .nil) ⟨p, ys, v, rfl, rfl, hH8, hz, rfl, rfl⟩) (fun _ s9 h9 => ?_) fun _ _ x => (hxe _ _ x).elim)
        obtain ⟨z, H9, I9, _, _, e9⟩ := h9
        subst e9
        exact wpAny_pure (wpAny_pure ⟨rfl, again I9 w8⟩)
  exact codeAny_compStart_list loop (T.self X.A 0 _ _ _ st4 loop)
theorem ps_comp {X : Cx} {elt tg iter : Expr} {ifs : List Expr} {scope : Scope} {pos spos py : Pos} {wi : TI} {g : TG} {tc : TT} {te : TE} {N : List Str} {σ0 : St → St} {i : Nat} {y : Str}
    (hN : X.N.Nodup) (hiy : X.N[i]? = some y) (hy : Loc X.env.scope y)
    (hc : X.calm = true) (hxe : ∀ e s, X.xe e s → False) (hcell : ∀ y ∈ scope.names, y.2 ≠ .cell) (hkind : scope.kind = .function) (hnames : ∀ y ∈ scope.names, y.2 = .local → scope.names.lookup y.1 = some .local)
    (hfr : ∀ y ∈ scope.names, y.2 = .free → X.env.kindOf y.1 = some .cell ∨ X.env.kindOf y.1 = some .free) (hσ : Sees X scope N σ0)
    (hi : PI X tg iter wi)
    (hg : ∀ cl C s H ex, PG (cxComp X scope N cl C s H ex) tg g) (ht : ∀ cl C s H ex, PTs (cxComp X scope N cl C s H ex) ifs tc) (he : ∀ cl C s H ex, PE (cxComp X scope N cl C s H ex) elt te)
    (hs : ∀ x, foldedSetIterable iter X.env x = pure x := by intro _; rfl) (hsw : swapsWith (.ListComp elt [⟨tg, iter, ifs, 0⟩] scope pos) (some (.Name y py)) spos.line X.env = pure true := by rfl)
    (hf : X.fn y = true ∨ X.env.scope.names.lookup y = some .local := by first | exact .inl rfl | exact .inr rfl | assumption) :
    PS X (.Assign [.Name y py] (.ListComp elt [⟨tg, iter, ifs, 0⟩] scope pos) spos) (tAsg (tComp σ0 wi g tc te) (gName i)) := by
  intro pins s σ H D I h
  rw [exec_Assign_Name_used _ _ _ _ hsw]
  refine wpAny_bind (wpAny_standAt (wpAny_bind ?_))
  show wpAny _ X.A (do let _ ← comprehension (.ListComp elt [⟨tg, iter, ifs, 0⟩] scope pos) scope X.env _ (newList []) false (eval iter X.env) (some (assign (.Name y py) X.env))) _ _ s
  refine wpAny_bind (wpAny_mono (comp_core (use := some (assign (.Name y py) X.env)) (QQ := fun _ s' => SP X pins D .next s') hc hxe hcell hkind hnames hfr hσ hi hg ht he hs I h ?_) (fun _ s' hq => wpAny_pure (wpAny_pure hq)) fun _ _ e => e)
  intro p C H' s' m f I5 fC hn back q
  show wpAny _ X.A (assign (.Name y py) X.env (.ref p)) _ _ _
  have hnC := id hn
  obtain ⟨o, es, ep, ho, hd, _⟩ := hnC
  have Ip := I5.pinned (fp := [C]) (fun b hb => by rw [List.mem_singleton.mp hb]; exact fC) (fun b hb => ⟨o, by rw [List.mem_singleton.mp hb]; exact ho, fun v z => by rw [hd] at z; cases z⟩)
  refine wpAny_mono (pg_name (pos := py) hN hiy hy hf (pins ++ pinsAt [C] s'.heap) s' σ H' (.ref p) (.ref p) _ Ip rfl q) (fun _ s2 h2 => ?_) fun _ _ e => e
  obtain ⟨σ2, H2, I2, q2⟩ := h2
  have hp2 := I2.pin (C, o) (List.mem_append_right _ (List.mem_append_right _ (mem_pinsAt (by simp) ho)))
  refine ⟨m, hn.at' (fun o' e => ?_), fun h' hsb => ⟨σ2, H2, ?_, q2⟩⟩
  · rw [ho] at e; cases e; exact hp2.1
  · exact Inv.turned (it := C) (t' := s2.toks) I2.unpinned (fun b o hb e => hsb.extBut b o hb e) hp2.2.1 hp2.2.2.1 fC.2.2.2.1 fC.2.2.2.2.1 fC.2.2.2.2.2
end L2
namespace L2
open PySem PySem.Spec PyProof.Rows
section
variable {X : Cx} {e : Expr} {te : TE} {p2 p3 p4 pos : Pos} {k1 : Nat}
/-- xs[::-1] of a list: a new list -/
def tRevL (K : PySem.W.Frag) (te : TE) : TE := fun σ H Q => te σ H fun x H1 => ∃ a xs, x = .ref a ∧ SqL K H1 a xs ∧ ∀ p, H1 p = none → Q (.ref p) (upd H1 p (.lst xs.reverse))
theorem pe_revL {kk : _} (he : PE X e te) : PE X (.Subscript e (.Slice none none (some (.UnaryOp .USub (.Constant (.int 1) kk p3) p4)) p2) pos) (tRevL X.K te) := by
  intro pins s σ H Q I h
  refine Subscript_ (thn (he pins s σ H _ I h) fun v s1 ⟨x, H1, I1, r1, q1⟩ => ?_)
  obtain ⟨a, xs, rfl, hx, q⟩ := q1
  have hst : PO X (some (.UnaryOp .USub (.Constant (.int 1) kk p3) p4)) (tPart (tUn (rU fun i => .int (-i)) (tC (.int 1)))) := po_some (pe_un un_neg pe_int)
  refine wpAny_Slice ?_
  rw [evalPart_none]
  refine wpAny_pure (wpAny_pure ?_)
  refine thn (hst pins s1 σ H1 (fun st H2 => st = some (-1) ∧ H2 = H1) I1 ?_) fun vk s2 h2 => ?_
  · exact ⟨_, rfl, _, rfl, rfl, rfl⟩
  obtain ⟨st, H2, I2, pk, rfl, rfl⟩ := h2
  have I4 : Inv X pins σ H2 { s2 with heap := s2.heap.push { cls := .type "slice", data := .fields #[.none, .none, vk] } } := I2.kept (t' := s2.toks) fun b ob q => Heap.get?_push_of_some _ q
  cases r1
  obtain ⟨its, r, ht, hz⟩ := I4.list hx
  have hlen := r.length
  refine tail_any (T := "list") (ops := [.ref a, .ref s2.heap.objs.size]) ht.isList.typeIs slot_list_getitem.lookup ?_ (by with_unfolding_all rfl)
  refine wpAny_getItem_list_slice ht.isList (Heap.IsSliceOf.new ..) .none .none pk (by decide) ?_ (by rw [List.size_toArray] <;> omega)
  rw [PySem.W.krv_pick]
  refine ⟨.ref _, _, I4.laid (t' := s2.toks) (o := .lst xs.reverse) (fun b ob q => Heap.get?_push_of_some _ q) (Nat.le_refl _) ?_, rfl, q _ (I4.hok.fresh (Nat.le_refl _))⟩
  exact ⟨by rw [List.length_reverse]; exact hz, _, 0, r.reverse, Heap.get?_push_size _ rfl⟩
end
end L2

set_option Elab.async false
set_option linter.all false
set_option maxRecDepth 100000
set_option maxHeartbeats 4000000
namespace L2
open PySem PySem.Spec PyProof.Rows MA
/-- a comprehension's names: its own, then the def's that it reads -/
theorem Sees.frees {X : Cx} {scope : Scope} (ks : List Str) (fs : List (Str × Nat)) (h : ∀ p ∈ fs, scope.names.lookup p.1 = some .free ∧ X.N[p.2]? = some p.1) :
    Sees X scope (ks ++ fs.map (·.1)) (fun σ => ks.map (fun _ => none) ++ fs.map fun p => σ.getD p.2 none) := by
  intro σ
  refine ⟨by simp, fun i x v h1 h2 => ?_⟩
  by_cases hi : i < ks.length
  · rw [List.getElem?_append_left (by simpa using hi), List.getElem?_map] at h2
    cases e : ks[i]? with
    | none => rw [e] at h2; cases h2
    | some y => rw [e] at h2; cases h2
  · rw [List.getElem?_append_right (by omega), List.getElem?_map] at h1
    rw [List.getElem?_append_right (by simp; omega), List.getElem?_map, List.length_map] at h2
    cases e : fs[i - ks.length]? with
    | none => rw [e] at h1; cases h1
    | some p =>
      rw [e] at h1 h2
      cases h1
      obtain ⟨a, b⟩ := h p (List.mem_of_getElem? e)
      refine ⟨a, p.2, b, ?_⟩
      have h3 : σ.getD p.2 none = some v := by simpa using h2
      rw [List.getD_eq_getElem?_getD] at h3
      cases z : σ[p.2]? with
      | none => rw [z] at h3; cases h3
      | some u => rw [z] at h3; exact congrArg some h3
/-- [.. for k in range(n)], no test -/
theorem comp_rng {n : Nat} {lo : Int} {te : TE} {H : Hp} {R : Addr → Hp → Prop} {fs : St} (Pv : Addr → Nat → List V → Hp → Prop) (hn : n ≤ 100000) (hp0 : ∀ p, H p = none → Pv p 0 [] (upd H p (.lst [])))
    (hte : ∀ p i ys H', H p = none → i < n → ys.length = i → Pv p i ys H' → H' p = some (.lst ys) → ∀ Q' : VK, (∀ v H'', H'' p = some (.lst ys) → Pv p (i + 1) (ys ++ [v]) (upd H'' p (.lst (ys ++ [v]))) → Q' v H'') → te (some (.int (lo + i)) :: fs) H' Q')
    (q : ∀ p ys H', H p = none → Pv p n ys H' → H' p = some (.lst ys) → ys.length = n → R p H') :
    ∀ p, H p = none → ∃ W : Nat → Nat → List V → St → Hp → Prop, (∃ m, W 0 m [] (none :: fs) (upd H p (.lst []))) ∧ ∀ i m ys σ' H', W i m ys σ' H' →
      ((Itr lo n).stop i H' ∧ R p H') ∨ ((Itr lo n).go i H' ∧ ∀ x H2, (Itr lo n).yld i H' x H2 → gName 0 x σ' H2 fun σ2 H3 => tTT σ2 H3 fun b H4 => if b = true then te σ2 H4 fun v H5 => ys.length < sizeLine ∧ H5 p = some (.lst ys) ∧ (∃ m', m' < m ∧ W (i + 1) m' (ys ++ [v]) σ2 (upd H5 p (.lst (ys ++ [v]))))
        else ∃ m', m' < m ∧ W (i + 1) m' ys σ2 H4) := by
  intro p hp
  refine ⟨fun i m ys σ' H' => m = n - i ∧ i ≤ n ∧ ys.length = i ∧ Pv p i ys H' ∧ H' p = some (.lst ys) ∧ ∃ o, σ' = o :: fs, ⟨n, by simp, Nat.zero_le _, rfl, hp0 p hp, upd_same, _, rfl⟩, ?_⟩
  rintro i m ys σ' H' ⟨rfl, hi, hl, pv, hp', o, rfl⟩
  by_cases hlt : i < n
  · refine .inr ⟨hlt, fun x H2 hy => ?_⟩
    obtain ⟨rfl, rfl⟩ := hy
    change te (some (.int (lo + i)) :: fs) H2 _
    refine hte p i ys H2 hp hlt hl pv hp' _ fun v H5 h5 pv5 => ⟨?_, h5, n - (i + 1), by omega, rfl, hlt, by simp [hl], pv5, upd_same, _, rfl⟩
    rw [hl, sizeLine_eq]; omega
  · have e : i = n := by omega
    subst e
    exact .inl ⟨Nat.le_refl _, q p ys H' hp pv hp' hl⟩
/-! ### sums over one common bottom -/
end L2
namespace L2
open PySem
theorem fr_nil {C : Str × Nat → Prop} : ∀ p ∈ ([] : List (Str × Nat)), C p := fun _ h => nomatch h
theorem fr_cons {C : Str × Nat → Prop} {a : Str × Nat} {l : List (Str × Nat)} (h : C a) (t : ∀ p ∈ l, C p) : ∀ p ∈ a :: l, C p := fun p hp => (List.mem_cons.mp hp).elim (fun e => e ▸ h) (t p)
theorem hfr_of {scope : Scope} {env : Env} (h : scope.names.all (fun y => y.2 != .free || env.kindOf y.1 == some .cell || env.kindOf y.1 == some .free) = true) : ∀ y ∈ scope.names, y.2 = .free → env.kindOf y.1 = some .cell ∨ env.kindOf y.1 = some .free := by
  intro y hy hf
  have := List.all_eq_true.mp h y hy
  rw [hf] at this
  simpa using this
end L2

set_option Elab.async false
set_option linter.all false
set_option maxRecDepth 100000
set_option maxHeartbeats 4000000
namespace L2
open PySem PySem.Spec PyProof.Rows
end L2
namespace L2
open PySem PySem.Spec PyProof.Rows MA
/-- [.. for x in xs], xs a list, no test -/
theorem comp_lst {K : PySem.W.Frag} {a : Addr} {xs : List V} {te : TE} {H : Hp} {R : Addr → Hp → Prop} {fs : St} (Pv : Addr → Nat → List V → Hp → Prop) (hn : xs.length ≤ 100000) (hp0 : ∀ p, H p = none → Pv p 0 [] (upd H p (.lst [])))
    (hl : ∀ p i ys H', H p = none → Pv p i ys H' → H' a = some (.lst xs))
    (hte : ∀ p i ys H' x, H p = none → xs[i]? = some x → ys.length = i → Pv p i ys H' → H' p = some (.lst ys) → ∀ Q' : VK, (∀ v H'', H'' p = some (.lst ys) → Pv p (i + 1) (ys ++ [v]) (upd H'' p (.lst (ys ++ [v]))) → Q' v H'') → te (some x :: fs) H' Q')
    (q : ∀ p ys H', H p = none → Pv p xs.length ys H' → H' p = some (.lst ys) → ys.length = xs.length → R p H') :
    ∀ p, H p = none → ∃ W : Nat → Nat → List V → St → Hp → Prop, (∃ m, W 0 m [] (none :: fs) (upd H p (.lst []))) ∧ ∀ i m ys σ' H', W i m ys σ' H' →
      ((Itl K a).stop i H' ∧ R p H') ∨ ((Itl K a).go i H' ∧ ∀ x H2, (Itl K a).yld i H' x H2 → gName 0 x σ' H2 fun σ2 H3 => tTT σ2 H3 fun b H4 => if b = true then te σ2 H4 fun v H5 => ys.length < sizeLine ∧ H5 p = some (.lst ys) ∧ (∃ m', m' < m ∧ W (i + 1) m' (ys ++ [v]) σ2 (upd H5 p (.lst (ys ++ [v]))))
        else ∃ m', m' < m ∧ W (i + 1) m' ys σ2 H4) := by
  intro p hp
  refine ⟨fun i m ys σ' H' => m = xs.length - i ∧ i ≤ xs.length ∧ ys.length = i ∧ Pv p i ys H' ∧ H' p = some (.lst ys) ∧ ∃ o, σ' = o :: fs, ⟨xs.length, by simp, Nat.zero_le _, rfl, hp0 p hp, upd_same, _, rfl⟩, ?_⟩
  rintro i m ys σ' H' ⟨rfl, hi, hlen, pv, hp', o, rfl⟩
  have hla := hl p i ys H' hp pv
  by_cases hlt : i < xs.length
  · refine .inr ⟨⟨xs, xs[i], SqL.of hla, List.getElem?_eq_getElem hlt⟩, fun x H2 hy => ?_⟩
    obtain ⟨rfl, hx⟩ := hy
    have hx' := hx xs (SqL.of hla)
    change te (some x :: fs) H2 _
    refine hte p i ys H2 x hp hx' hlen pv hp' _ fun v H5 h5 pv5 => ⟨?_, h5, xs.length - (i + 1), by omega, rfl, hlt, by simp [hlen], pv5, upd_same, _, rfl⟩
    rw [hlen, sizeLine_eq]; omega
  · have e : i = xs.length := by omega
    subst e
    exact .inl ⟨⟨xs, SqL.of hla, Nat.le_refl _⟩, q p ys H' hp pv hp' hlen⟩
/-- pairs of ints in the heap -/
def PrAt (H : Hp) (v : V) (p : Int × Int) : Prop := ∃ a, v = .ref a ∧ H a = some (.tup [.int p.1, .int p.2])
def Prs (H : Hp) : List V → List (Int × Int) → Prop := Paired (PrAt H)
theorem PrAt.same {H H' : Hp} {v : V} {p : Int × Int} (s : Same H H') (h : PrAt H v p) : PrAt H' v p := let ⟨a, e, h⟩ := h; ⟨a, e, s _ _ h⟩
theorem PrAt.updL {H : Hp} {l : Addr} {zs : List V} {o : HO} {v : V} {p : Int × Int} (hl : H l = some (.lst zs)) (h : PrAt H v p) : PrAt (upd H l o) v p := by
  obtain ⟨a, rfl, ha⟩ := h
  exact ⟨a, rfl, by rw [upd_ne (ne_of ha hl (by intro z; cases z))]; exact ha⟩
theorem Prs.same {H H' : Hp} (s : Same H H') : ∀ {xs : List V} {ps : List (Int × Int)}, Prs H xs ps → Prs H' xs ps
  | _, _, .nil => .nil
  | _, _, .cons r t => .cons (r.same s) (Prs.same s t)
theorem Prs.updL {H : Hp} {l : Addr} {zs : List V} {o : HO} (hl : H l = some (.lst zs)) : ∀ {xs : List V} {ps : List (Int × Int)}, Prs H xs ps → Prs (upd H l o) xs ps
  | _, _, .nil => .nil
  | _, _, .cons r t => .cons (r.updL hl) (Prs.updL hl t)
theorem Prs.snoc {H : Hp} {v : V} {p : Int × Int} (h : PrAt H v p) : ∀ {xs : List V} {ps : List (Int × Int)}, Prs H xs ps → Prs H (xs ++ [v]) (ps ++ [p])
  | _, _, .nil => .cons h .nil
  | _, _, .cons r t => .cons r (Prs.snoc h t)
def dp (p : Int × Int) : PyData := .tuple [.int p.1, .int p.2]
theorem Prs.data {H : Hp} : ∀ {xs : List V} {ps : List (Int × Int)}, Prs H xs ps → DataL H xs (ps.map dp)
  | _, _, .nil => .nil
  | _, _, .cons r t => by
    obtain ⟨a, rfl, ha⟩ := r
    exact .cons (.tup ha (.cons (.int _) (.cons (.int _) .nil))) (Prs.data t)
end L2

set_option Elab.async false
set_option linter.all false
set_option maxRecDepth 100000
set_option maxHeartbeats 4000000
namespace L2
open PySem PySem.Spec PyProof.Rows
section
variable {X : Cx} {e : Expr} {t : TA} {p p3 p4 pos : Pos}
/-- sorted(xs, reverse=b), xs a list of ints -/
def tSortR (b : Bool) (t : TA) : TE := fun σ H Q => t σ H fun vs H1 => ∃ (l : Addr) (ns : List Int), vs = [.ref l] ∧ H1 l = some (.lst (ns.map V.int)) ∧ ns.length < 64 ∧ ∀ (q : Addr) (ms : List Int), H1 q = none → ms.Perm ns → Ordered b ms → Q (.ref q) (upd H1 q (.lst (ms.map V.int)))
theorem pe_sortedR {b : Bool} {kk : _} (hg : Gl X "sorted") (hm : X.mg "sorted" = none) (ha : PA X [e] t)
    (he : backTo pos (starEach [e] X.env) = (false, eval e X.env) :: backTo pos (starEach [] X.env) := by rfl) (hpl : (backTo pos (starEach [e] X.env)).any (·.1) = false := by rfl) :
    PE X (.Call (.Name "sorted" p) [e] [⟨some "reverse", .Constant (.bool b) kk p3, p4⟩] pos) (tSortR b t) := by
  intro pins s σ H Q I h
  refine wpAny_Call_Name_kw (ld_blt I hg hm bt_sorted ?_ (by decide) (by decide))
  refine callWith_kw (thn (ha pos pins s σ H _ I h) fun us s1 ⟨vs, H1, I1, r1, q1⟩ => ?_) he hpl
  obtain ⟨l, ns, rfl, hl, h64, q⟩ := q1
  obtain ⟨u, rfl, ru⟩ := vals1 r1
  cases ru
  show wpAny _ X.A (evalAll [(do let v ← eval (.Constant (.bool b) kk p3) X.env; standAt pos; pure v)]) _ _ s1
  refine wpAny_evalAll_cons (wpAny_bind (Constant_bool (wpAny_bind (wpAny_standAt (wpAny_pure (wpAny_evalAll_nil ?_))))))
  show wpAny _ X.A (call (.builtin "sorted") [.ref l] [(Str.ofString "reverse", .bool b)]) _ _ _
  obtain ⟨its, rv, pl, hz⟩ := I1.list (SqL.of (K := X.K) hl)
  have hlen := rv.length
  rw [List.length_map] at hlen
  refine sorted_ints_rev pl.isList (intsAre_of rv) (by omega) fun out ms a1 a2 a3 => ?_
  obtain ⟨ee, he'⟩ := sortedAll_at s1.heap its out
  have hml : ms.length = ns.length := a2.length_eq
  refine ⟨.ref (s1.heap.objs.size + 1), _, I1.laid (t' := s1.toks) (a := s1.heap.objs.size + 1) (o := .lst (ms.map V.int)) (fun b o q => sortedAll_old q) (Nat.le_succ _) ⟨?_, out.toList, ee, vals_ints a1, ?_⟩, rfl, q _ ms (I1.hok.fresh (Nat.le_succ _)) a2 a3⟩
  · rw [List.length_map, hml, sizeLine_eq]; omega
  · rw [he']
end
end L2
namespace L2
open PySem PySem.Spec PyProof.Rows MA
section
variable {X : Cx}
theorem ix_tup0 : IxR X (fun x y H Q => ∃ p xs i v, x = .ref p ∧ y = .int i ∧ H p = some (.tup xs) ∧ atI xs i = some v ∧ Q v H) := by
  intro value slice pins s σ H x y v u Q I rx ry h hs
  obtain ⟨p, xs, i, w', e1, e2, hp, ha, q⟩ := h
  exact ix_tup value slice pins s σ H x y v u Q I rx ry ⟨p, xs, i, w', e1, e2, SqT.of hp, ha, q⟩ hs
end
/-- [.. for x in t], t a tuple, no test -/
theorem comp_tp {K : PySem.W.Frag} {a : Addr} {xs : List V} {te : TE} {H : Hp} {R : Addr → Hp → Prop} {fs : St} (Pv : Addr → Nat → List V → Hp → Prop) (hn : xs.length ≤ 100000) (hp0 : ∀ p, H p = none → Pv p 0 [] (upd H p (.lst [])))
    (hl : ∀ p i ys H', H p = none → Pv p i ys H' → H' a = some (.tup xs))
    (hte : ∀ p i ys H' x, H p = none → xs[i]? = some x → ys.length = i → Pv p i ys H' → H' p = some (.lst ys) → ∀ Q' : VK, (∀ v H'', H'' p = some (.lst ys) → Pv p (i + 1) (ys ++ [v]) (upd H'' p (.lst (ys ++ [v]))) → Q' v H'') → te (some x :: fs) H' Q')
    (q : ∀ p ys H', H p = none → Pv p xs.length ys H' → H' p = some (.lst ys) → ys.length = xs.length → R p H') :
    ∀ p, H p = none → ∃ W : Nat → Nat → List V → St → Hp → Prop, (∃ m, W 0 m [] (none :: fs) (upd H p (.lst []))) ∧ ∀ i m ys σ' H', W i m ys σ' H' →
      ((Itt K a).stop i H' ∧ R p H') ∨ ((Itt K a).go i H' ∧ ∀ x H2, (Itt K a).yld i H' x H2 → gName 0 x σ' H2 fun σ2 H3 => tTT σ2 H3 fun b H4 => if b = true then te σ2 H4 fun v H5 => ys.length < sizeLine ∧ H5 p = some (.lst ys) ∧ (∃ m', m' < m ∧ W (i + 1) m' (ys ++ [v]) σ2 (upd H5 p (.lst (ys ++ [v]))))
        else ∃ m', m' < m ∧ W (i + 1) m' ys σ2 H4) := by
  intro p hp
  refine ⟨fun i m ys σ' H' => m = xs.length - i ∧ i ≤ xs.length ∧ ys.length = i ∧ Pv p i ys H' ∧ H' p = some (.lst ys) ∧ ∃ o, σ' = o :: fs, ⟨xs.length, by simp, Nat.zero_le _, rfl, hp0 p hp, upd_same, _, rfl⟩, ?_⟩
  rintro i m ys σ' H' ⟨rfl, hi, hlen, pv, hp', o, rfl⟩
  have hla := hl p i ys H' hp pv
  by_cases hlt : i < xs.length
  · refine .inr ⟨⟨xs, xs[i], SqT.of hla, List.getElem?_eq_getElem hlt⟩, fun x H2 hy => ?_⟩
    obtain ⟨rfl, hx⟩ := hy
    have hx' := hx xs (SqT.of hla)
    change te (some x :: fs) H2 _
    refine hte p i ys H2 x hp hx' hlen pv hp' _ fun v H5 h5 pv5 => ⟨?_, h5, xs.length - (i + 1), by omega, rfl, hlt, by simp [hlen], pv5, upd_same, _, rfl⟩
    rw [hlen, sizeLine_eq]; omega
  · have e : i = xs.length := by omega
    subst e
    exact .inl ⟨⟨xs, SqT.of hla, Nat.le_refl _⟩, q p ys H' hp pv hp' hlen⟩
end L2
namespace L2
open PySem PySem.Spec PyProof.Rows MA
section
variable {X : Cx}
/-- t + u of tuples, also of empty ones -/
def rCatT' (K : PySem.W.Frag) : R2 := fun x y H Q => ∃ a b xs ys, x = .ref a ∧ y = .ref b ∧ SqT K H a xs ∧ SqT K H b ys ∧ xs.length + ys.length ≤ sizeLine ∧
  (xs = [] → Q (.ref b) H) ∧ (xs ≠ [] → ys = [] → Q (.ref a) H) ∧ (xs ≠ [] → ys ≠ [] → ∀ p, H p = none → Q (.ref p) (upd H p (.tup (xs ++ ys))))
theorem op_catT' : OpR X (binaryOp .Add) (rCatT' X.K) := by
  intro pins s σ H x y v u Q I rx ry h
  obtain ⟨a, b, xs, ys, e1, e2, ha, hb, hz, q0, q1, q2⟩ := h
  by_cases e : xs = []
  · subst e1 e2
    subst e
    cases rx
    cases ry
    obtain ⟨its, r1, p1, _⟩ := I.tuple ha
    obtain ⟨its2, r2, p2, _⟩ := I.tuple hb
    cases r1
    obtain ⟨⟨cls, dd, data, sl⟩, ho, hc, n, hd⟩ := id p1
    obtain ⟨⟨cls2, dd2, data2, sl2⟩, ho2, hc2, n2, hd2⟩ := id p2
    simp only at hc hd hc2 hd2
    subst hc hd hc2 hd2
    exact concat_meets ⟨_, ho, rfl⟩ ⟨_, ho2, rfl⟩ noFill_tuple_add seq_tuple_add PySem.F.slot_tuple_add PySem.F.entry_tuple_add (PySem.F.args_tuple_add_2 _ _)
      (tuple_addW0 a b [].toArray its2.toArray n n2 dd dd2 sl sl2 (by simp)) ⟨ho, ho2, ⟨.ref b, H, I, rfl, q0 rfl⟩⟩
  · exact op_catT pins s σ H x y v u Q I rx ry ⟨a, b, xs, ys, e1, e2, ha, hb, e, hz, q1 e, q2 e⟩
end
end L2

set_option Elab.async false
set_option linter.all false
set_option maxRecDepth 100000
set_option maxHeartbeats 1000000
namespace L2
open PySem PySem.Spec PyProof.Rows MA
theorem tuple_mul1 (l : Addr) (items : Array Value) (n : Nat) (dd : Option Addr) (sl : Array (Option Value)) (u : Tok) :
    Meets (Builtin.«tuple.__mul__» ⟨[.ref l, .int 1 u], []⟩) (fun _ R s => s.heap.get? l = some { cls := .type "tuple", dict := dd, data := .seq items n, slots := sl } ∧ R (.ok (.ret (Value.ref l))) { s with heap := s.heap, toks := s.toks }) :=
  .of_wp fun prog w A R s h => by
    obtain ⟨hp, g, d, tk, os⟩ := s; obtain ⟨hl, h⟩ := h
    have f1 := AutoSeq1.idx_int; have f2 := AutoSeq1.sub_tuple_tuple; have f3 := AutoSeq1.sub_list_list; have f4 := AutoSeq1.sub_tuple_list; have f5 := AutoSeq1.sub_list_tuple
    wp_walk using wpAny_loadPart' hl
    exact ⟨_, rfl, h⟩
theorem tuple_mul0 (l : Addr) (items : Array Value) (n : Nat) (dd : Option Addr) (sl : Array (Option Value)) (u : Tok) (he : ¬ items.isEmpty = true) :
    Meets (Builtin.«tuple.__mul__» ⟨[.ref l, .int 0 u], []⟩) (fun _ R s => s.heap.get? l = some { cls := .type "tuple", dict := dd, data := .seq items n, slots := sl } ∧ R (.ok (.ret (Value.ref s.heap.objs.size))) { s with heap := s.heap.push { cls := Value.type "tuple", data := Data.seq #[] }, toks := s.toks }) :=
  .of_wp fun prog w A R s h => by
    obtain ⟨hp, g, d, tk, os⟩ := s; obtain ⟨hl, h⟩ := h
    have f1 := AutoSeq1.idx_int; have f2 := AutoSeq1.sub_tuple_tuple; have f3 := AutoSeq1.sub_list_list; have f4 := AutoSeq1.sub_tuple_list; have f5 := AutoSeq1.sub_list_tuple
    wp_walk using wpAny_loadPart' hl
    exact ⟨_, rfl, h⟩
theorem tuple_mul2 (l : Addr) (items : Array Value) (n : Nat) (dd : Option Addr) (sl : Array (Option Value)) (x : Int) (u : Tok) (he : items.isEmpty = false) (h1 : (decide (x < -(2 ^ 63)) || decide (x ≥ 2 ^ 63)) = false) (h2 : (x == 1) = false) (h3 : decide (x ≤ 0) = false)
    (h4 : decide ((items.size : Int) * x > (2 ^ 63 - 1) / 8) = false) (h5 : Builtin.Tuple.tupleTooMany ((items.size : Int) * x) = false) (h6 : ((List.replicate x.toNat items).foldl (· ++ ·) #[]).size ≤ sizeLine) :
    Meets (Builtin.«tuple.__mul__» ⟨[.ref l, .int x u], []⟩) (fun _ R s => s.heap.get? l = some { cls := .type "tuple", dict := dd, data := .seq items n, slots := sl } ∧ R (.ok (.ret (Value.ref s.heap.objs.size))) { s with heap := s.heap.push { cls := Value.type "tuple", data := Data.seq ((List.replicate x.toNat items).foldl (· ++ ·) #[]) }, toks := s.toks }) :=
  .of_wp fun prog w A R s h => by
    obtain ⟨hp, g, d, tk, os⟩ := s; obtain ⟨hl, h⟩ := h
    have f1 := AutoSeq1.idx_int; have f2 := AutoSeq1.sub_tuple_tuple; have f3 := AutoSeq1.sub_list_list; have f4 := AutoSeq1.sub_tuple_list; have f5 := AutoSeq1.sub_list_tuple
    wp_walk using wpAny_loadPart' hl
    refine wpAny_ite_false (by rw [h1]; rfl) ?_
    wp_walk using wpAny_loadPart' hl
    refine wpAny_ite_false h4 ?_
    wp_walk using wpAny_loadPart' hl
    first
    | exact ⟨_, rfl, h⟩
    | (refine wpAny_ite_false (by rw [h5]; rfl) ?_
       wp_walk using wpAny_loadPart' hl
       first
       | exact ⟨_, rfl, h⟩
       | (refine wpAny_ite_false (decide_eq_false (Nat.not_lt.mpr h6)) ?_
          wp_walk using wpAny_loadPart' hl
          exact ⟨_, rfl, h⟩))
    | (refine wpAny_ite_false (decide_eq_false (Nat.not_lt.mpr h6)) ?_
       wp_walk using wpAny_loadPart' hl
       exact ⟨_, rfl, h⟩)
theorem noFill_tuple_mul : fillsNumberSlot (.type "tuple") "mul" = pure false :=
  PySem.fillsNumberSlot_seq (id := "tuple.__mul__") (r := some (.builtin "tuple.__rmul__")) F.slot_tuple_mul.lookup (by decide +kernel) F.slot_tuple_rmul.lookup (by decide +kernel)
theorem repeat_tuple : seqRepeat? (.type "tuple") = pure (some (.builtin "tuple.__mul__")) := by
  unfold seqRepeat?
  rw [PySem.seqSlot_of (T := "tuple") (name := "__mul__") (id := "tuple.__mul__") F.slot_tuple_mul.lookup (by decide +kernel), PySem.seqSlot_of (T := "tuple") (name := "__rmul__") (id := "tuple.__rmul__") F.slot_tuple_rmul.lookup (by decide +kernel)]
  rfl
theorem int_rmul_tuple (a : Int) (t : Tok) (l : Addr) (items : Array Value) (n : Nat) (d : Option Addr) (sl : Array (Option Value)) :
    Meets (Builtin.«int.__rmul__» ⟨[.int a t, .ref l], []⟩) (fun _ R s => s.heap.get? l = some { cls := .type "tuple", dict := d, data := .seq items n, slots := sl } ∧ R (.ok (.ret Value.notImplemented)) s) :=
  .of_wp fun prog w A R s h => by obtain ⟨hp, g, d, tk, os⟩ := s; obtain ⟨hl, h⟩ := h; wp_walk; exact ⟨_, rfl, h⟩
theorem foldl_rep' {α : Type} (its : List α) : ∀ (m : Nat) (acc : List α), List.foldl (fun x1 x2 => x1 ++ x2) acc.toArray (List.replicate m its.toArray) = (acc ++ (List.replicate m its).flatten).toArray
  | 0, acc => by simp
  | m + 1, acc => by
    rw [List.replicate_succ, List.foldl_cons, List.replicate_succ, List.flatten_cons]
    have : acc.toArray ++ its.toArray = (acc ++ its).toArray := by simp
    rw [this, foldl_rep' its m (acc ++ its), List.append_assoc]
section
variable {X : Cx}
/-- a tuple times an int, the tuple not empty, from 0 to a thousand times -/
theorem op_repT : OpR X (binaryOp .Mult) (fun x y H Q => ∃ l k xs, x = .ref l ∧ y = .int k ∧ H l = some (.tup xs) ∧ xs ≠ [] ∧ 0 ≤ k ∧ k ≤ 1000 ∧ xs.length ≤ 1000 ∧
    (k = 1 → Q (.ref l) H) ∧ (k ≠ 1 → ∀ p, H p = none → Q (.ref p) (upd H p (.tup (List.replicate k.toNat xs).flatten)))) := by
  intro pins s σ H x y v u Q I rx ry h
  obtain ⟨l, k, xs, rfl, rfl, hH, hne, k0, k1, hx, q1, q2⟩ := h
  cases rx
  obtain ⟨t, rfl⟩ := ry
  obtain ⟨its, r, p1, hz⟩ := I.tuple (SqT.of (K := X.K) hH)
  have hlen := r.length
  have hne' : its ≠ [] := fun z => hne (r.nil_iff.mp z)
  obtain ⟨⟨cls, dd, data, sl⟩, ho, hc, n, hd⟩ := id p1
  simp only at hc hd
  subst hc hd
  refine wpAny_binaryOp_repeat_ref (T := "tuple") (U := "int") (by decide) ⟨_, ho, rfl⟩ (fun s' => typeIs_int s' k t) noFill_tuple_mul F.fills_int_mul F.slot_int_rmul repeat_tuple F.slot_int_index.lookup
    (call_meets F.slot_int_rmul (typeIs_int s k t) F.entry_int_rmul (F.args_int_rmul_2 _ _) (int_rmul_tuple k t l its.toArray n dd sl) ⟨ho, rfl, ⟨_, ho, rfl⟩, ?_⟩)
  have new : ∀ zs : List V, ∀ us : List Value, Vals zs us → zs.length ≤ sizeLine → (∀ p, H p = none → Q (.ref p) (upd H p (.tup zs))) → EP X pins σ Q (.ref s.heap.objs.size) { s with heap := s.heap.push { cls := .type "tuple", data := .seq us.toArray } } := fun zs us rz hzs hq =>
    ⟨.ref s.heap.objs.size, _, I.laid (t' := s.toks) (o := .tup zs) (fun b ob q => Heap.get?_push_of_some _ q) (Nat.le_refl _) ⟨hzs, _, rz, IsTupN.new _ _⟩, rfl, hq _ (I.hok.fresh (Nat.le_refl _))⟩
  by_cases e1 : k = 1
  · subst e1
    exact call_meets F.slot_tuple_mul ⟨_, ho, rfl⟩ F.entry_tuple_mul (F.args_tuple_mul_2 _ _) (tuple_mul1 l its.toArray n dd sl t) ⟨ho, ⟨.ref l, H, I, rfl, q1 rfl⟩⟩
  by_cases e0 : k = 0
  · subst e0
    exact call_meets F.slot_tuple_mul ⟨_, ho, rfl⟩ F.entry_tuple_mul (F.args_tuple_mul_2 _ _) (tuple_mul0 l its.toArray n dd sl t (by simpa using hne')) ⟨ho, new [] [] .nil (by simp) (q2 (by decide))⟩
  have hfold : List.foldl (fun x1 x2 => x1 ++ x2) #[] (List.replicate k.toNat its.toArray) = (List.replicate k.toNat its).flatten.toArray := by
    have := foldl_rep' its k.toNat []
    simpa using this
  have hsz : (its.length : Int) * k ≤ 1000 * 1000 := Int.mul_le_mul (by omega) k1 k0 (by decide)
  have hflat : (List.replicate k.toNat its).flatten.length ≤ sizeLine := by
    rw [len_rep]
    have : k.toNat * its.length ≤ 1000 * 1000 := Nat.mul_le_mul (by omega) (by omega)
    rw [sizeLine_eq]; omega
  refine call_meets F.slot_tuple_mul ⟨_, ho, rfl⟩ F.entry_tuple_mul (F.args_tuple_mul_2 _ _) (tuple_mul2 l its.toArray n dd sl k t (by simpa using hne') ?_ (by simpa using e1) (by simp; omega) ?_ ?_ (by rw [hfold]; simpa using hflat)) ⟨ho, ?_⟩
  · simp; omega
  · simp; omega
  · unfold Builtin.Tuple.tupleTooMany
    rw [List.size_toArray, sizeLine_eq]
    simp
    omega
  · rw [hfold]
    refine new _ _ (r.rep k.toNat) ?_ (q2 e1)
    rw [len_rep]
    have : k.toNat * xs.length ≤ 1000 * 1000 := Nat.mul_le_mul (by omega) (by omega)
    rw [sizeLine_eq]; omega
end
end L2

set_option Elab.async false
set_option linter.all false
set_option maxRecDepth 100000
set_option maxHeartbeats 1000000
namespace L2
open PySem PySem.Spec PyProof.Rows
end L2

set_option Elab.async false
set_option linter.all false
set_option maxRecDepth 100000
set_option maxHeartbeats 1000000
namespace My
open PySem L2 MA
/-! a pen that is a list: its cells, where it stands, what is left -/
end My

set_option Elab.async false
set_option linter.all false
set_option maxRecDepth 100000
set_option maxHeartbeats 1000000
namespace L2
open PySem PySem.Spec PyProof.Rows
end L2
namespace My
open PySem L2 MA
end My

set_option Elab.async false
set_option linter.all false
set_option maxRecDepth 100000
set_option maxHeartbeats 4000000
namespace L2
open PySem PySem.Spec PyProof.Rows
end L2

set_option Elab.async false
set_option linter.all false
set_option maxRecDepth 100000
set_option maxHeartbeats 4000000
namespace L2
open PySem PySem.Spec PyProof.Rows
end L2

set_option Elab.async false
set_option linter.all false
set_option maxRecDepth 100000
set_option maxHeartbeats 4000000
namespace L2
open PySem PySem.Spec PyProof.Rows
end L2
namespace L2
open PySem PySem.Spec PyProof.Rows
end L2

set_option Elab.async false
set_option linter.all false
set_option maxRecDepth 100000
set_option maxHeartbeats 4000000
namespace L2
open PySem PySem.Spec PyProof.Rows
section
variable {X : Cx}
/-- o[i] by values, o a list (for o[i] += e) -/
def rGetL : V → V → Hp → VK → Prop := fun o i H Q => ∃ p xs k v, o = .ref p ∧ i = .int k ∧ 0 ≤ k ∧ H p = some (.lst xs) ∧ atI xs k = some v ∧ Q v H
theorem get_list : PGet X rGetL := by
  intro pins s σ H o i ov iv Q I ro ri h
  obtain ⟨p, xs, k, z, rfl, rfl, h0, hp, he, q⟩ := h
  cases ro
  obtain ⟨t, rfl⟩ := ri
  obtain ⟨its, r, pl, hz⟩ := I.list (SqL.of (K := X.K) hp)
  obtain ⟨j, h1, h2, h3, h4, h5⟩ := atI_get he
  obtain ⟨w, ew, rw'⟩ := r.get h2
  have hl := r.length
  have hn := line63
  have hj : k.toNat = j := by
    rw [seqIndex_of h0 h5] at h1
    exact Option.some.inj h1
  exact wpAny_getItem_list pl.isList h0 (by omega) (by rw [hj]; simpa using ew) ⟨z, H, I, rw', q⟩
end
end L2

set_option Elab.async false
set_option linter.all false
set_option maxRecDepth 100000
set_option maxHeartbeats 1000000
namespace L2
open PySem PySem.Spec PyProof.Rows MA
/-! ### ints in a row -/
abbrev iv (ns : List Int) : List V := ns.map V.int
theorem iv_at {ns : List Int} {i : Nat} {x : V} (h : (iv ns)[i]? = some x) : ∃ y, ns[i]? = some y ∧ x = .int y := by
  rw [List.getElem?_map] at h
  cases e : ns[i]? with
  | none => rw [e] at h; cases h
  | some y => rw [e] at h; cases h; exact ⟨y, rfl, rfl⟩
theorem iv_get {ns : List Int} {i : Nat} (h : i < ns.length) : (iv ns)[i]? = some (.int ns[i]) := by rw [List.getElem?_map, List.getElem?_eq_getElem h]; rfl
theorem iv_atI {ns : List Int} {i : Nat} (h : i < ns.length) : atI (iv ns) (i : Int) = some (.int (ns.getD i 0)) := by
  rw [atI_nat (iv_get h), getD_of h]
end L2
namespace My
open PySem L2 MA
theorem lz {m : Nat} (n : Nat) (h : m = n) (hn : n ≤ 100 := by decide) : m ≤ sizeLine := by
  rw [h, sizeLine_eq]; omega
theorem lzz {m : Nat} (h : m ≤ 10000) : m ≤ sizeLine := by rw [sizeLine_eq]; omega
theorem penX_upd {H H2 : Hp} {p acc : Addr} {n m : Nat} (hn : H acc = none) (hp : Pen H p n) (x : SameX p H H2) (hp2 : Pen H2 p m) (o : HO) : Pen (upd H2 acc o) p m ∧ SameX p H (upd H2 acc o) := by
  obtain ⟨c, ns, a, l, h1, h2, _, _⟩ := hp
  obtain ⟨c', ns', a', l', h1', h2', h3', h4'⟩ := hp2
  have hap : p ≠ acc := ne_of_none h1 hn
  have hac : c ≠ acc := ne_of_none h2 hn
  obtain ⟨a'', l'', e⟩ := x.pen c a l h1
  rw [h1'] at e
  have ec : c' = c := by
    have e' := congrArg (fun o => match o with | some (HO.dK ((_, V.ref q) :: _)) => q | _ => c) e
    exact e'
  subst ec
  refine ⟨⟨c', ns', a', l', by rw [upd_ne hap]; exact h1', by rw [upd_ne hac]; exact h2', h3', h4'⟩, ⟨fun b u hb hbp => ?_, fun c2 a2 l2 e2 => ?_⟩⟩
  · rw [upd_ne (ne_of_none hb hn)]; exact x.all b u hb hbp
  · rw [upd_ne hap]; exact x.pen c2 a2 l2 e2
/-- what isn't the pen stays beside draws -/
theorem Pen.nep {H : Hp} {p b : Addr} {n : Nat} {o : HO} (hp : Pen H p n) (hb : H b = some o) (ho : ∀ kvs, o ≠ .dK kvs := by intro _ z; cases z) : b ≠ p := by
  obtain ⟨kvs, e⟩ := hp.dk
  rintro rfl
  rw [hb] at e
  cases e
  exact ho _ rfl
theorem Pen.keep {H H' : Hp} {p b : Addr} {n : Nat} {o : HO} (hp : Pen H p n) (x : SameX p H H') (hb : H b = some o) (ho : ∀ kvs, o ≠ .dK kvs := by intro _ z; cases z) : H' b = some o := x.all b o hb (hp.nep hb ho)
end My

set_option Elab.async false
set_option linter.all false
set_option maxRecDepth 100000
set_option maxHeartbeats 1000000
namespace L2
open PySem PySem.Spec PyProof.Rows MA
end L2
namespace HT
open PySem PySem.Spec PyProof.Rows
end HT
namespace L2
open PySem PySem.Spec PyProof.Rows MA
section
variable {X : Cx} {e : Expr} {te : TE} {p2 p3 p4 pos : Pos}
theorem rep1 (x : Int) : ∀ k : Nat, (List.replicate k [V.int x]).flatten = iv (List.replicate k x)
  | 0 => rfl
  | k + 1 => by rw [List.replicate_succ, List.flatten_cons, rep1 x k, List.replicate_succ]; rfl
end
end L2
namespace L2
open PySem PySem.Spec PyProof.Rows MA
/-! ### data that lies in tuples and in what is new since H -/
end L2

set_option Elab.async false
set_option linter.all false
set_option maxRecDepth 100000
set_option maxHeartbeats 4000000
namespace L2
open PySem PySem.Spec PyProof.Rows
/-! ### comprehensions of two clauses: the block's body is any action on the new list -/
end L2

set_option Elab.async false
set_option linter.all false
set_option maxRecDepth 100000
set_option maxHeartbeats 1000000
namespace L2
open PySem PySem.Spec PyProof.Rows MA
/-! ### set(list of ints), len of a set, list(range(n)) -/
/-! ### readings of a clause's walk -/
/-! ### a tuple, a list walked inside a comprehension: no K -/
end L2

set_option Elab.async false
set_option linter.all false
set_option maxRecDepth 100000
set_option maxHeartbeats 1000000
namespace L2
open PySem PySem.Spec PyProof.Rows MA SeqAt
/-! ### a text and a dict are not the same -/
end L2

set_option Elab.async false
set_option linter.all false
set_option maxRecDepth 100000
set_option maxHeartbeats 1000000
namespace PySem
open Sem (wp)
theorem list_has_no_keys : typeLookup (.type "list") "keys" = pure none := by rw [typeLookup_type, builtinLookup_eq_fast]; kernel_rfl
theorem no_keys_list {prog : Program} {w : World} {A : Around} {E : Value → Shared → Prop} {s : Shared} {a : Addr} {o : Obj} {xs : Array Value} {k : Nat} {Q : Option Value → Shared → Prop}
    (hx : s.heap.get? a = some o) (hc : o.cls = .type "list") (hdat : o.data = .seq xs k) (hd : o.dict = none) (hA : A.handled = none)
    (h : ∀ h' tk, (∀ b u, s.heap.get? b = some u → h'.get? b = some u) → Q none { s with heap := h', toks := tk }) :
    wpAny (model prog w) A (getAttr? (.ref a) "keys") Q E s := by
  have hmiss := list_has_no_keys
  obtain ⟨c, dct, dat, sl⟩ := o
  simp only at hc hdat hd
  subst hc hdat hd
  obtain ⟨hp, g, d, tk, os⟩ := s
  have hT : ∀ tk', (⟨hp, g, d, tk', os⟩ : Shared).TypeIs (.ref a) "list" := fun _ => ⟨_, hx, rfl⟩
  have f1 := sub_AttributeError
  have f3 := F.slot_list_getattribute.lookup
  have f4 := F.slot_list_getattribute.bind (.ref a)
  have f5 := am_list_getattr_none
  unfold getAttr? getAttrBy? getAttrBy
  repeat (any_goals (first | assumption | exact hT _ | ((with_reducible show wpAny _ _ (call (Value.builtin "list.__getattribute__") _ _) _ _ _); refine call_meets F.slot_list_getattribute (hT _) am_entry_list_getattribute (F.args_list_getattribute_2 _ _) (meets_getattribute_miss_list a xs k sl "keys" _ hmiss (by decide) (by size_fits)) ⟨hx, hA, fun h' tk' e hx' => ?_⟩) | wp_step))
  obtain ⟨t', u', he⟩ := hx'.there
  have hTe : (⟨h', g, d, tk', os⟩ : Shared).TypeIs (.ref e) "AttributeError" := ⟨_, he, rfl⟩
  show wpAny _ _ (getattributeRaised _ _ _ _ _ _ _) _ _ _
  unfold getattributeRaised
  repeat (any_goals (first | assumption | wp_step))
  exact h _ _ hx'.keeps
namespace F
theorem entry_dict_update_loop : entryFor table "dict.update.loop" = some Builtin.«dict.update.loop» := entryFor_of_tree (by kernel_rfl)
theorem plain_dict_update_loop : plainId "dict.update.loop" = true := by decide +kernel
end F
end PySem
namespace L2
open PySem PySem.Spec PyProof.Rows MA
end L2

set_option Elab.async false
set_option linter.all false
set_option maxRecDepth 100000
set_option maxHeartbeats 4000000
namespace L2
open PySem PySem.Spec PyProof.Rows
/-! ### dict comprehensions of one clause -/
end L2

set_option Elab.async false
set_option linter.all false
set_option maxRecDepth 100000
set_option maxHeartbeats 1000000
namespace L2
open PySem PySem.Spec PyProof.Rows
/-! ### for k, v in d.items(): the dict is frozen from then on -/
end L2

set_option Elab.async false
set_option linter.all false
set_option maxRecDepth 100000
set_option maxHeartbeats 4000000
/-! ### isinstance of an own exception -/
namespace L2
open PySem PySem.Builtin PySem.Builtin.ObjectAttr PySem.Spec PyProof.Rows
end L2

set_option Elab.async false
set_option linter.all false
set_option maxRecDepth 100000
set_option maxHeartbeats 4000000
/-! ### own exceptions -/
namespace L2
open PySem PySem.Spec PyProof.Rows
/-! ### raise -/
end L2

set_option Elab.async false
set_option linter.all false
set_option maxRecDepth 100000
set_option maxHeartbeats 4000000
/-! ### try .. except -/
namespace L2
open PySem PySem.Spec PyProof.Rows
/-! ### what may raise: an expression, a statement -/
/-! ### the statement -/
end L2

set_option Elab.async false
set_option linter.all false
set_option maxRecDepth 100000
set_option maxHeartbeats 4000000
/-! ### lambdas -/
namespace L2
open PySem PySem.Spec PyProof.Rows
end L2

set_option Elab.async false
set_option linter.all false
set_option maxRecDepth 100000
set_option maxHeartbeats 4000000
/-! ### a lambda without arguments, handed to a def that calls it -/
namespace L2
open PySem PySem.Spec PyProof.Rows
/-! ### the lambda is made -/
end L2

set_option Elab.async false
set_option linter.all false
set_option maxRecDepth 100000
set_option maxHeartbeats 4000000
namespace L2
open PySem PySem.Spec PyProof.Rows
/-! ### the closure is called, within a try -/
/-! ### isinstance(x, c): c by its name -/
end L2

set_option Elab.async false
set_option linter.all false
set_option maxRecDepth 100000
set_option maxHeartbeats 4000000
/-! ### the head of a law one of whose defs makes lambdas -/
namespace L2
open PySem PySem.Spec PyProof.Rows
end L2
namespace L2
end L2

set_option Elab.async false
set_option linter.all false
set_option maxRecDepth 100000
set_option maxHeartbeats 4000000
namespace My
open PySem L2 MA
end My
namespace L2
end L2
namespace My
open PySem L2 MA
end My
namespace My
open PySem L2 MA
end My

set_option Elab.async false
set_option linter.all false
set_option maxRecDepth 100000
set_option maxHeartbeats 4000000
namespace L2
open PySem PySem.Spec PyProof.Rows
/-- [.. for x in range(n) if ..] -/
theorem comp_rngT {n : Nat} {lo : Int} {tc : TT} {te : TE} {H : Hp} {R : Addr → Hp → Prop} {fs : St} (Pv : Addr → Nat → List V → Hp → Prop) (hn : n ≤ 100000) (hp0 : ∀ p, H p = none → Pv p 0 [] (upd H p (.lst [])))
    (hte : ∀ p i ys H', H p = none → i < n → Pv p i ys H' → H' p = some (.lst ys) → ∀ (Qf : Hp → Prop) (Q' : VK), (∀ H'', H'' p = some (.lst ys) → Pv p (i + 1) ys H'' → Qf H'') →
      (∀ v H'', H'' p = some (.lst ys) → Pv p (i + 1) (ys ++ [v]) (upd H'' p (.lst (ys ++ [v]))) → Q' v H'') → tc (some (.int (lo + i)) :: fs) H' (fun b H4 => if b = true then te (some (.int (lo + i)) :: fs) H4 Q' else Qf H4))
    (q : ∀ p ys H', H p = none → Pv p n ys H' → H' p = some (.lst ys) → R p H') :
    ∀ p, H p = none → ∃ W : Nat → Nat → List V → St → Hp → Prop, (∃ m, W 0 m [] (none :: fs) (upd H p (.lst []))) ∧ ∀ i m ys σ' H', W i m ys σ' H' →
      ((Itr lo n).stop i H' ∧ R p H') ∨ ((Itr lo n).go i H' ∧ ∀ x H2, (Itr lo n).yld i H' x H2 → gName 0 x σ' H2 fun σ2 H3 => tc σ2 H3 fun b H4 => if b = true then te σ2 H4 fun v H5 => ys.length < sizeLine ∧ H5 p = some (.lst ys) ∧ (∃ m', m' < m ∧ W (i + 1) m' (ys ++ [v]) σ2 (upd H5 p (.lst (ys ++ [v]))))
        else ∃ m', m' < m ∧ W (i + 1) m' ys σ2 H4) := by
  intro p hp
  refine ⟨fun i m ys σ' H' => m = n - i ∧ i ≤ n ∧ ys.length ≤ i ∧ Pv p i ys H' ∧ H' p = some (.lst ys) ∧ ∃ o, σ' = o :: fs, ⟨n, by simp, Nat.zero_le _, Nat.le_refl _, hp0 p hp, upd_same, _, rfl⟩, ?_⟩
  rintro i m ys σ' H' ⟨rfl, hi, hl, pv, hp', o, rfl⟩
  by_cases hlt : i < n
  · refine .inr ⟨hlt, fun x H2 hy => ?_⟩
    obtain ⟨rfl, rfl⟩ := hy
    change tc (some (.int (lo + i)) :: fs) H2 _
    refine hte p i ys H2 hp hlt pv hp' _ _ (fun H5 h5 pv5 => ⟨n - (i + 1), by omega, rfl, hlt, by omega, pv5, h5, _, rfl⟩) fun v H5 h5 pv5 => ⟨?_, h5, n - (i + 1), by omega, rfl, hlt, by simp; omega, pv5, upd_same, _, rfl⟩
    rw [sizeLine_eq]; omega
  · have e : i = n := by omega
    subst e
    exact .inl ⟨Nat.le_refl _, q p ys H' hp pv hp'⟩
section
variable {X : Cx}
/-- == of two lists of the same flat things -/
theorem all_self (xs : List V) (h : xs.all (fun v => eqV v v) = true) : ((List.range xs.length).all fun j => eqV (xs.getD j .non) (xs.getD j .non)) = true := by
  rw [List.all_eq_true]
  intro j hj
  have hj : j < xs.length := by simpa using hj
  rw [getD_of hj]
  exact List.all_eq_true.mp h _ (List.getElem_mem hj)
end
theorem flat_iv (ns : List Int) : (iv ns).all flatV = true := by rw [List.all_eq_true]; intro v hv; obtain ⟨n, _, rfl⟩ := List.mem_map.mp hv; rfl
theorem eq_iv (ns : List Int) : (iv ns).all (fun v => eqV v v) = true := by rw [List.all_eq_true]; intro v hv; obtain ⟨n, _, rfl⟩ := List.mem_map.mp hv; simp [eqV]
end L2
namespace My
open PySem L2 MA
theorem same_updN {H H' : Hp} {l : Addr} (hl : H l = none) (s : Same H H') (o : HO) : Same H (upd H' l o) := fun b u q => by rw [upd_ne (ne_of_none q hl)]; exact s _ _ q
theorem ixN_nat {n j : Nat} (h : j < n) : ixN n ((j : Nat) : Int) = some j := by
  unfold ixN
  rw [if_pos (by omega), if_pos (by omega)]
  simp
theorem atI_iv {ns : List Int} {j : Nat} {x : Int} (h : ns[j]? = some x) : atI (iv ns) ((j : Nat) : Int) = some (.int x) := atI_nat (by rw [List.getElem?_map, h]; rfl)
theorem iv_set (ns : List Int) (j : Nat) (y : Int) : (iv ns).set j (.int y) = iv (ns.set j y) := by show (ns.map V.int).set j (.int y) = (ns.set j y).map V.int; rw [List.map_set]
end My
namespace My
open PySem L2 MA
end My

set_option Elab.async false
set_option linter.all false
set_option maxRecDepth 100000
set_option maxHeartbeats 4000000
namespace L2
open PySem PySem.Spec PyProof.Rows
end L2
namespace My
open PySem L2 MA
end My

set_option Elab.async false
set_option linter.all false
set_option maxRecDepth 100000
set_option maxHeartbeats 4000000
namespace L2
open PySem PySem.Spec PyProof.Rows
end L2

set_option Elab.async false
set_option linter.all false
set_option maxRecDepth 100000
set_option maxHeartbeats 4000000
namespace L2
open PySem PySem.Spec PyProof.Rows
end L2

set_option Elab.async false
set_option linter.all false
set_option maxRecDepth 100000
set_option maxHeartbeats 4000000
namespace L2
open PySem PySem.Spec PyProof.Rows
end L2

set_option Elab.async false
set_option linter.all false
set_option maxRecDepth 100000
set_option maxHeartbeats 4000000
namespace L2
open PySem PySem.Spec PyProof.Rows
end L2

set_option Elab.async false
set_option linter.all false
set_option maxRecDepth 100000
set_option maxHeartbeats 4000000
namespace L2
open PySem PySem.Spec PyProof.Rows
end L2

set_option Elab.async false
set_option linter.all false
set_option maxRecDepth 100000
set_option maxHeartbeats 4000000
namespace L2
open PySem PySem.Spec PyProof.Rows
end L2

set_option Elab.async false
set_option linter.all false
set_option maxRecDepth 100000
set_option maxHeartbeats 4000000
namespace L2
open PySem PySem.Spec PyProof.Rows
end L2

set_option Elab.async false
set_option linter.all false
set_option maxRecDepth 100000
set_option maxHeartbeats 4000000
namespace L2
open PySem PySem.Spec PyProof.Rows MA
section
variable {X : Cx}
/-- sum(xs), xs a tuple of ints -/
theorem call_sumT (hc : X.calm = true) : CallR X (.builtin "sum") (fun xs H Q => ∃ (l : Addr) (ns : List Int), xs = [.ref l] ∧ H l = some (.tup (ns.map V.int)) ∧ Q (.int ns.sum) H) := by
  intro pins s σ H xs us Q I r h
  obtain ⟨l, ns, rfl, hl, q⟩ := h
  obtain ⟨u, rfl, ru⟩ := vals1 r
  cases ru
  obtain ⟨its, rv, p, hz⟩ := I.tuple (SqT.of hl)
  have hi := intsAre_of rv
  obtain ⟨ys, e⟩ := hi.allInts.items
  have hnum : ns = ys.toList.map (·.1) := by
    have h1 := hi.numsOf
    have h2 := nums_intItems ys
    rw [← e] at h2
    rw [← h1, ← h2]
  refine PySem.W.ktm_sumG (I.ok.hd hc) (xs := ys) (by rw [← e]; exact p) fun h' tk t' hk => ?_
  refine ⟨.int ns.sum, H, I.kept (t' := tk) hk, ⟨t', ?_⟩, q⟩
  rw [preSum_eq, List.take_of_length_le (by simp), hnum]
/-- != of a list and the empty list -/
theorem op_neE (hu : X.A.units < cLine) : OpR X (compareOp .NotEq) (fun x y H Q => ∃ p q xs, x = .ref p ∧ y = .ref q ∧ H p = some (.lst xs) ∧ H q = some (.lst []) ∧ Q (.bl (decide (xs ≠ []))) H) := by
  intro pins s σ H x y v u Q I rx ry h
  obtain ⟨p, q, xs, rfl, rfl, h1, h2, k⟩ := h
  cases rx
  cases ry
  obtain ⟨us, r1, t1, z1⟩ := I.list (SqL.of h1)
  obtain ⟨ws, r2, t2, z2⟩ := I.list (SqL.of h2)
  cases r2
  by_cases e : xs = []
  · subst e
    cases r1
    refine PySem.W.cmp_ofNotEq (SeqAt.RcNeAt.lists (e := fun _ => true) t1.isList t2.isList rfl hu (fun j a b => absurd a (by simp)) X.prog X.w X.xe _ (fin_bl I k ?_))
    simp
  · have hl := r1.length
    have hx : 0 < xs.length := List.length_pos_iff.mpr e
    refine PySem.W.cmp_ofNotEq (SeqAt.RcNeAt.lists_lengths t1.isList t2.isList (by simp; intro z; rw [z] at hl; simp at hl; exact e hl) hu X.prog X.w X.xe _ (fin_bl I k ?_))
    simp [e]
end
end L2

set_option Elab.async false
set_option linter.all false
set_option maxRecDepth 100000
set_option maxHeartbeats 4000000
namespace My
open PySem L2 MA
/-- sums of the first ones -/
def pre (l : List Int) (k : Nat) : Int := (l.take k).sum
theorem pre_zero (l : List Int) : pre l 0 = 0 := by simp [pre]
theorem pre_succ {l : List Int} {k : Nat} (h : k < l.length) : pre l (k + 1) = pre l k + l[k] := by
  unfold pre
  rw [List.take_succ_eq_append_getElem h, List.sum_append]
  simp
theorem pre_all {l : List Int} {k : Nat} (h : l.length ≤ k) : pre l k = l.sum := by unfold pre; rw [List.take_of_length_le h]
theorem pre_set {l : List Int} {i : Nat} (hi : i < l.length) (v : Int) : ∀ k, k ≤ l.length → pre (l.set i v) k = pre l k + if i < k then v - l[i] else 0
  | 0, _ => by simp [pre_zero]
  | k + 1, hk => by
    have ih := pre_set hi v k (by omega)
    rw [pre_succ (show k < (l.set i v).length by rw [List.length_set]; omega), pre_succ (show k < l.length by omega), ih, List.getElem_set]
    by_cases c : i = k
    · subst c
      rw [if_pos rfl, if_neg (by omega), if_pos (by omega)]
      omega
    · rw [if_neg c]
      by_cases d : i < k
      · rw [if_pos d, if_pos (by omega)]; omega
      · rw [if_neg d, if_neg (by omega)]; omega
end My

set_option Elab.async false
set_option linter.all false
set_option maxRecDepth 100000
set_option maxHeartbeats 4000000
namespace L2
open PySem PySem.Spec PyProof.Rows MA SeqAt
end L2

set_option Elab.async false
set_option linter.all false
set_option maxRecDepth 100000
set_option maxHeartbeats 4000000
namespace My
open PySem L2 MA
end My

set_option Elab.async false
set_option linter.all false
set_option maxRecDepth 100000
set_option maxHeartbeats 4000000
namespace My
open PySem L2 MA
end My

set_option Elab.async false
set_option linter.all false
set_option maxRecDepth 100000
set_option maxHeartbeats 4000000
namespace My
open PySem L2 MA
end My

set_option Elab.async false
set_option linter.all false
set_option maxRecDepth 100000
set_option maxHeartbeats 4000000
/-! ### min(xs, key=lambda x: ..), over a list or a tuple -/
namespace L2
open PySem PySem.Spec PyProof.Rows
end L2

set_option Elab.async false
set_option linter.all false
set_option maxRecDepth 100000
set_option maxHeartbeats 4000000
namespace L2
open PySem PySem.Spec PyProof.Rows
end L2

set_option Elab.async false
set_option linter.all false
set_option maxRecDepth 100000
set_option maxHeartbeats 4000000
/-! ### == and != of data: ints, texts, tuples and lists of them, nested -/
namespace L2
open PySem PySem.Spec PyProof.Rows MA SeqAt
end L2

set_option Elab.async false
set_option linter.all false
set_option maxRecDepth 100000
set_option maxHeartbeats 4000000
namespace PySem.SeqAt
open AutoSeq1 (wpAny_loadPart')
open MeetsSeq MeetsSeq2 MeetsSeq3 SeqRoads2
end PySem.SeqAt
namespace L2
open PySem PySem.Spec PyProof.Rows MA
end L2

set_option Elab.async false
set_option linter.all false
set_option maxRecDepth 100000
set_option maxHeartbeats 4000000
/-! ### methods and classes of the text -/
namespace L2
open PySem PySem.Spec PyProof.Rows
end L2

set_option Elab.async false
set_option linter.all false
set_option maxRecDepth 100000
set_option maxHeartbeats 4000000
namespace PyProof.Rows
open PySem
end PyProof.Rows
namespace L2
open PySem PySem.Spec PyProof.Rows MA
end L2

set_option Elab.async false
set_option linter.all false
set_option maxRecDepth 100000
set_option maxHeartbeats 4000000
/-! ### reversed(range(n)) -/
namespace L2
open PySem PySem.Spec PyProof.Rows
end L2

set_option Elab.async false
set_option linter.all false
set_option maxRecDepth 100000
set_option maxHeartbeats 4000000
/-! ### a def handed over, called in a try -/
namespace L2
open PySem PySem.Spec PyProof.Rows
end L2

set_option Elab.async false
set_option linter.all false
set_option maxRecDepth 100000
set_option maxHeartbeats 4000000
/-! ### a comprehension whose own names are seen by another one within it -/
namespace L2
open PySem PySem.Spec PyProof.Rows
end L2

set_option Elab.async false
set_option linter.all false
set_option maxRecDepth 100000
set_option maxHeartbeats 4000000
/-! ### rules that name their K: for use inside comprehensions -/
namespace L2
open PySem PySem.Spec PyProof.Rows
/-! walks of a clause, read with any goal -/
end L2

set_option Elab.async false
set_option linter.all false
set_option maxRecDepth 100000
set_option maxHeartbeats 4000000
/-! ### a law that names but one of the own errors (Unlike) -/
namespace My
open PySem L2 MA
end My

set_option Elab.async false
set_option linter.all false
set_option maxRecDepth 100000
set_option maxHeartbeats 4000000
/-! ### < of tuples -/
namespace PySem.SeqAt
open AutoSeq1 (wpAny_loadPart')
open MeetsSeq MeetsSeq2 MeetsSeq3
end PySem.SeqAt

set_option Elab.async false
set_option linter.all false
set_option maxRecDepth 100000
set_option maxHeartbeats 4000000
/-! ### sorting by comparisons that leave all as it is: the tree of the questions, walked by an order -/
namespace Srt
open PySem PySem.W PyProof.Rows
end Srt

set_option Elab.async false
set_option linter.all false
set_option maxRecDepth 100000
set_option maxHeartbeats 4000000
namespace Srt
open PySem PySem.W PyProof.Rows
/-! ### list.sort, sorted: fewer than 64 things, any order whose questions change nothing -/
end Srt

set_option Elab.async false
set_option linter.all false
set_option maxRecDepth 100000
set_option maxHeartbeats 4000000
namespace Srt
open PySem PySem.W PyProof.Rows
end Srt

set_option Elab.async false
set_option linter.all false
set_option maxRecDepth 100000
set_option maxHeartbeats 4000000
namespace DI
open PySem PySem.W PyProof.Rows
end DI

set_option Elab.async false
set_option linter.all false
set_option maxRecDepth 100000
set_option maxHeartbeats 4000000
namespace DI
open PySem PySem.W PyProof.Rows
end DI

set_option Elab.async false
set_option linter.all false
set_option maxRecDepth 100000
set_option maxHeartbeats 4000000
namespace L2
open PySem PySem.W PySem.Spec PyProof.Rows DI
/-! ### sorted(d), sorted(d.items()), list(d), sum(d.values()): d a dict whose keys are tuples -/
end L2

set_option Elab.async false
set_option linter.all false
set_option maxRecDepth 100000
set_option maxHeartbeats 4000000
namespace Srt
open PySem PySem.W PySem.Spec PyProof.Rows L2
/-! ### the order of tuples of ints -/
end Srt

set_option Elab.async false
set_option linter.all false
set_option maxRecDepth 100000
set_option maxHeartbeats 4000000
namespace L2
open PySem PySem.W PySem.Spec PyProof.Rows DI Srt
theorem paired_get {α β : Type} {F : α → β → Prop} {xs : List α} {ys : List β} (h : Paired F xs ys) : ∀ {j : Nat} {x : α}, xs[j]? = some x → ∃ y, ys[j]? = some y ∧ F x y := by
  induction h with
  | nil => intro j x e; simp at e
  | @cons a b as bs r t ih =>
    intro j x e
    cases j with
    | zero => simp at e; subst e; exact ⟨b, rfl, r⟩
    | succ j => simpa using ih (by simpa using e)
end L2

set_option Elab.async false
set_option linter.all false
set_option maxRecDepth 100000
set_option maxHeartbeats 4000000
namespace L2
open PySem PySem.W PySem.Spec PyProof.Rows DI Srt
/-! ### d.items(), d.values(): views, known by their object -/
end L2

set_option Elab.async false
set_option linter.all false
set_option maxRecDepth 100000
set_option maxHeartbeats 4000000
namespace L2
open PySem PySem.W PySem.Spec PyProof.Rows DI Srt
end L2

set_option Elab.async false
set_option linter.all false
set_option maxRecDepth 100000
set_option maxHeartbeats 4000000
namespace L2
open PySem PySem.W PySem.Spec PyProof.Rows DI Srt
end L2

set_option Elab.async false
set_option linter.all false
set_option maxRecDepth 100000
set_option maxHeartbeats 4000000
namespace L2
open PySem PySem.W PySem.Spec PyProof.Rows DI Srt
/-! ### walks whose yields are known: one set of readings for all iterators -/
structure Yields (J : It) (n : Nat) (f : Nat → Hp → V → Hp → Prop) (ok : Hp → Prop) : Prop where
  go : ∀ i H, i < n → ok H → J.go i H
  yld : ∀ i H x H', i < n → ok H → J.yld i H x H' → f i H x H'
  stop : ∀ H, ok H → J.stop n H
section
variable {J : It} {n : Nat} {f : Nat → Hp → V → Hp → Prop} {ok : Hp → Prop}
theorem for_Y (Y : Yields J n f ok) {g : TG} {tb : TS} {D : Ends} {σ : St} {H : Hp} (Pv : Nat → St → Hp → Prop) (h0 : Pv 0 σ H) (hok : ∀ i σ H, Pv i σ H → ok H)
    (hs : ∀ i x σ H H', i < n → Pv i σ H → f i H x H' → g x σ H' fun σ2 H2 => tb { D with nx := Pv (i + 1), ct := Pv (i + 1), bk := D.nx } σ2 H2) (hd : ∀ σ H, Pv n σ H → D.nx σ H) :
    ∃ W : Nat → Nat → St → Hp → Prop, (∃ m, W 0 m σ H) ∧ ∀ i m σ H, W i m σ H →
      (J.stop i H ∧ D.nx σ H) ∨ (J.go i H ∧ ∃ N : St → Hp → Prop, (∀ σ' H', N σ' H' → ∃ m', m' < m ∧ W (i + 1) m' σ' H') ∧ ∀ x H', J.yld i H x H' → g x σ H' fun σ2 H2 => tb { D with nx := N, ct := N, bk := D.nx } σ2 H2) := by
  refine ⟨fun i m σ H => m = n - i ∧ i ≤ n ∧ Pv i σ H, ⟨n, by simp, Nat.zero_le _, h0⟩, ?_⟩
  rintro i m σ H ⟨rfl, hi, p⟩
  have o := hok i σ H p
  by_cases hlt : i < n
  · exact .inr ⟨Y.go i H hlt o, Pv (i + 1), fun σ' H' p' => ⟨n - (i + 1), by omega, rfl, hlt, p'⟩, fun x H' y => hs i x σ H H' hlt p (Y.yld i H x H' hlt o y)⟩
  · have e : i = n := by omega
    subst e
    exact .inl ⟨Y.stop H o, hd σ H p⟩
/-- [e for x in ..] and [e for x in .. if c] -/
theorem comp_Y (Y : Yields J n f ok) {g : TG} {tc : TT} {te : TE} {H : Hp} {R : Addr → Hp → Prop} {σ1 : St} (Pv : Addr → Nat → List V → St → Hp → Prop) (hn : n ≤ 100000) (hp0 : ∀ p, H p = none → Pv p 0 [] σ1 (upd H p (.lst [])))
    (hok : ∀ p i ys σ' H', H p = none → Pv p i ys σ' H' → ok H')
    (hs : ∀ p i ys σ' H' x H'', H p = none → i < n → ys.length ≤ i → Pv p i ys σ' H' → H' p = some (.lst ys) → f i H' x H'' → ∀ (Q1 : V → St → Hp → Prop) (Q2 : St → Hp → Prop), (∀ v σ2 H5, H5 p = some (.lst ys) → Pv p (i + 1) (ys ++ [v]) σ2 (upd H5 p (.lst (ys ++ [v]))) → Q1 v σ2 H5) → (∀ σ2 H4, H4 p = some (.lst ys) → Pv p (i + 1) ys σ2 H4 → Q2 σ2 H4) →
      g x σ' H'' fun σ2 H3 => tc σ2 H3 fun b H4 => if b = true then te σ2 H4 fun v H5 => Q1 v σ2 H5 else Q2 σ2 H4)
    (q : ∀ p ys σ' H', H p = none → Pv p n ys σ' H' → H' p = some (.lst ys) → ys.length ≤ n → R p H') :
    ∀ p, H p = none → ∃ W : Nat → Nat → List V → St → Hp → Prop, (∃ m, W 0 m [] σ1 (upd H p (.lst []))) ∧ ∀ i m ys σ' H', W i m ys σ' H' →
      (J.stop i H' ∧ R p H') ∨ (J.go i H' ∧ ∀ x H2, J.yld i H' x H2 → g x σ' H2 fun σ2 H3 => tc σ2 H3 fun b H4 => if b = true then te σ2 H4 fun v H5 => ys.length < sizeLine ∧ H5 p = some (.lst ys) ∧ (∃ m', m' < m ∧ W (i + 1) m' (ys ++ [v]) σ2 (upd H5 p (.lst (ys ++ [v]))))
        else ∃ m', m' < m ∧ W (i + 1) m' ys σ2 H4) := by
  intro p hp
  refine ⟨fun i m ys σ' H' => m = n - i ∧ i ≤ n ∧ ys.length ≤ i ∧ Pv p i ys σ' H' ∧ H' p = some (.lst ys), ⟨n, by simp, Nat.zero_le _, Nat.zero_le _, hp0 p hp, upd_same⟩, ?_⟩
  rintro i m ys σ' H' ⟨rfl, hi, hl, pv, hp'⟩
  have o := hok p i ys σ' H' hp pv
  by_cases hlt : i < n
  · refine .inr ⟨Y.go i H' hlt o, fun x H2 y => hs p i ys σ' H' x H2 hp hlt hl pv hp' (Y.yld i H' x H2 hlt o y) _ _ (fun v σ2 H5 h5 pv5 => ⟨by rw [sizeLine_eq]; omega, h5, n - (i + 1), by omega, rfl, hlt, by simp; omega, pv5, upd_same⟩) fun σ2 H4 h4 pv4 => ⟨n - (i + 1), by omega, rfl, hlt, by omega, pv4, h4⟩⟩
  · have e : i = n := by omega
    subst e
    exact .inl ⟨Y.stop H' o, q p ys σ' H' hp pv hp' hl⟩
end
theorem yields_lst {K : PySem.W.Frag} {a : Addr} {xs : List V} : Yields (Itl K a) xs.length (fun i H x H' => H' = H ∧ xs[i]? = some x) (fun H => H a = some (.lst xs)) :=
  ⟨fun i H hi o => ⟨xs, xs[i], SqL.of o, by simp [hi]⟩, fun i H x H' hi o ⟨e, y⟩ => ⟨e, y xs (SqL.of o)⟩, fun H o => ⟨xs, SqL.of o, Nat.le_refl _⟩⟩
theorem yields_tup {K : PySem.W.Frag} {a : Addr} {xs : List V} : Yields (Itt K a) xs.length (fun i H x H' => H' = H ∧ xs[i]? = some x) (fun H => H a = some (.tup xs)) :=
  ⟨fun i H hi o => ⟨xs, xs[i], SqT.of o, by simp [hi]⟩, fun i H x H' hi o ⟨e, y⟩ => ⟨e, y xs (SqT.of o)⟩, fun H o => ⟨xs, SqT.of o, Nat.le_refl _⟩⟩
/-! ### a dict with tuples as keys, walked -/
end L2

set_option Elab.async false
set_option linter.all false
set_option maxRecDepth 100000
set_option maxHeartbeats 4000000
namespace L2
open PySem PySem.Spec PyProof.Rows
/-! ### dict comprehensions with tuples as keys -/
end L2

set_option Elab.async false
set_option linter.all false
set_option maxRecDepth 100000
set_option maxHeartbeats 4000000
namespace L2
open PySem PySem.W PySem.Spec PyProof.Rows DI Srt
/-! ### dict(a list of pairs), the keys tuples -/
def mergeT (kvs more : List (List Key × V)) : List (List Key × V) := more.foldl (fun acc kv => putK acc kv.1 kv.2) kvs
theorem length_mergeT : ∀ (more kvs : List (List Key × V)), (mergeT kvs more).length ≤ kvs.length + more.length
  | [], kvs => by show kvs.length ≤ kvs.length + 0; omega
  | p :: r, kvs => by
    have h1 := length_mergeT r (putK kvs p.1 p.2)
    have h2 := length_putK kvs p.1 p.2
    show (mergeT (putK kvs p.1 p.2) r).length ≤ _
    rw [List.length_cons]; omega
theorem mergeT_snoc (kvs more : List (List Key × V)) (kv : List Key × V) : mergeT kvs (more ++ [kv]) = putK (mergeT kvs more) kv.1 kv.2 := by unfold mergeT; rw [List.foldl_append]; rfl
/-- the rows are pairs of a key, a tuple, and a thing -/
abbrev RowsT (H : Hp) (ys : List V) (kvs : List (List Key × V)) : Prop := Paired (fun v (kv : List Key × V) => ∃ a b, v = .ref a ∧ H a = some (.tup [.ref b, kv.2]) ∧ H b = some (.tup (kv.1.map kV))) ys kvs
section
variable {X : Cx} {pins : List (Addr × Obj)} {σ : St} {A : Around} {R : Result → Shared → Prop} {it l d : Addr} {ys : List V} {kvs : List (List Key × V)} {H : Hp}
theorem dict_loopT (hh : A.in1.handled = none) (hu : A.in1.units < cLine) (hl : H l = some (.lst ys)) (hk : RowsT H ys kvs) (hz : ys.length ≤ 1000) (hdn : H d = none)
    (fin : ∀ s', Inv X pins σ (upd H d (.dT (mergeT [] kvs))) s' → R (.ok (.ret .none)) s') :
    ∀ (k i : Nat) (j : Int) (s : Shared), ys.length - i = k → i ≤ ys.length → s.heap.IsListIter it l i → Inv X pins σ (upd H d (.dT (mergeT [] (kvs.take i)))) s → FpOk X pins (upd H d (.dT (mergeT [] (kvs.take i)))) it →
      codeAny (model X.prog X.w) A (.builtin "dict.update.loop" ⟨[.ref d, .ref it, rawInt j, .none], []⟩) R s := by
  intro k
  have hlen : kvs.length = ys.length := (Paired.length hk).symm
  have nd : ∀ {b : Addr} {o u : HO}, H b = some o → upd H d u b = some o := fun {b o u} e => by rw [upd_ne (ne_of_none e hdn)]; exact e
  induction k with
  | zero =>
    intro i j s hk' hi st I f
    have hin : i = ys.length := by omega
    subst hin
    refine codeAny_builtin PySem.F.entry_dict_update_loop ?_
    rw [Around.under_plainId PySem.F.plain_dict_update_loop _]
    show wpAny _ A.in1 (pyNext (.ref it) >>= _) _ _ s
    obtain ⟨its, rv, p, _⟩ := I.list (SqL.of (K := X.K) (nd hl))
    have hil := rv.length
    refine wpAny_bind (wpAny_pyNext_list_end hh st p.isList (by simp; omega) fun h' eb => wpAny_bind (wpAny_pure (wpAny_pure ?_)))
    have e : kvs.take ys.length = kvs := by rw [← hlen, List.take_length]
    rw [e] at I
    exact fin _ (I.turned (t' := s.toks) (fun b o hb e => eb b o hb e) (by rw [e] at f; exact f.1) f.2.1 f.2.2.2.1 f.2.2.2.2.1 f.2.2.2.2.2)
  | succ k ih =>
    intro i j s hk' hi st I f
    have hlt : i < ys.length := by omega
    refine codeAny_builtin PySem.F.entry_dict_update_loop ?_
    rw [Around.under_plainId PySem.F.plain_dict_update_loop _]
    show wpAny _ A.in1 (pyNext (.ref it) >>= _) _ _ s
    obtain ⟨its, rv, p, _⟩ := I.list (SqL.of (K := X.K) (nd hl))
    have hyi : ys[i]? = some ys[i] := List.getElem?_eq_getElem hlt
    obtain ⟨u, hu', ru⟩ := rv.get hyi
    refine wpAny_bind (wpAny_pyNext_list_item st p.isList (x := u) (by simpa using hu') fun h' st' sb => ?_)
    have I1 : Inv X pins σ (upd H d (.dT (mergeT [] (kvs.take i)))) { s with heap := h' } := I.turned (t' := s.toks) (fun b o hb e => (sb.2 b hb).trans e) f.1 f.2.1 f.2.2.2.1 f.2.2.2.2.1 f.2.2.2.2.2
    obtain ⟨kv, hkv, a, b, ea, ha, hb⟩ := paired_get hk hyi
    rw [ea] at ru
    cases ru
    obtain ⟨us, r2, tu, _⟩ := I1.tuple (SqT.of (K := X.K) (nd (u := .dT (mergeT [] (kvs.take i))) ha))
    cases r2 with
    | cons rk rr => cases rr with
      | cons rv' rr =>
        cases rr; cases rk
        rename_i uv
        obtain ⟨⟨cls, dct, dat, sl⟩, ho, hc, n, hdd⟩ := id tu
        simp only at hc hdd
        subst hc hdd
        dsimp only
        refine wpAny_bind (wpAny_holding (wpAny_bind (wpAny_tryCatch ?_)))
        unfold Builtin.Dict.pairItems
        refine wpAny_bind (wpAny_typeOf (s := { s with heap := h' }) ⟨_, ho, rfl⟩ ?_)
        rw [if_pos (by decide)]
        refine wpAny_bind (wpAny_seqItems ho rfl (wpAny_pure ?_))
        show wpAny _ _ (holding [.ref b, uv] (dictSet d (.ref b) uv)) _ _ _
        obtain ⟨z, hd, xs, rel, dd⟩ := dt_of I1.hok (upd_same (H := H) (a := d))
        have hxl : xs.length ≤ sizeLine := by rw [← Paired.length rel]; exact z
        have ekey : (kvs.take (i + 1)) = kvs.take i ++ [kv] := by
          rw [List.take_succ, hkv]; rfl
        refine wpAny_holding (wpAny_dictSet_heap (knd := tupleKind (mixKind X.prog X.w)) hu (key_of I1.hok (nd hb)) dd (fun h2 dd' hs => ?_) hxl)
        obtain ⟨qo, es, ep, hq, h2', h3, h4, _, h5⟩ := dd'
        have hml := length_mergeT (kvs.take (i + 1)) []
        have I2 : Inv X pins σ (upd H d (.dT (mergeT [] (kvs.take (i + 1))))) { s with heap := h2, toks := s.toks + (tupleKind (mixKind X.prog X.w)).draws kv.1 } := by
          have := d_write (t' := s.toks + (tupleKind (mixKind X.prog X.w)).draws kv.1) (ob := .dT (putK (mergeT [] (kvs.take i)) kv.1 kv.2)) I1 (by rw [upd_same]; exact True.intro) hs ⟨qo, hq⟩ ⟨?_, hd, _, (rel.put kv.1 (nd hb) rv').keeps fun c ys ec => ?_, qo, es, ep, hq, h2', h3, h4, h5⟩
          · rw [upd_upd] at this
            rw [ekey, mergeT_snoc]; exact this
          · rw [← mergeT_snoc, ← ekey]
            rw [List.length_take, List.length_nil] at hml
            rw [sizeLine_eq]; omega
          · have hc : c ≠ d := by intro z; subst z; rw [upd_same] at ec; cases ec
            rw [upd_ne hc]; exact ec
        refine wpAny_pure ⟨plainId_quiet PySem.F.plain_dict_update_loop _, ih (i + 1) _ _ (by omega) hlt ?_ I2 ?_⟩
        · have hid : it ≠ d := by intro z; subst z; have := f.1; rw [upd_same] at this; cases this
          exact st'.at fun o e => hs.extBut it o hid e
        · have hid : it ≠ d := by intro z; subst z; have := f.1; rw [upd_same] at this; cases this
          exact ⟨by rw [upd_ne hid]; have := f.1; rwa [upd_ne hid] at this, f.2⟩
theorem call_dictT (hc : X.calm = true) (hu : X.A.units + 3 < cLine) : CallR X (.type "dict") (fun xs H Q => ∃ (l : Addr) (ys : List V) (kvs : List (List Key × V)), xs = [.ref l] ∧ H l = some (.lst ys) ∧ RowsT H ys kvs ∧ ys.length ≤ 1000 ∧ ∀ p, H p = none → Q (.ref p) (upd H p (.dT (mergeT [] kvs)))) := by
  intro pins s σ H xs us Q I r h
  obtain ⟨l, ys, kvs, rfl, hl, hk, hz, q⟩ := h
  obtain ⟨u, rfl, rx⟩ := vals1 r
  cases rx
  have hn := I.hok.fresh (Nat.le_refl s.heap.objs.size)
  refine callType_codes (Q₁ := fun obj s₁ => obj = .ref s.heap.objs.size ∧ s₁ = { s with heap := s.heap.push { cls := .type "dict", data := .dict #[] } }) PySem.F.kt_called_dict (PySem.F.kt_typeCall_dict_1 _) PySem.F.entry_dict_init (kt_code_dict_new _ ⟨rfl, rfl⟩) ?_
  rintro obj s₁ ⟨rfl, rfl⟩
  have I1 := I.laid (a := s.heap.objs.size) (o := .dT []) (h' := s.heap.push { cls := .type "dict", data := .dict #[] }) (t' := s.toks) (fun _ _ q => Heap.get?_push_of_some _ q) (Nat.le_refl _) (dt_empty s.heap I.big)
  have hT0 : Shared.TypeIs { s with heap := s.heap.push { cls := .type "dict", data := .dict #[] } } (.ref s.heap.objs.size) "dict" := ⟨_, Heap.get?_push_size _ rfl, rfl⟩
  obtain ⟨_, its, n, rv, ho⟩ := (show ObjOk X.prog X.w H s.heap l (.lst ys) from I.hok l _ hl)
  have ho' : (s.heap.push { cls := .type "dict", data := .dict #[] }).get? l = some { cls := .type "list", data := .seq its.toArray n } := Heap.get?_push_of_some _ ho
  refine ⟨hT0, PySem.F.args_dict_init_2 _ _, ?_⟩
  unfold Builtin.«dict.__init__»
  refine wpAny_bind ?_
  unfold Builtin.Dict.selfAndRest
  refine wpAny_bind (wpAny_notOrdered_dict hT0 ?_)
  show wpAny _ _ (pure (s.heap.objs.size, [Value.ref l])) _ _ _
  refine wpAny_pure ?_
  show wpAny _ _ (Builtin.Dict.updateFrom "dict.__init__" s.heap.objs.size (.ref l) [] .none) _ _ _
  unfold Builtin.Dict.updateFrom
  refine wpAny_bind (wpAny_typeOf ⟨_, ho', rfl⟩ ?_)
  rw [if_pos (by decide)]
  refine wpAny_bind (no_keys_list ho' rfl rfl rfl (by simpa using I.ok.hd hc) fun h1 tk1 k1 => ?_)
  simp only [Option.isNone_none, if_true]
  refine wpAny_bind (wpAny_rule ?_)
  have I2 : Inv X pins σ (upd H s.heap.objs.size (.dT [])) { s with heap := h1, toks := tk1 } := I1.kept (t' := tk1) k1
  refine wpAny_bind (wpAny_pyIter_list (items := its.toArray) ⟨_, k1 _ _ ho', rfl, n, rfl⟩ (wpAny_pure ⟨plainId_quiet PySem.F.plain_dict_update_loop _, ?_⟩))
  refine dict_loopT (X := X) (pins := pins) (σ := σ) (H := H) (ys := ys) (kvs := kvs) (l := l) (by simpa using I.ok.hd hc) (by show X.A.units + 1 + 1 < cLine; omega) hl hk hz hn (fun s' I' => ⟨rfl, .ref s.heap.objs.size, _, I', rfl, q _ hn⟩) (ys.length - 0) 0 0 _ (by omega) (Nat.zero_le _) ⟨_, Heap.get?_push_size _ rfl, rfl, rfl⟩ (I2.kept (t' := tk1) fun b o e => Heap.get?_push_of_some _ e) ?_
  exact I2.fpOk (Nat.le_refl _) (I2.hok.fresh (Nat.le_refl _))
end
end L2

set_option Elab.async false
set_option linter.all false
set_option maxRecDepth 100000
set_option maxHeartbeats 1000000
namespace L2
open PySem PySem.Spec PyProof.Rows Srt
/-! ### tables: tuples of ints with ints -/
/-! ### in order -/
end L2

set_option Elab.async false
set_option linter.all false
set_option maxRecDepth 100000
set_option maxHeartbeats 1000000
namespace L2
open PySem PySem.Spec PyProof.Rows Srt
theorem hu3_of {A : Around} {k : Nat} (hr : Room k A) : A.units + 3 < cLine := by have := hr.un; omega
end L2

set_option Elab.async false
set_option linter.all false
set_option maxRecDepth 100000
set_option maxHeartbeats 1000000
namespace L2
open PySem PySem.Spec PyProof.Rows Srt
end L2
namespace L2
open PySem PySem.Spec PyProof.Rows Srt
/-! ### walks without a K: for the second clause of a comprehension -/
end L2

set_option Elab.async false
set_option linter.all false
set_option maxRecDepth 100000
set_option maxHeartbeats 4000000
/-! ### a table of defs -/
namespace L2
open PySem PySem.Spec PyProof.Rows
end L2

set_option Elab.async false
set_option linter.all false
set_option maxRecDepth 100000
set_option maxHeartbeats 400000
/-! ### repr of any data: a list may hold a dict -/
namespace L2
open PySem PySem.Spec PyProof.Rows
theorem sh_list (ds : List PyData) : (PyData.list ds).shown = listText (PyData.shownAll ds) := by simp only [PyData.shown]
theorem sh_tuple (ds : List PyData) : (PyData.tuple ds).shown = tupleText (PyData.shownAll ds) := by simp only [PyData.shown]
theorem sh_dict (ps : List (PyData × PyData)) : (PyData.dict ps).shown = dictText (PyData.shownKv ps) := by simp only [PyData.shown]
theorem shownAll_len : ∀ ds : List PyData, (PyData.shownAll ds).length = ds.length
  | [] => rfl
  | d :: ds => by simp [PyData.shownAll, shownAll_len ds]
mutual
theorem reprK_of {P : Program} {w : World} {H : Hp} {h : Heap} (ok : HOk P w H h) : ∀ {v : V} {d : PyData} {u : Value}, DataV H v d → RelV v u → d.showable = true → d.shown.length ≤ sizeLine → ∃ bs, ReadAtMost h d.depth bs ∧ ReprK P w bs h d.depth u d.shown
  | _, _, _, .non, r, sh, ln => by cases r; exact ReprK.of_reads .none sh (fun z => by cases z) ln
  | _, _, _, .bl b, r, sh, ln => by cases r; exact ReprK.of_reads (.bool b) sh (fun z => by cases z) ln
  | _, _, _, .int i, r, sh, ln => by obtain ⟨t, rfl⟩ := r; exact ReprK.of_reads (.int i t) sh (fun z => by cases z) ln
  | _, _, _, .str x, r, sh, ln => by obtain ⟨t, rfl⟩ := r; exact ReprK.of_reads (.str x t) sh (fun z => by cases z) ln
  | _, _, _, .lst (a := a) (xs := xs) (ds := ds) ha hd, r, sh, ln => by
    have rd := reads_of ok (DataV.lst ha hd) r
    obtain ⟨as, rd, _⟩ := rd
    cases r
    obtain ⟨_, its, n, rv, e⟩ := ok a _ ha
    rw [sh_list] at ln ⊢
    obtain ⟨bs, rm, ra⟩ := reprAllK_of ok hd rv (by simpa [PyData.showable] using sh) fun t ht => Nat.le_trans (listText_mem_le ht) ln
    have na : a ∉ bs := not_mem_of_deeper rd (by show PyData.depthAll ds < PyData.depthAll ds + 1; omega) rm
    have rm2 : ReadAtMost h (PyData.list ds).depth (a :: bs) := ReadAtMost.cons rd (by show PyData.depthAll ds ≤ PyData.depthAll ds + 1; omega) rm
    refine ⟨a :: bs, rm2, ?_⟩
    cases its with
    | nil =>
      have : ds = [] := by
        have h1 := hd.length
        have h2 := rv.length
        rw [List.length_nil] at h2
        exact List.length_eq_zero_iff.mp (by omega)
      subst this
      exact ReprK.listEmpty e rfl rfl
    | cons x l =>
      refine ReprK.list e rfl rfl na ?_ fun i y hy => ra.item i y (by simpa using hy)
      rw [shownAll_len]
      rw [← hd.length, rv.length, List.size_toArray]
  | _, _, _, .tup (a := a) (xs := xs) (ds := ds) ha hd, r, sh, ln => by
    obtain ⟨as, rd, _⟩ := reads_of ok (DataV.tup ha hd) r
    cases r
    obtain ⟨_, its, rv, o, e, hc, n, hdt, _⟩ := ok a _ ha
    rw [sh_tuple] at ln ⊢
    obtain ⟨bs, rm, ra⟩ := reprAllK_of ok hd rv (by simpa [PyData.showable] using sh) fun t ht => Nat.le_trans (tupleText_mem_le ht) ln
    have na : a ∉ bs := not_mem_of_deeper rd (by show PyData.depthAll ds < PyData.depthAll ds + 1; omega) rm
    exact ⟨a :: bs, ReadAtMost.cons rd (by show PyData.depthAll ds ≤ PyData.depthAll ds + 1; omega) rm, ReprK.tuple e hc hdt na (by simpa using ra)⟩
  | _, _, _, .dict (a := a) (kvs := kvs) (ps := ps) ha hk hv, r, sh, ln => by
    obtain ⟨as, rd, _⟩ := reads_of ok (DataV.dict ha hk hv) r
    cases r
    obtain ⟨_, hm, vs, rv, o, es, ep, e, hx, hdt, _, hp, _⟩ := ok a _ ha
    obtain ⟨rk, rvv⟩ := pairs_split hp rv
    rw [sh_dict] at ln ⊢
    have sh' : PyData.showableKv ps = true := by simpa only [PyData.showable] using sh
    obtain ⟨sh1, sh2⟩ := PyData.showableKv_split ps sh'
    obtain ⟨b1, m1, k1⟩ := reprAllK_of ok hk rk sh1 fun t ht => by
      obtain ⟨q, hq, l⟩ := PyData.shownKv_key_le ps t ht
      exact Nat.le_trans l (Nat.le_trans (dictText_mem_le hq) ln)
    obtain ⟨b2, m2, k2⟩ := reprAllK_of ok hv rvv sh2 fun t ht => by
      obtain ⟨q, hq, l⟩ := PyData.shownKv_val_le ps t ht
      exact Nat.le_trans l (Nat.le_trans (dictText_mem_le hq) ln)
    have d1 := PyData.depthAll_keys_le ps
    have d2 := PyData.depthAll_vals_le ps
    have dd : (PyData.dict ps).depth = PyData.depthKv ps + 1 := by simp only [PyData.depth]
    have rm : ReadAtMost h (PyData.depthKv ps) (b1 ++ b2) := (m1.mono d1).append (m2.mono d2)
    have na : a ∉ b1 ++ b2 := not_mem_of_deeper rd (by rw [dd]; omega) rm
    have en := ReprEntriesK.of_two es.toList _ _ (k1.more_le (fun b hb => List.mem_append_left b2 hb) d1) (k2.more_le (fun b hb => List.mem_append_right b1 hb) d2)
    rw [← PyData.shownKv_eq] at en
    have kk := ReprK.dict e hx.1 hdt hm na en
    rw [dd]
    refine ⟨a :: (b1 ++ b2), ?_, kk⟩
    have := ReadAtMost.cons rd (by rw [dd]; omega) rm
    rwa [dd] at this
theorem reprAllK_of {P : Program} {w : World} {H : Hp} {h : Heap} (ok : HOk P w H h) : ∀ {vs : List V} {ds : List PyData} {us : List Value}, DataL H vs ds → Vals vs us → PyData.showableAll ds = true → (∀ t ∈ PyData.shownAll ds, t.length ≤ sizeLine) → ∃ bs, ReadAtMost h (PyData.depthAll ds) bs ∧ ReprAllK P w bs h (PyData.depthAll ds) us (PyData.shownAll ds)
  | _, _, _, .nil, r, _, _ => by cases r; exact ⟨[], fun b hb => by simp at hb, .nil⟩
  | _, _, _, .cons (d := d) (ds := ds) hx hd, r, sh, ln => by
    cases r with
    | cons r1 r2 =>
      simp only [PyData.showableAll, Bool.and_eq_true] at sh
      obtain ⟨as, m1, k1⟩ := reprK_of ok hx r1 sh.1 (ln _ (by simp [PyData.shownAll]))
      obtain ⟨bs, m2, k2⟩ := reprAllK_of ok hd r2 sh.2 fun t ht => ln t (by simp [PyData.shownAll, ht])
      have d1 : d.depth ≤ PyData.depthAll (d :: ds) := by simp only [PyData.depthAll]; omega
      have d2 : PyData.depthAll ds ≤ PyData.depthAll (d :: ds) := by simp only [PyData.depthAll]; omega
      refine ⟨as ++ bs, (m1.mono d1).append (m2.mono d2), ?_⟩
      simp only [PyData.shownAll]
      exact .cons ((k1.level_le d1).more fun b hb => List.mem_append_left _ hb) (k2.more_le (fun b hb => List.mem_append_right _ hb) d2)
end
section
variable {X : Cx}
/-- repr(x), x any data -/
def rReprD : List V → Hp → VK → Prop := fun xs H Q => ∃ v d, xs = [v] ∧ DataV H v d ∧ d.showable = true ∧ d.depth ≤ 20 ∧ d.shown.length ≤ sizeLine ∧ Q (.str d.shown) H
theorem call_reprD {k : Nat} (hr : Room k X.A) : CallR X (.builtin "repr") rReprD := by
  intro pins s σ H xs us Q I r h
  obtain ⟨v, d, rfl, hd, hs, hdp, hz, q⟩ := h
  by_cases hl : d.hasDict = true → lists d = false
  · exact call_repr hr pins s σ H [v] us Q I r ⟨v, d, rfl, hd, hs, hl, hdp, hz, q⟩
  obtain ⟨u, rfl, ru⟩ := vals1 r
  have fin : ∀ h' u tk, (∀ b o, s.heap.get? b = some o → h'.get? b = some o) → EP X pins σ Q (.str d.shown u) { s with heap := h', toks := tk } := fun h' u tk hk =>
    ⟨.str d.shown, H, I.kept (t' := tk) hk, ⟨u, rfl⟩, q⟩
  have ok := I.hok
  cases hd with
  | @lst a ys ds ha hx =>
    cases ru
    obtain ⟨as, rd, _⟩ := reads_of ok (DataV.lst ha hx) (show RelV (.ref a) (.ref a) from rfl)
    obtain ⟨_, its, n, rv, e⟩ := ok a _ ha
    rw [sh_list] at hz fin
    obtain ⟨bs, rm, ra⟩ := reprAllK_of ok hx rv (by simpa [PyData.showable] using hs) fun t ht => Nat.le_trans (listText_mem_le ht) hz
    have na : a ∉ bs := not_mem_of_deeper rd (by show PyData.depthAll ds < PyData.depthAll ds + 1; omega) rm
    have hdp' : PyData.depthAll ds + 1 ≤ 20 := hdp
    cases its with
    | nil =>
      exfalso
      have h1 := hx.length
      have h2 := rv.length
      rw [List.length_nil] at h2
      have : ds = [] := List.length_eq_zero_iff.mp (by omega)
      subst this
      exact hl fun z => by cases z
    | cons x l =>
      refine call_repr_slot (by have := hr.un; omega) ⟨_, e, rfl⟩ ⟨PySem.F.slot_list_repr.lookup, PySem.F.slot_list_repr.bind, PySem.F.slot_list_repr.check⟩ ?_
      refine call_list_reprK e rfl rfl na ?_ (fun i y hy => ra.item i y (by simpa using hy)) (g := []) hr.gd (fun b _ id v rest kw z => by simp at z) ?_ (fun _ _ e => e) (fun h' u tk hk => ⟨_, _, rfl, fin h' u tk hk⟩) hz
      · rw [shownAll_len, ← hx.length, rv.length, List.size_toArray]
      · show X.A.in1.units + _ < cLine
        have := hr.un
        have e1 : X.A.in1.units = X.A.units + 1 := rfl
        omega
  | @tup a ys ds ha hx =>
    cases ru
    obtain ⟨as, rd, _⟩ := reads_of ok (DataV.tup ha hx) (show RelV (.ref a) (.ref a) from rfl)
    obtain ⟨_, its, rv, o, e, hc, n, hdt, _⟩ := ok a _ ha
    rw [sh_tuple] at hz fin
    obtain ⟨bs, rm, ra⟩ := reprAllK_of ok hx rv (by simpa [PyData.showable] using hs) fun t ht => Nat.le_trans (tupleText_mem_le ht) hz
    have na : a ∉ bs := not_mem_of_deeper rd (by show PyData.depthAll ds < PyData.depthAll ds + 1; omega) rm
    have hdp' : PyData.depthAll ds + 1 ≤ 20 := hdp
    refine call_repr_slot (by have := hr.un; omega) ⟨_, e, hc⟩ PySem.F.slot_tuple_repr ?_
    refine call_tuple_reprK e hc hdt na (by simpa using ra) (g := []) hr.gd (fun b _ id v rest kw z => by simp at z) ?_ (fun _ _ e => e) (fun h' u tk hk => ⟨_, _, rfl, fin h' u tk hk⟩) hz
    show X.A.in1.units + _ < cLine
    have := hr.un
    have e1 : X.A.in1.units = X.A.units + 1 := rfl
    omega
  | @dict a kvs ps ha hk hv =>
    cases ru
    obtain ⟨as, rd, _⟩ := reads_of ok (DataV.dict ha hk hv) (show RelV (.ref a) (.ref a) from rfl)
    obtain ⟨_, hm, vs, rv, o, es, ep, e, hx, hdt, _, hp, _⟩ := ok a _ ha
    obtain ⟨rk, rvv⟩ := pairs_split hp rv
    rw [sh_dict] at hz fin
    obtain ⟨sh1, sh2⟩ := PyData.showableKv_split ps (by simpa only [PyData.showable] using hs)
    obtain ⟨b1, m1, k1⟩ := reprAllK_of ok hk rk sh1 fun t ht => by
      obtain ⟨q, hq, l⟩ := PyData.shownKv_key_le ps t ht
      exact Nat.le_trans l (Nat.le_trans (dictText_mem_le hq) hz)
    obtain ⟨b2, m2, k2⟩ := reprAllK_of ok hv rvv sh2 fun t ht => by
      obtain ⟨q, hq, l⟩ := PyData.shownKv_val_le ps t ht
      exact Nat.le_trans l (Nat.le_trans (dictText_mem_le hq) hz)
    have d1 := PyData.depthAll_keys_le ps
    have d2 := PyData.depthAll_vals_le ps
    have dd : (PyData.dict ps).depth = PyData.depthKv ps + 1 := by simp only [PyData.depth]
    have rm : ReadAtMost s.heap (PyData.depthKv ps) (b1 ++ b2) := (m1.mono d1).append (m2.mono d2)
    have na : a ∉ b1 ++ b2 := not_mem_of_deeper rd (by rw [dd]; omega) rm
    have en := ReprEntriesK.of_two es.toList _ _ (k1.more_le (fun b hb => List.mem_append_left b2 hb) d1) (k2.more_le (fun b hb => List.mem_append_right b1 hb) d2)
    rw [← PyData.shownKv_eq] at en
    rw [dd] at hdp
    refine call_repr_slot (by have := hr.un; omega) ⟨_, e, hx.1⟩ PySem.F.slot_dict_repr ?_
    refine call_dict_reprK e hx.1 hdt hm na en (g := []) hr.gd (fun b _ id v rest kw z => by simp at z) ?_ (fun _ _ e => e) (fun h' u tk hk => ⟨_, _, rfl, fin h' u tk hk⟩) hz
    show X.A.in1.units + _ < cLine
    have := hr.un
    have e1 : X.A.in1.units = X.A.units + 1 := rfl
    omega
  | _ => exact absurd (fun z => by cases z) hl
end
end L2

set_option Elab.async false
set_option linter.all false
set_option maxRecDepth 100000
set_option maxHeartbeats 400000
/-! ### repr of a dict whose keys are tuples -/
namespace L2
open PySem PySem.Spec PyProof.Rows
def kD : Key → PyData
  | .inl i => .int i
  | .inr x => .str x
theorem kD_data {H : Hp} : ∀ k : Key, DataV H (kV k) (kD k)
  | .inl i => .int i
  | .inr x => .str x
theorem kD_all {H : Hp} : ∀ ks : List Key, DataL H (ks.map kV) (ks.map kD)
  | [] => .nil
  | k :: ks => .cons (kD_data k) (kD_all ks)
/-- a dict with tuples as keys, as data -/
def DictT (H : Hp) (v : V) (d : PyData) : Prop := ∃ (a : Addr) (kvs : List (List Key × V)) (ps : List (PyData × PyData)), v = .ref a ∧ d = .dict ps ∧ H a = some (.dT kvs) ∧ ps.map (·.1) = kvs.map (fun p => .tuple (p.1.map kD)) ∧ DataL H (kvs.map (·.2)) (ps.map (·.2))
/-- data, or a dict with tuples as keys -/
def DataT (H : Hp) (v : V) (d : PyData) : Prop := DataV H v d ∨ DictT H v d
theorem kt_split {H : Hp} {M : List Key → Addr → Value → DictEntry} : ∀ {kvs : List (List Key × V)} {xs : List (List Key × Addr × Value)}, Paired (fun (p : List Key × V) (q : List Key × Addr × Value) => p.1 = q.1 ∧ H q.2.1 = some (.tup (p.1.map kV)) ∧ RelV p.2 q.2.2) kvs xs →
    DataL H (xs.map fun q => .ref q.2.1) (kvs.map fun p => .tuple (p.1.map kD)) ∧ Vals (xs.map fun q => V.ref q.2.1) (xs.map fun q => Value.ref q.2.1) ∧ Vals (kvs.map (·.2)) (xs.map fun q => q.2.2) := by
  intro kvs xs h
  induction h with
  | nil => exact ⟨.nil, .nil, .nil⟩
  | @cons p q ps qs h1 _ ih =>
    obtain ⟨i1, i2, i3⟩ := ih
    exact ⟨.cons (.tup h1.2.1 (kD_all _)) i1, .cons rfl i2, .cons h1.2.2 i3⟩
section
variable {X : Cx}
def rReprT : List V → Hp → VK → Prop := fun xs H Q => ∃ v d, xs = [v] ∧ DataT H v d ∧ d.showable = true ∧ d.depth ≤ 20 ∧ d.shown.length ≤ sizeLine ∧ Q (.str d.shown) H
theorem call_reprT {k : Nat} (hr : Room k X.A) : CallR X (.builtin "repr") rReprT := by
  intro pins s σ H xs us Q I r h
  obtain ⟨v, d, rfl, hd, hs, hdp, hz, q⟩ := h
  rcases hd with hd | hd
  · exact call_reprD hr pins s σ H [v] us Q I r ⟨v, d, rfl, hd, hs, hdp, hz, q⟩
  obtain ⟨a, kvs, ps, rfl, rfl, ha, hk, hv⟩ := hd
  obtain ⟨u, rfl, ru⟩ := vals1 r
  have fin : ∀ h' u tk, (∀ b o, s.heap.get? b = some o → h'.get? b = some o) → EP X pins σ Q (.str (PyData.dict ps).shown u) { s with heap := h', toks := tk } := fun h' u tk hk =>
    ⟨.str (PyData.dict ps).shown, H, I.kept (t' := tk) hk, ⟨u, rfl⟩, q⟩
  have ok := I.hok
  cases ru
  obtain ⟨_, hm, xs, rx, o, es, ep, e, hx, hdt, hes, _⟩ := ok a _ ha
  obtain ⟨dk, vk, vv⟩ := kt_split (M := fun _ _ _ => default) rx
  rw [← hk] at dk
  have ek : es.toList.map (·.key) = xs.map fun q => Value.ref q.2.1 := by rw [hes, List.map_map]; rfl
  have ev : es.toList.map (·.val) = xs.map fun q => q.2.2 := by rw [hes, List.map_map]; rfl
  rw [← ek] at vk
  rw [← ev] at vv
  rw [sh_dict] at hz fin
  obtain ⟨sh1, sh2⟩ := PyData.showableKv_split ps (by simpa only [PyData.showable] using hs)
  obtain ⟨as1, r1, _⟩ := readsAll_of ok dk vk
  obtain ⟨as2, r2, _⟩ := readsAll_of ok hv vv
  have rd : Reads s.heap (.ref a) (.dict ps) (a :: as1 ++ as2) := .dict e hx.1 hdt r1 r2
  obtain ⟨b1, m1, k1⟩ := reprAllK_of ok dk vk sh1 fun t ht => by
    obtain ⟨q, hq, l⟩ := PyData.shownKv_key_le ps t ht
    exact Nat.le_trans l (Nat.le_trans (dictText_mem_le hq) hz)
  obtain ⟨b2, m2, k2⟩ := reprAllK_of ok hv vv sh2 fun t ht => by
    obtain ⟨q, hq, l⟩ := PyData.shownKv_val_le ps t ht
    exact Nat.le_trans l (Nat.le_trans (dictText_mem_le hq) hz)
  have d1 := PyData.depthAll_keys_le ps
  have d2 := PyData.depthAll_vals_le ps
  have dd : (PyData.dict ps).depth = PyData.depthKv ps + 1 := by simp only [PyData.depth]
  have rm : ReadAtMost s.heap (PyData.depthKv ps) (b1 ++ b2) := (m1.mono d1).append (m2.mono d2)
  have na : a ∉ b1 ++ b2 := not_mem_of_deeper rd (by rw [dd]; omega) rm
  have en := ReprEntriesK.of_two es.toList _ _ (k1.more_le (fun b hb => List.mem_append_left b2 hb) d1) (k2.more_le (fun b hb => List.mem_append_right b1 hb) d2)
  rw [← PyData.shownKv_eq] at en
  rw [dd] at hdp
  refine call_repr_slot (by have := hr.un; omega) ⟨_, e, hx.1⟩ PySem.F.slot_dict_repr ?_
  refine call_dict_reprK e hx.1 hdt hm na en (g := []) hr.gd (fun b _ id v rest kw z => by simp at z) ?_ (fun _ _ e => e) (fun h' u tk hk => ⟨_, _, rfl, fin h' u tk hk⟩) hz
  show X.A.in1.units + _ < cLine
  have := hr.un
  have e1 : X.A.in1.units = X.A.units + 1 := rfl
  omega
end
/-- the type of data: it is a list, or it is none -/
theorem tyLT {K : PySem.W.Frag} {H : Hp} {v : V} {d : PyData} (h : DataT H v d) : ∃ t, TyOf K H v (.type t) ∧ PySem.W.kitOne K (.type t) (.type "list") = some (My.tyL d) := by
  rcases h with h | ⟨a, kvs, ps, rfl, rfl, ha, _, _⟩
  · obtain ⟨t, h1, _, _, _, h2⟩ := My.tyOf (K := K) h
    exact ⟨t, h1, h2⟩
  · exact ⟨_, .dT ha, rfl⟩
end L2
namespace My
open PySem L2
theorem DataT.same {H H' : Hp} {v : V} {d : PyData} (h : DataT H v d) (s : Same H H') : DataT H' v d := by
  rcases h with h | ⟨a, kvs, ps, h1, h2, h3, h4, h5⟩
  · exact .inl (h.same s)
  · exact .inr ⟨a, kvs, ps, h1, h2, s _ _ h3, h4, h5.same s⟩
end My

set_option Elab.async false
set_option linter.all false
set_option maxRecDepth 100000
set_option maxHeartbeats 4000000
namespace My
open PySem L2 MA
def top (i : Nat) : Stmt := PySem.Challenge.pw_emptierbox_k12_moves_looked_at.main.body.getD i (.Pass ⟨0, 0, 0, 0⟩)
abbrev s_is_whole : Stmt := top 4
theorem sc_is_whole : FnScope ["thing"] ["thing"] (defScope s_is_whole) := ⟨rfl, rfl, rfl, by decide +kernel, rfl, by decide +kernel, by decide +kernel⟩
abbrev s_is_two_places : Stmt := top 5
theorem sc_is_two_places : FnScope ["thing", "many"] ["thing", "many"] (defScope s_is_two_places) := ⟨rfl, rfl, rfl, by decide +kernel, rfl, by decide +kernel, by decide +kernel⟩
abbrev s_falling : Stmt := top 7
theorem sc_falling : FnScope ["numbers"] ["numbers"] (defScope s_falling) := ⟨rfl, rfl, rfl, by decide +kernel, rfl, by decide +kernel, by decide +kernel⟩
abbrev s_ask_alike : Stmt := top 9
theorem sc_ask_alike : FnScope ["one", "other"] ["one", "other"] (defScope s_ask_alike) := ⟨rfl, rfl, rfl, by decide +kernel, rfl, by decide +kernel, by decide +kernel⟩
abbrev s_can_move : Stmt := top 10
theorem sc_can_move : FnScope ["load", "thing"] ["load", "thing"] (defScope s_can_move) := ⟨rfl, rfl, rfl, by decide +kernel, rfl, by decide +kernel, by decide +kernel⟩
abbrev s_moved : Stmt := top 11
theorem sc_moved : FnScope ["load", "move", "numbers"] ["load", "move"] (defScope s_moved) := ⟨rfl, rfl, rfl, by decide +kernel, rfl, by decide +kernel, by decide +kernel⟩
abbrev s_lets_moves : Stmt := top 12
theorem sc_lets_moves : FnScope ["one", "other", "thing", "load", "move"] ["one", "other", "thing"] (defScope s_lets_moves) := ⟨rfl, rfl, rfl, by decide +kernel, rfl, by decide +kernel, by decide +kernel⟩
abbrev s_l_pen : Stmt := top 14
theorem sc_l_pen : FnScope ["_law_script"] ["_law_script"] (defScope s_l_pen) := ⟨rfl, rfl, rfl, by decide +kernel, rfl, by decide +kernel, by decide +kernel⟩
abbrev s_l_draw : Stmt := top 15
theorem sc_l_draw : FnScope ["_law_pen_here", "_law_many", "_law_at", "_law_cell", "_law_prime", "_law_number", "_law_found"] ["_law_pen_here", "_law_many"] (defScope s_l_draw) := ⟨rfl, rfl, rfl, by decide +kernel, rfl, by decide +kernel, by decide +kernel⟩
abbrev s_l_is_whole : Stmt := top 16
theorem sc_l_is_whole : FnScope ["_law_thing_here"] ["_law_thing_here"] (defScope s_l_is_whole) := ⟨rfl, rfl, rfl, by decide +kernel, rfl, by decide +kernel, by decide +kernel⟩
abbrev s_l_tells : Stmt := top 17
theorem sc_l_tells : FnScope ["_law_found", "_law_due"] ["_law_found", "_law_due"] (defScope s_l_tells) := ⟨rfl, rfl, rfl, by decide +kernel, rfl, by decide +kernel, by decide +kernel⟩
abbrev s_l_load : Stmt := top 18
theorem sc_l_load : FnScope ["_law_pen_here", "_law_most", "_law_way", "_law_n", "_law_numbers"] ["_law_pen_here", "_law_most"] (defScope s_l_load) := ⟨rfl, rfl, rfl, by decide +kernel, rfl, by decide +kernel, by decide +kernel⟩
abbrev s_l_moved : Stmt := top 19
theorem sc_l_moved : FnScope ["_law_load_here", "_law_i", "_law_j", "_law_numbers"] ["_law_load_here", "_law_i", "_law_j"] (defScope s_l_moved) := ⟨rfl, rfl, rfl, by decide +kernel, rfl, by decide +kernel, by decide +kernel⟩
abbrev s_l_can : Stmt := top 20
theorem sc_l_can : FnScope ["_law_load_here", "_law_found", "_law_i"] ["_law_load_here"] (defScope s_l_can) := ⟨rfl, rfl, rfl, by decide +kernel, rfl, by decide +kernel, by decide +kernel⟩
abbrev s_l_leads : Stmt := top 23
theorem sc_l_leads : FnScope ["_law_one", "_law_other_here", "_law_thing_here", "_law_here", "_law_move"] ["_law_one", "_law_other_here", "_law_thing_here"] (defScope s_l_leads) := ⟨rfl, rfl, rfl, by decide +kernel, rfl, by decide +kernel, by decide +kernel⟩
abbrev s_l_walk : Stmt := top 24
theorem sc_l_walk : FnScope ["_law_pen_here", "_law_other_here", "_law_found", "_law_loads", "_law_k", "_law_some", "_law_move"] ["_law_pen_here", "_law_other_here"] (defScope s_l_walk) := ⟨rfl, rfl, rfl, by decide +kernel, rfl, by decide +kernel, by decide +kernel⟩
abbrev s_l_idle : Stmt := top 25
theorem sc_l_idle : FnScope ["_law_load_here", "_law_odd", "_law_n", "_law_some", "_law_k"] ["_law_load_here", "_law_odd"] (defScope s_l_idle) := ⟨rfl, rfl, rfl, by decide +kernel, rfl, by decide +kernel, by decide +kernel⟩
abbrev s_l_odd_move : Stmt := top 26
theorem sc_l_odd_move : FnScope ["_law_move", "_law_odd", "_law_some", "_law_i", "_law_j"] ["_law_move", "_law_odd"] (defScope s_l_odd_move) := ⟨rfl, rfl, rfl, by decide +kernel, rfl, by decide +kernel, by decide +kernel⟩
abbrev s_l_thing : Stmt := top 27
theorem sc_l_thing : FnScope ["_law_pen_here", "_law_found", "_law_loads", "_law_way", "_law_odd", "_law_at", "_law_rank", "_law_some"] ["_law_pen_here", "_law_found", "_law_loads"] (defScope s_l_thing) := ⟨rfl, rfl, rfl, by decide +kernel, rfl, by decide +kernel, by decide +kernel⟩
abbrev s_l_little_steps : Stmt := top 28
theorem sc_l_little_steps : FnScope ["_law_pen_here", "_law_other_here", "_law_found", "_law_here", "_law_some", "_law_move"] ["_law_pen_here", "_law_other_here"] (defScope s_l_little_steps) := ⟨rfl, rfl, rfl, by decide +kernel, rfl, by decide +kernel, by decide +kernel⟩
abbrev s_l_long_right : Stmt := top 29
theorem sc_l_long_right : FnScope ["_law_pen_here", "_law_n", "_law_other_here", "_law_thing_here", "_law_found", "_law_one"] ["_law_pen_here"] (defScope s_l_long_right) := ⟨rfl, rfl, rfl, by decide +kernel, rfl, by decide +kernel, by decide +kernel⟩
abbrev s_law : Stmt := top 30
theorem sc_law : FnScope ["_law_script", "_law_pen_here", "_law_k", "_law_other_here", "_law_one", "_law_thing_here", "_law_kept", "_law_due", "_law_here", "_law_found", "_law_loads"] ["_law_script"] (defScope s_law) := ⟨rfl, rfl, rfl, by decide +kernel, rfl, by decide +kernel, by decide +kernel⟩

section
variable {P : Program} {w : World} {K : PySem.W.Frag} {mg : Str → Option Value} {base : Heap}
theorem ok_pen (F : FunAt K mg "_law_pen" ["_law_script"] s_l_pen) : Cal P w K mg base "_law_pen" ["_law_script"] 1 (spPen K) := by
  have S := sc_l_pen
  refine F.cal sc_l_pen (fun vs H Q E h => ?_) (fun f cdv A outer s H vs Q E hr h => ?_)
  · obtain ⟨a, ns, rfl, _⟩ := h; rfl
  obtain ⟨a, ns, rfl, ha, k⟩ := h
  obtain ⟨ms, hms⟩ := cut_ints ns none (some 63)
  refine ⟨_, (@pss_one _ _ _ (@ps_ret _ _ _ _ (@pe_disp _ _ _ _ _ (@pps_cons _ _ _ _ _ _ _ _ _ pe_str (@pe_slice _ _ _ _ _ _ _ _ _ _ sl_list (pv 0) po_none (@po_some _ _ _ pe_int)) (@pps_cons _ _ _ _ _ _ _ _ _ pe_str pe_int (@pps_cons _ _ _ _ _ _ _ _ _ pe_str pe_int pps_nil))) (by rfl) (by rfl) (by simp) (by decide)))), ?_⟩
  intro p hp
  have s1 : Same H (upd H p (.dK [])) := same_new hp _
  refine ⟨_, rfl, _, rfl, a, _, rfl, s1.seq ha, fun c hc => ?_⟩
  have hpc : p ≠ c := fun e => by rw [← e, upd_same] at hc; cases hc
  refine ⟨by rw [upd_ne hpc]; exact upd_same, [(.inr "cells", .ref c), (.inr "at", .int 0), (.inr "left", .int 0)], rfl, (by show 3 ≤ 15; decide), ?_⟩
  refine k p _ (fun b o e => ?_) ⟨c, ms, 0, 0, ?_, ?_, by omega, by omega⟩
  · rw [upd_ne (ne_of_none e hp), upd_ne, upd_ne (ne_of_none e hp)]
    · exact e
    · intro z
      subst z
      rw [upd_ne (Ne.symm hpc), e] at hc
      cases hc
  · rw [upd_same]
    rfl
  · rw [upd_ne (Ne.symm hpc), upd_same, hms]
theorem ok_draw (T : Txt mg) (F : FunAt K mg "_law_draw" ["_law_pen_here", "_law_many"] s_l_draw) : Cal P w K mg base "_law_draw" ["_law_pen_here", "_law_many"] 1 spDraw := by
  have S := sc_l_draw
  refine F.cal sc_l_draw (fun vs H Q E h => ?_) (fun f cdv A outer s H vs Q E hr h => ?_)
  · obtain ⟨p, m, n, rfl, _⟩ := h; rfl
  obtain ⟨p, m, n, rfl, ⟨c, ns, a, l, hp, hc, ha0, han⟩, hn, hm, hm2, k⟩ := h
  have hu := hu_of hr
  have hcp : c ≠ p := ne_of hc hp (by intro z; cases z)
  refine ⟨_, (@pss_cons _ _ _ _ _ (@ps_if _ _ _ _ _ _ _ _ (@pt_cmpR _ _ _ _ _ _ _ _ op_gt (@pe_dget _ _ _ _ _ _ (by exact hu) (pv 0) pe_str (by exact (fun _ _ => rfl))) pe_int (by exact (nomark _))) (@pss_cons _ _ _ _ _ (@ps_set _ _ (6) _ _ _ _ (by exact S.nd) (by rfl) (by first | exact Or.inl rfl | exact Or.inr rfl) (@pe_op _ _ _ _ _ _ _ _ op_mod (@pe_dget _ _ _ _ _ _ (by exact hu) (pv 0) pe_str (by exact (fun _ _ => rfl))) (pv 1)) (by first|rfl|decide|exact .inl rfl|exact .inr rfl|(intros; rfl)) (by first|rfl|decide|exact .inl rfl|exact .inr rfl|(intros; rfl))) (@pss_cons _ _ _ _ _ (@ps_dput _ _ _ _ _ _ _ _ _ (by exact hu) (pv 0) pe_str (@pe_op _ _ _ _ _ _ _ _ op_fdiv (@pe_dget _ _ _ _ _ _ (by exact hu) (pv 0) pe_str (by exact (fun _ _ => rfl))) (pv 1)) (by rfl)) (@pss_one _ _ _ (@ps_ret _ _ _ _ (pv 6))))) pss_nil) (@pss_cons _ _ _ _ _ (@ps_set _ _ (2) _ _ _ _ (by exact S.nd) (by rfl) (by first | exact Or.inl rfl | exact Or.inr rfl) (@pe_dget _ _ _ _ _ _ (by exact hu) (pv 0) pe_str (by exact (fun _ _ => rfl))) (by first|rfl|decide|exact .inl rfl|exact .inr rfl|(intros; rfl)) (by first|rfl|decide|exact .inl rfl|exact .inr rfl|(intros; rfl))) (@pss_cons _ _ _ _ _ (@ps_dput _ _ _ _ _ _ _ _ _ (by exact hu) (pv 0) pe_str (@pe_op _ _ _ _ _ _ _ _ op_add (pv 2) pe_int) (by rfl)) (@pss_cons _ _ _ _ _ (@ps_set _ _ (3) _ _ _ _ (by exact S.nd) (by rfl) (by first | exact Or.inl rfl | exact Or.inr rfl) (@pe_op _ _ _ _ _ _ _ _ op_add (@pe_op _ _ _ _ _ _ _ _ op_mul pe_int (pv 2)) pe_int) (by first|rfl|decide|exact .inl rfl|exact .inr rfl|(intros; rfl)) (by first|rfl|decide|exact .inl rfl|exact .inr rfl|(intros; rfl))) (@pss_cons _ _ _ _ _ (@ps_if _ _ _ _ _ _ _ _ (@pt_cmpR _ _ _ _ _ _ _ _ op_gt (@pe_callB _ _ _ _ _ _ _ _ _ call_len_seq (by rfl) (by exact T.z_len) (by exact bt_len) (@pa_consN _ _ _ _ _ (@pe_dget _ _ _ _ _ _ (by exact hu) (pv 0) pe_str (by exact (fun _ _ => rfl))) pa_nil (by first|rfl|decide|exact .inl rfl|exact .inr rfl|(intros; rfl))) (by first|rfl|decide|exact .inl rfl|exact .inr rfl|(intros; rfl)) (by first|rfl|decide|exact .inl rfl|exact .inr rfl|(intros; rfl)) (by first|rfl|decide|exact .inl rfl|exact .inr rfl|(intros; rfl)) (by first|rfl|decide|exact .inl rfl|exact .inr rfl|(intros; rfl))) pe_int (by exact (nomark _))) (@pss_one _ _ _ (@ps_set _ _ (3) _ _ _ _ (by exact S.nd) (by rfl) (by first | exact Or.inl rfl | exact Or.inr rfl) (@pe_ix _ _ _ _ _ _ _ ix_list (@pe_dget _ _ _ _ _ _ (by exact hu) (pv 0) pe_str (by exact (fun _ _ => rfl))) (@pe_op _ _ _ _ _ _ _ _ op_mod (pv 2) (@pe_callB _ _ _ _ _ _ _ _ _ call_len_seq (by rfl) (by exact T.z_len) (by exact bt_len) (@pa_consN _ _ _ _ _ (@pe_dget _ _ _ _ _ _ (by exact hu) (pv 0) pe_str (by exact (fun _ _ => rfl))) pa_nil (by first|rfl|decide|exact .inl rfl|exact .inr rfl|(intros; rfl))) (by first|rfl|decide|exact .inl rfl|exact .inr rfl|(intros; rfl)) (by first|rfl|decide|exact .inl rfl|exact .inr rfl|(intros; rfl)) (by first|rfl|decide|exact .inl rfl|exact .inr rfl|(intros; rfl)) (by first|rfl|decide|exact .inl rfl|exact .inr rfl|(intros; rfl)))) (by exact (fun _ _ => rfl))) (by first|rfl|decide|exact .inl rfl|exact .inr rfl|(intros; rfl)) (by first|rfl|decide|exact .inl rfl|exact .inr rfl|(intros; rfl)))) pss_nil) (@pss_cons _ _ _ _ _ (@ps_if _ _ _ _ _ _ _ _ (@PW.pt _ _ _ (@pw_and _ _ _ _ _ _ _ (@pt_cmpR _ _ _ _ _ _ _ _ op_lt (pv 2) (@pe_callB _ _ _ _ _ _ _ _ _ call_len_seq (by rfl) (by exact T.z_len) (by exact bt_len) (@pa_consN _ _ _ _ _ (@pe_dget _ _ _ _ _ _ (by exact hu) (pv 0) pe_str (by exact (fun _ _ => rfl))) pa_nil (by first|rfl|decide|exact .inl rfl|exact .inr rfl|(intros; rfl))) (by first|rfl|decide|exact .inl rfl|exact .inr rfl|(intros; rfl)) (by first|rfl|decide|exact .inl rfl|exact .inr rfl|(intros; rfl)) (by first|rfl|decide|exact .inl rfl|exact .inr rfl|(intros; rfl)) (by first|rfl|decide|exact .inl rfl|exact .inr rfl|(intros; rfl))) (by exact (nomark _))) (@pw_and1 _ _ _ _ (@pt_cmpR _ _ _ _ _ _ _ _ op_ge (@pe_callB _ _ _ _ _ _ _ _ _ call_abs (by rfl) (by exact T.z_abs) (by exact bt_abs) (@pa_consN _ _ _ _ _ (pv 3) pa_nil (by first|rfl|decide|exact .inl rfl|exact .inr rfl|(intros; rfl))) (by first|rfl|decide|exact .inl rfl|exact .inr rfl|(intros; rfl)) (by first|rfl|decide|exact .inl rfl|exact .inr rfl|(intros; rfl)) (by first|rfl|decide|exact .inl rfl|exact .inr rfl|(intros; rfl)) (by first|rfl|decide|exact .inl rfl|exact .inr rfl|(intros; rfl))) (@pe_op _ _ _ _ _ _ _ _ op_pow pe_int pe_int) (by exact (nomark _)))))) (@pss_cons _ _ _ _ _ (@ps_dput _ _ _ _ _ _ _ _ _ (by exact hu) (pv 0) pe_str (@pe_op _ _ _ _ _ _ _ _ op_fdiv (@pe_callB _ _ _ _ _ _ _ _ _ call_abs (by rfl) (by exact T.z_abs) (by exact bt_abs) (@pa_consN _ _ _ _ _ (pv 3) pa_nil (by first|rfl|decide|exact .inl rfl|exact .inr rfl|(intros; rfl))) (by first|rfl|decide|exact .inl rfl|exact .inr rfl|(intros; rfl)) (by first|rfl|decide|exact .inl rfl|exact .inr rfl|(intros; rfl)) (by first|rfl|decide|exact .inl rfl|exact .inr rfl|(intros; rfl)) (by first|rfl|decide|exact .inl rfl|exact .inr rfl|(intros; rfl))) (pv 1)) (by rfl)) (@pss_one _ _ _ (@ps_ret _ _ _ _ (@pe_op _ _ _ _ _ _ _ _ op_mod (@pe_callB _ _ _ _ _ _ _ _ _ call_abs (by rfl) (by exact T.z_abs) (by exact bt_abs) (@pa_consN _ _ _ _ _ (pv 3) pa_nil (by first|rfl|decide|exact .inl rfl|exact .inr rfl|(intros; rfl))) (by first|rfl|decide|exact .inl rfl|exact .inr rfl|(intros; rfl)) (by first|rfl|decide|exact .inl rfl|exact .inr rfl|(intros; rfl)) (by first|rfl|decide|exact .inl rfl|exact .inr rfl|(intros; rfl)) (by first|rfl|decide|exact .inl rfl|exact .inr rfl|(intros; rfl))) (pv 1))))) pss_nil) (@pss_cons _ _ _ _ _ (@ps_set _ _ (4) _ _ _ _ (by exact S.nd) (by rfl) (by first | exact Or.inl rfl | exact Or.inr rfl) (@pe_ix _ _ _ _ _ _ _ ix_tup (@pe_tup _ _ _ _ _ (@pa_consN _ _ _ _ _ pe_int (@pa_consN _ _ _ _ _ pe_int (@pa_consN _ _ _ _ _ pe_int (@pa_consN _ _ _ _ _ pe_int (@pa_consN _ _ _ _ _ pe_int (@pa_consN _ _ _ _ _ pe_int (@pa_consN _ _ _ _ _ pe_int pa_nil (by first|rfl|decide|exact .inl rfl|exact .inr rfl|(intros; rfl))) (by first|rfl|decide|exact .inl rfl|exact .inr rfl|(intros; rfl))) (by first|rfl|decide|exact .inl rfl|exact .inr rfl|(intros; rfl))) (by first|rfl|decide|exact .inl rfl|exact .inr rfl|(intros; rfl))) (by first|rfl|decide|exact .inl rfl|exact .inr rfl|(intros; rfl))) (by first|rfl|decide|exact .inl rfl|exact .inr rfl|(intros; rfl))) (by first|rfl|decide|exact .inl rfl|exact .inr rfl|(intros; rfl)))) (@pe_op _ _ _ _ _ _ _ _ op_mod (pv 2) pe_int) (by exact (fun _ _ => rfl))) (by first|rfl|decide|exact .inl rfl|exact .inr rfl|(intros; rfl)) (by first|rfl|decide|exact .inl rfl|exact .inr rfl|(intros; rfl))) (@pss_cons _ _ _ _ _ (@ps_set _ _ (5) _ _ _ _ (by exact S.nd) (by rfl) (by first | exact Or.inl rfl | exact Or.inr rfl) (@pe_op _ _ _ _ _ _ _ _ op_mod (@pe_op _ _ _ _ _ _ _ _ op_pow (@pe_op _ _ _ _ _ _ _ _ op_add (@pe_op _ _ _ _ _ _ _ _ op_add (@pe_op _ _ _ _ _ _ _ _ op_add (@pe_op _ _ _ _ _ _ _ _ op_mod (pv 3) pe_int) (@pe_op _ _ _ _ _ _ _ _ op_mul (@pe_op _ _ _ _ _ _ _ _ op_mul pe_int (pv 2)) (pv 2))) (@pe_op _ _ _ _ _ _ _ _ op_mul pe_int (pv 2))) pe_int) pe_int) (pv 4)) (by first|rfl|decide|exact .inl rfl|exact .inr rfl|(intros; rfl)) (by first|rfl|decide|exact .inl rfl|exact .inr rfl|(intros; rfl))) (@pss_cons _ _ _ _ _ (@ps_set _ _ (5) _ _ _ _ (by exact S.nd) (by rfl) (by first | exact Or.inl rfl | exact Or.inr rfl) (@pe_op _ _ _ _ _ _ _ _ op_mod (@pe_op _ _ _ _ _ _ _ _ op_pow (@pe_op _ _ _ _ _ _ _ _ op_add (@pe_op _ _ _ _ _ _ _ _ op_add (pv 5) (@pe_op _ _ _ _ _ _ _ _ op_mul pe_int (pv 2))) pe_int) pe_int) pe_int) (by first|rfl|decide|exact .inl rfl|exact .inr rfl|(intros; rfl)) (by first|rfl|decide|exact .inl rfl|exact .inr rfl|(intros; rfl))) (@pss_one _ _ _ (@ps_ret _ _ _ _ (@pe_op _ _ _ _ _ _ _ _ op_mod (@pe_op _ _ _ _ _ _ _ _ op_fdiv (@pe_op _ _ _ _ _ _ _ _ op_mod (@pe_op _ _ _ _ _ _ _ _ op_mul (pv 5) pe_int) pe_int) pe_int) (pv 1))))))))))))), ?_⟩
  have gl := get_left hp
  refine ⟨_, rfl, p, _, rfl, gl, _, _, rfl, rfl, _, rfl, ?_⟩
  refine ite2 (fun _ => ?_) (fun _ => ?_)
  · refine ⟨_, rfl, p, _, rfl, gl, _, rfl, _, _, rfl, rfl, hm, ?_⟩
    refine ⟨_, rfl, p, _, rfl, gl, _, rfl, _, _, rfl, rfl, ⟨hm, hm2⟩, _, rfl, p, _, rfl, dput_left hp, ?_⟩
    refine ⟨_, rfl, ?_⟩
    exact k _ _ (Int.emod_nonneg _ (by omega)) (Int.emod_lt_of_pos _ hm) ⟨c, ns, a, _, upd_same, by rw [upd_ne hcp]; exact hc, ha0, by omega⟩ (SameX.upd hp)
  refine ⟨_, rfl, p, _, rfl, get_at hp, ?_⟩
  refine ⟨_, rfl, _, _, rfl, rfl, _, rfl, p, _, rfl, dput_at hp, ?_⟩
  have hp1 : (upd H p (.dK (penL c (a + 1) l))) p = some (.dK (penL c (a + 1) l)) := upd_same
  have hc1 : (upd H p (.dK (penL c (a + 1) l))) c = some (.lst (ns.map V.int)) := by rw [upd_ne hcp]; exact hc
  have x1 : SameX p H (upd H p (.dK (penL c (a + 1) l))) := SameX.upd hp
  have gc := get_cells hp1
  obtain ⟨pr, pr0, pr1, hpr⟩ := prime_at a
  obtain ⟨sq0, sq1⟩ := sq_bound ha0 (show a ≤ 100000 by omega)
  refine ⟨_, rfl, _, _, rfl, rfl, .inl ⟨by decide, by decide⟩, _, _, rfl, rfl, ?_⟩
  refine ⟨_, rfl, p, _, rfl, gc, c, _, rfl, .inl (SqL.of hc1), _, _, rfl, rfl, _, rfl, ?_⟩
  refine ite2 (fun c0 => ?_) (fun c0 => ?_)
  · have hl : 0 < ns.length := by
      have : (0 : Int) < (((ns.map V.int).length : Nat) : Int) := of_decide_eq_true c0
      rw [List.length_map] at this
      omega
    obtain ⟨z, hz⟩ := cell_at (ns := ns) a hl
    refine ⟨_, rfl, p, _, rfl, gc, _, rfl, _, rfl, p, _, rfl, gc, c, _, rfl, .inl (SqL.of hc1), _, _, rfl, rfl, (by rw [List.length_map]; omega), c, _, _, _, rfl, rfl, SqL.of hc1, hz, ?_⟩
    refine ⟨_, rfl, _, rfl, p, _, rfl, gc, c, _, rfl, .inl (SqL.of hc1), _, _, rfl, rfl, _, rfl, ?_⟩
    refine ite2 (fun c1 => ?_) (fun c1 => iteF ?_)
    · refine ⟨_, rfl, _, rfl, _, _, rfl, rfl, ⟨by decide, by decide, by decide⟩, _, _, rfl, rfl, _, rfl, ?_⟩
      refine ite2 (fun c2 => ?_) (fun c2 => ?_)
      · refine ⟨_, rfl, _, rfl, _, rfl, _, _, rfl, rfl, ⟨hm, hm2⟩, _, rfl, p, _, rfl, dput_left hp1, ?_⟩
        refine ⟨_, rfl, _, rfl, _, rfl, _, _, rfl, rfl, hm, ?_⟩
        exact k _ _ (Int.emod_nonneg _ (by omega)) (Int.emod_lt_of_pos _ hm) ⟨c, ns, a + 1, _, upd_same, by rw [upd_ne hcp]; exact hc1, by omega, by omega⟩ (x1.trans (SameX.upd hp1))
      · exact draw_tail hm pr0 pr1 hpr ha0 (show a ≤ 100000 by omega) sq0 sq1 fun r t ht hr0 hrm => k _ _ hr0 hrm ⟨c, ns, a + 1, l, (same_new ht _) _ _ hp1, (same_new ht _) _ _ hc1, by omega, by omega⟩ (x1.trans (Same.x (same_new ht _)))
    · exact draw_tail hm pr0 pr1 hpr ha0 (show a ≤ 100000 by omega) sq0 sq1 fun r t ht hr0 hrm => k _ _ hr0 hrm ⟨c, ns, a + 1, l, (same_new ht _) _ _ hp1, (same_new ht _) _ _ hc1, by omega, by omega⟩ (x1.trans (Same.x (same_new ht _)))
  · refine ⟨_, rfl, _, rfl, p, _, rfl, gc, c, _, rfl, .inl (SqL.of hc1), _, _, rfl, rfl, _, rfl, ?_⟩
    refine ite2 (fun c1 => ?_) (fun c1 => iteF ?_)
    · exfalso
      have e1 : ¬ (0 : Int) < (((ns.map V.int).length : Nat) : Int) := by simpa using c0
      have e2 : a < (((ns.map V.int).length : Nat) : Int) := of_decide_eq_true c1
      omega
    · exact draw_tail hm pr0 pr1 hpr ha0 (show a ≤ 100000 by omega) sq0 sq1 fun r t ht hr0 hrm => k _ _ hr0 hrm ⟨c, ns, a + 1, l, (same_new ht _) _ _ hp1, (same_new ht _) _ _ hc1, by omega, by omega⟩ (x1.trans (Same.x (same_new ht _)))

theorem ok_wholeV (T : Txt2 mg) (F : FunAt K mg "is_whole" ["thing"] s_is_whole) : Cal P w K mg base "is_whole" ["thing"] 1 spWholeV := by
  have S := sc_is_whole
  refine F.cal sc_is_whole (fun vs H Q E h => ?_) (fun f cdv A outer s H vs Q E hr h => ?_)
  · obtain ⟨a, d, rfl, _⟩ := h; rfl
  obtain ⟨a, d, rfl, hd, k⟩ := h
  refine ⟨_, (@pss_one _ _ _ (@ps_ret _ _ _ _ (@pe_and _ _ _ _ _ _ _ (@pe_callB _ _ _ _ _ _ _ _ _ call_isi (by rfl) (by exact T.z_isinstance) (by exact bt_isinstance) (@pa_consN _ _ _ _ _ (pv 0) (@pa_consN _ _ _ _ _ (@pe_bltn _ _ (.ty "int") _ _ (by rfl) (by exact T.z_int) (by exact bt_int) (by rfl) (by first|rfl|decide|exact .inl rfl|exact .inr rfl|(intros; rfl)) (by first|rfl|decide|exact .inl rfl|exact .inr rfl|(intros; rfl))) pa_nil (by first|rfl|decide|exact .inl rfl|exact .inr rfl|(intros; rfl))) (by first|rfl|decide|exact .inl rfl|exact .inr rfl|(intros; rfl))) (by first|rfl|decide|exact .inl rfl|exact .inr rfl|(intros; rfl)) (by first|rfl|decide|exact .inl rfl|exact .inr rfl|(intros; rfl)) (by first|rfl|decide|exact .inl rfl|exact .inr rfl|(intros; rfl)) (by first|rfl|decide|exact .inl rfl|exact .inr rfl|(intros; rfl))) (@pe_one _ _ _ _ _ (@pe_not _ _ _ _ (@pe_callB _ _ _ _ _ _ _ _ _ call_isi (by rfl) (by exact T.z_isinstance) (by exact bt_isinstance) (@pa_consN _ _ _ _ _ (pv 0) (@pa_consN _ _ _ _ _ (@pe_bltn _ _ (.ty "bool") _ _ (by rfl) (by exact T.z_bool) (by exact bt_bool) (by rfl) (by first|rfl|decide|exact .inl rfl|exact .inr rfl|(intros; rfl)) (by first|rfl|decide|exact .inl rfl|exact .inr rfl|(intros; rfl))) pa_nil (by first|rfl|decide|exact .inl rfl|exact .inr rfl|(intros; rfl))) (by first|rfl|decide|exact .inl rfl|exact .inr rfl|(intros; rfl))) (by first|rfl|decide|exact .inl rfl|exact .inr rfl|(intros; rfl)) (by first|rfl|decide|exact .inl rfl|exact .inr rfl|(intros; rfl)) (by first|rfl|decide|exact .inl rfl|exact .inr rfl|(intros; rfl)) (by first|rfl|decide|exact .inl rfl|exact .inr rfl|(intros; rfl)))))))), ?_⟩
  obtain ⟨t, ty, e1, e2, _, _⟩ := tyOf (K := K) hd
  refine ⟨_, rfl, _, _, _, _, rfl, ty, e1, _, rfl, ?_⟩
  cases d with
  | int i => exact iteT ⟨_, rfl, _, _, _, _, rfl, ty, e2, _, rfl, k⟩
  | bool b => exact iteT ⟨_, rfl, _, _, _, _, rfl, ty, e2, _, rfl, k⟩
  | _ => exact iteF k
theorem ok_lwholeV (T : Txt2 mg) (F : FunAt K mg "_law_is_whole" ["_law_thing_here"] s_l_is_whole) : Cal P w K mg base "_law_is_whole" ["_law_thing_here"] 1 spWholeV := by
  have S := sc_l_is_whole
  refine F.cal sc_l_is_whole (fun vs H Q E h => ?_) (fun f cdv A outer s H vs Q E hr h => ?_)
  · obtain ⟨a, d, rfl, _⟩ := h; rfl
  obtain ⟨a, d, rfl, hd, k⟩ := h
  refine ⟨_, (@pss_one _ _ _ (@ps_ret _ _ _ _ (@pe_and _ _ _ _ _ _ _ (@pe_callB _ _ _ _ _ _ _ _ _ call_isi (by rfl) (by exact T.z_isinstance) (by exact bt_isinstance) (@pa_consN _ _ _ _ _ (pv 0) (@pa_consN _ _ _ _ _ (@pe_bltn _ _ (.ty "int") _ _ (by rfl) (by exact T.z_int) (by exact bt_int) (by rfl) (by first|rfl|decide|exact .inl rfl|exact .inr rfl|(intros; rfl)) (by first|rfl|decide|exact .inl rfl|exact .inr rfl|(intros; rfl))) pa_nil (by first|rfl|decide|exact .inl rfl|exact .inr rfl|(intros; rfl))) (by first|rfl|decide|exact .inl rfl|exact .inr rfl|(intros; rfl))) (by first|rfl|decide|exact .inl rfl|exact .inr rfl|(intros; rfl)) (by first|rfl|decide|exact .inl rfl|exact .inr rfl|(intros; rfl)) (by first|rfl|decide|exact .inl rfl|exact .inr rfl|(intros; rfl)) (by first|rfl|decide|exact .inl rfl|exact .inr rfl|(intros; rfl))) (@pe_one _ _ _ _ _ (@pe_not _ _ _ _ (@pe_callB _ _ _ _ _ _ _ _ _ call_isi (by rfl) (by exact T.z_isinstance) (by exact bt_isinstance) (@pa_consN _ _ _ _ _ (pv 0) (@pa_consN _ _ _ _ _ (@pe_bltn _ _ (.ty "bool") _ _ (by rfl) (by exact T.z_bool) (by exact bt_bool) (by rfl) (by first|rfl|decide|exact .inl rfl|exact .inr rfl|(intros; rfl)) (by first|rfl|decide|exact .inl rfl|exact .inr rfl|(intros; rfl))) pa_nil (by first|rfl|decide|exact .inl rfl|exact .inr rfl|(intros; rfl))) (by first|rfl|decide|exact .inl rfl|exact .inr rfl|(intros; rfl))) (by first|rfl|decide|exact .inl rfl|exact .inr rfl|(intros; rfl)) (by first|rfl|decide|exact .inl rfl|exact .inr rfl|(intros; rfl)) (by first|rfl|decide|exact .inl rfl|exact .inr rfl|(intros; rfl)) (by first|rfl|decide|exact .inl rfl|exact .inr rfl|(intros; rfl)))))))), ?_⟩
  obtain ⟨t, ty, e1, e2, _, _⟩ := tyOf (K := K) hd
  refine ⟨_, rfl, _, _, _, _, rfl, ty, e1, _, rfl, ?_⟩
  cases d with
  | int i => exact iteT ⟨_, rfl, _, _, _, _, rfl, ty, e2, _, rfl, k⟩
  | bool b => exact iteT ⟨_, rfl, _, _, _, _, rfl, ty, e2, _, rfl, k⟩
  | _ => exact iteF k
theorem ok_tells (T : Txt2 mg) (F : FunAt K mg "_law_tells" ["_law_found", "_law_due"] s_l_tells) : Cal P w K mg base "_law_tells" ["_law_found", "_law_due"] 1 spTells := by
  have S := sc_l_tells
  refine F.cal sc_l_tells (fun vs H Q E h => ?_) (fun f cdv A outer s H vs Q E hr h => ?_)
  · obtain ⟨b, rfl, _⟩ := h; rfl
  obtain ⟨b, rfl, k⟩ := h
  refine ⟨_, (@pss_one _ _ _ (@ps_ret _ _ _ _ (@pe_and _ _ _ _ _ _ _ (@pe_callB _ _ _ _ _ _ _ _ _ call_isi (by rfl) (by exact T.z_isinstance) (by exact bt_isinstance) (@pa_consN _ _ _ _ _ (pv 0) (@pa_consN _ _ _ _ _ (@pe_bltn _ _ (.ty "bool") _ _ (by rfl) (by exact T.z_bool) (by exact bt_bool) (by rfl) (by first|rfl|decide|exact .inl rfl|exact .inr rfl|(intros; rfl)) (by first|rfl|decide|exact .inl rfl|exact .inr rfl|(intros; rfl))) pa_nil (by first|rfl|decide|exact .inl rfl|exact .inr rfl|(intros; rfl))) (by first|rfl|decide|exact .inl rfl|exact .inr rfl|(intros; rfl))) (by first|rfl|decide|exact .inl rfl|exact .inr rfl|(intros; rfl)) (by first|rfl|decide|exact .inl rfl|exact .inr rfl|(intros; rfl)) (by first|rfl|decide|exact .inl rfl|exact .inr rfl|(intros; rfl)) (by first|rfl|decide|exact .inl rfl|exact .inr rfl|(intros; rfl))) (@pe_one _ _ _ _ _ (@pe_cmpR _ _ _ _ _ _ _ _ op_eq (pv 0) (pv 1) (by exact (nomark _))))))), ?_⟩
  refine ⟨_, rfl, _, _, _, _, rfl, .bl b, rfl, _, rfl, iteT ?_⟩
  refine ⟨_, rfl, _, rfl, rfl, ?_⟩
  simpa using k
/-- a load of small numbers -/
def LoadN (ns : List Int) : Prop := 1 ≤ ns.length ∧ ns.length ≤ 6 ∧ (∀ x ∈ ns, 0 ≤ x ∧ x ≤ 40) ∧ ns.Pairwise (· ≥ ·)
def spLoad : Sp := fun vs H Q _ => ∃ (p : Addr) (m : Nat) (M : Int), vs = [.ref p, .int M] ∧ 0 ≤ M ∧ M ≤ 40 ∧ Pen H p m ∧ m < 60000 ∧ ∀ (a : Addr) (ns : List Int) (H' : Hp), H' a = some (.tup (iv ns)) → LoadN ns → Pen H' p (m + 9) → SameX p H H' → Q (.ref a) H'

theorem iv_rep (x : Int) (k : Nat) : (List.replicate k [V.int x]).flatten = iv (List.replicate k x) := rep1 x k
theorem ok_load (T : Txt2 mg) (C_l_draw : Cal P w K mg base "_law_draw" ["_law_pen_here", "_law_many"] 1 spDraw) (F : FunAt K mg "_law_load" ["_law_pen_here", "_law_most"] s_l_load) : Cal P w K mg base "_law_load" ["_law_pen_here", "_law_most"] 2 spLoad := by
  have S := sc_l_load
  refine F.cal sc_l_load (fun vs H Q E h => ?_) (fun f cdv A outer s H vs Q E hr h => ?_)
  · obtain ⟨p, m, M, rfl, _⟩ := h; rfl
  obtain ⟨p, m, M, rfl, hM0, hM1, hp, hm, k⟩ := h
  refine ⟨_, (@pss_cons _ _ _ _ _ (@ps_set _ _ (2) _ _ _ _ (by exact S.nd) (by rfl) (by first | exact Or.inl rfl | exact Or.inr rfl) (@cc _ _ _ _ _ _ _ _ _ _ (by exact C_l_draw) (by exact (hr.mono (by decide))) (@pa_consN _ _ _ _ _ (pv 0) (@pa_consN _ _ _ _ _ pe_int pa_nil (by first|rfl|decide|exact .inl rfl|exact .inr rfl|(intros; rfl))) (by first|rfl|decide|exact .inl rfl|exact .inr rfl|(intros; rfl))) (by first|rfl|decide|exact .inl rfl|exact .inr rfl|(intros; rfl)) (by first|rfl|decide|exact .inl rfl|exact .inr rfl|(intros; rfl)) (by first|rfl|decide|exact .inl rfl|exact .inr rfl|(intros; rfl)) (by first|rfl|decide|exact .inl rfl|exact .inr rfl|(intros; rfl))) (by first|rfl|decide|exact .inl rfl|exact .inr rfl|(intros; rfl)) (by first|rfl|decide|exact .inl rfl|exact .inr rfl|(intros; rfl))) (@pss_cons _ _ _ _ _ (@ps_set _ _ (3) _ _ _ _ (by exact S.nd) (by rfl) (by first | exact Or.inl rfl | exact Or.inr rfl) (@pe_op _ _ _ _ _ _ _ _ op_add pe_int (@cc _ _ _ _ _ _ _ _ _ _ (by exact C_l_draw) (by exact (hr.mono (by decide))) (@pa_consN _ _ _ _ _ (pv 0) (@pa_consN _ _ _ _ _ pe_int pa_nil (by first|rfl|decide|exact .inl rfl|exact .inr rfl|(intros; rfl))) (by first|rfl|decide|exact .inl rfl|exact .inr rfl|(intros; rfl))) (by first|rfl|decide|exact .inl rfl|exact .inr rfl|(intros; rfl)) (by first|rfl|decide|exact .inl rfl|exact .inr rfl|(intros; rfl)) (by first|rfl|decide|exact .inl rfl|exact .inr rfl|(intros; rfl)) (by first|rfl|decide|exact .inl rfl|exact .inr rfl|(intros; rfl)))) (by first|rfl|decide|exact .inl rfl|exact .inr rfl|(intros; rfl)) (by first|rfl|decide|exact .inl rfl|exact .inr rfl|(intros; rfl))) (@pss_cons _ _ _ _ _ (@ps_comp _ _ _ _ _ _ _ _ _ _ _ _ _ _ _ (4) _ (by exact S.nd) (by rfl) (by first | exact Or.inl rfl | exact Or.inr rfl) (by rfl) (by exact (fun _ _ h => h)) (by decide +kernel) (by rfl) (by decide +kernel) (by exact hfr_of rfl) (by exact Sees.frees ["_law_box"] [("_law_pen_here", 0), ("_law_most", 1), ("_law_n", 3)] (fr_cons ⟨rfl, rfl⟩ (fr_cons ⟨rfl, rfl⟩ (fr_cons ⟨rfl, rfl⟩ fr_nil)))) (@pi_range1 _ _ _ _ _ _ (by rfl) (by exact T.z_range) (@pa_consN _ _ _ _ _ (pv 3) pa_nil (by first|rfl|decide|exact .inl rfl|exact .inr rfl|(intros; rfl))) (by first|rfl|decide|exact .inl rfl|exact .inr rfl|(intros; rfl))) (fun _ _ _ _ _ => @pg_name _ _ (0) _ (by exact (show (["_law_box", "_law_pen_here", "_law_most", "_law_n"] : List Str).Nodup by decide +kernel)) (by rfl) (by first | exact Or.inl rfl | exact Or.inr rfl) (by first|rfl|decide|exact .inl rfl|exact .inr rfl|(intros; rfl))) (fun _ _ _ _ _ => pts_nil) (fun _ _ _ _ _ => (@cc _ _ _ _ _ _ _ _ _ _ (by exact C_l_draw) (by exact (hr.mono (by decide))) (@pa_consN _ _ _ _ _ (pv 1) (@pa_consN _ _ _ _ _ (@pe_op _ _ _ _ _ _ _ _ op_add (@pe_op _ _ _ _ _ _ _ _ op_fdiv (pv 2) (pv 3)) pe_int) pa_nil (by first|rfl|decide|exact .inl rfl|exact .inr rfl|(intros; rfl))) (by first|rfl|decide|exact .inl rfl|exact .inr rfl|(intros; rfl))) (by first|rfl|decide|exact .inl rfl|exact .inr rfl|(intros; rfl)) (by first|rfl|decide|exact .inl rfl|exact .inr rfl|(intros; rfl)) (by first|rfl|decide|exact .inl rfl|exact .inr rfl|(intros; rfl)) (by first|rfl|decide|exact .inl rfl|exact .inr rfl|(intros; rfl)))) (by first|rfl|decide|exact .inl rfl|exact .inr rfl|(intros; rfl)) (by first|rfl|decide|exact .inl rfl|exact .inr rfl|(intros; rfl)) (by first|rfl|decide|exact .inl rfl|exact .inr rfl|(intros; rfl))) (@pss_cons _ _ _ _ _ (@ps_if _ _ _ _ _ _ _ _ (@pt_cmpR _ _ _ _ _ _ _ _ op_eq (pv 2) pe_int (by exact (nomark _))) (@pss_one _ _ _ (@ps_set _ _ (4) _ _ _ _ (by exact S.nd) (by rfl) (by first | exact Or.inl rfl | exact Or.inr rfl) (@pe_op _ _ _ _ _ _ _ _ op_rep (@pe_lst _ _ _ _ (@pa_consN _ _ _ _ _ (@pe_ix _ _ _ _ _ _ _ ix_list (pv 4) pe_int (by exact (fun _ _ => rfl))) pa_nil (by first|rfl|decide|exact .inl rfl|exact .inr rfl|(intros; rfl)))) (pv 3)) (by first|rfl|decide|exact .inl rfl|exact .inr rfl|(intros; rfl)) (by first|rfl|decide|exact .inl rfl|exact .inr rfl|(intros; rfl)))) pss_nil) (@pss_cons _ _ _ _ _ (@ps_if _ _ _ _ _ _ _ _ (@pt_cmpR _ _ _ _ _ _ _ _ op_eq (pv 2) pe_int (by exact (nomark _))) (@pss_one _ _ _ (@ps_set _ _ (4) _ _ _ _ (by exact S.nd) (by rfl) (by first | exact Or.inl rfl | exact Or.inr rfl) (@pe_op _ _ _ _ _ _ _ _ op_cat (@pe_lst _ _ _ _ (@pa_consN _ _ _ _ _ (@cc _ _ _ _ _ _ _ _ _ _ (by exact C_l_draw) (by exact (hr.mono (by decide))) (@pa_consN _ _ _ _ _ (pv 0) (@pa_consN _ _ _ _ _ (@pe_op _ _ _ _ _ _ _ _ op_add (pv 1) pe_int) pa_nil (by first|rfl|decide|exact .inl rfl|exact .inr rfl|(intros; rfl))) (by first|rfl|decide|exact .inl rfl|exact .inr rfl|(intros; rfl))) (by first|rfl|decide|exact .inl rfl|exact .inr rfl|(intros; rfl)) (by first|rfl|decide|exact .inl rfl|exact .inr rfl|(intros; rfl)) (by first|rfl|decide|exact .inl rfl|exact .inr rfl|(intros; rfl)) (by first|rfl|decide|exact .inl rfl|exact .inr rfl|(intros; rfl))) pa_nil (by first|rfl|decide|exact .inl rfl|exact .inr rfl|(intros; rfl)))) (@pe_op _ _ _ _ _ _ _ _ op_rep (@pe_lst _ _ _ _ (@pa_consN _ _ _ _ _ pe_int pa_nil (by first|rfl|decide|exact .inl rfl|exact .inr rfl|(intros; rfl)))) (@pe_op _ _ _ _ _ _ _ _ op_sub (pv 3) pe_int))) (by first|rfl|decide|exact .inl rfl|exact .inr rfl|(intros; rfl)) (by first|rfl|decide|exact .inl rfl|exact .inr rfl|(intros; rfl)))) pss_nil) (@pss_cons _ _ _ _ _ (@ps_if _ _ _ _ _ _ _ _ (@pt_cmpR _ _ _ _ _ _ _ _ op_eq (pv 2) pe_int (by exact (nomark _))) (@pss_one _ _ _ (@ps_comp _ _ _ _ _ _ _ _ _ _ _ _ _ _ _ (4) _ (by exact S.nd) (by rfl) (by first | exact Or.inl rfl | exact Or.inr rfl) (by rfl) (by exact (fun _ _ h => h)) (by decide +kernel) (by rfl) (by decide +kernel) (by exact hfr_of rfl) (by exact Sees.frees ["_law_number"] [] fr_nil) (@pi_list _ _ _ _ (pv 4)) (fun _ _ _ _ _ => @pg_name _ _ (0) _ (by exact (show (["_law_number"] : List Str).Nodup by decide +kernel)) (by rfl) (by first | exact Or.inl rfl | exact Or.inr rfl) (by first|rfl|decide|exact .inl rfl|exact .inr rfl|(intros; rfl))) (fun _ _ _ _ _ => pts_nil) (fun _ _ _ _ _ => (@pe_op _ _ _ _ _ _ _ _ op_mod (pv 0) pe_int)) (by first|rfl|decide|exact .inl rfl|exact .inr rfl|(intros; rfl)) (by first|rfl|decide|exact .inl rfl|exact .inr rfl|(intros; rfl)) (by first|rfl|decide|exact .inl rfl|exact .inr rfl|(intros; rfl)))) pss_nil) (@pss_one _ _ _ (@ps_ret _ _ _ _ (@pe_callTy _ _ _ _ _ _ _ _ _ call_tuple_of (by rfl) (by exact T.z_tuple) (by exact bt_tuple) (@pa_consN _ _ _ _ _ (@pe_sortedR _ _ _ _ _ _ _ _ _ (by rfl) (by exact T.z_sorted) (@pa_consN _ _ _ _ _ (pv 4) pa_nil (by first|rfl|decide|exact .inl rfl|exact .inr rfl|(intros; rfl))) (by first|rfl|decide|exact .inl rfl|exact .inr rfl|(intros; rfl)) (by first|rfl|decide|exact .inl rfl|exact .inr rfl|(intros; rfl))) pa_nil (by first|rfl|decide|exact .inl rfl|exact .inr rfl|(intros; rfl))) (by first|rfl|decide|exact .inl rfl|exact .inr rfl|(intros; rfl)) (by first|rfl|decide|exact .inl rfl|exact .inr rfl|(intros; rfl)) (by first|rfl|decide|exact .inl rfl|exact .inr rfl|(intros; rfl)) (by first|rfl|decide|exact .inl rfl|exact .inr rfl|(intros; rfl))))))))))), ?_⟩
  refine ⟨_, rfl, p, _, m, rfl, hp, by omega, by decide, by decide, fun wy H1 w0 w6 p1 x1 => ?_⟩
  refine ⟨_, rfl, p, _, _, rfl, p1, by omega, by decide, by decide, fun d2 H2 d20 d21 p2 x2 => ⟨_, _, rfl, rfl, ?_⟩⟩
  dsimp only
  obtain ⟨N, hN⟩ : ∃ N : Nat, (1 : Int) + d2 = (N : Int) := ⟨(1 + d2).toNat, by omega⟩
  rw [hN]
  have n1 : 1 ≤ N := by omega
  have n6 : N ≤ 6 := by omega
  have xA := x1.trans x2
  have hq : M / (N : Int) ≤ 40 ∧ 0 ≤ M / (N : Int) := ⟨Int.le_trans (Int.ediv_le_self _ hM0) hM1, Int.ediv_nonneg hM0 (by omega)⟩
  have fin : ∀ (l : Addr) (ns : List Int) (H' : Hp), ns.length = N → (∀ x ∈ ns, 0 ≤ x ∧ x ≤ 40) → Pen H' p (m + 9) → SameX p H H' → ∀ (q : Addr) (ms : List Int), H' q = none → ms.Perm ns → PyProof.Rows.Ordered true ms →
      ∃ q' ys', [V.ref q] = [.ref q'] ∧ ((SqL K (upd H' q (.lst (iv ms))) q' ys' ∧ ∀ t, (upd H' q (.lst (iv ms))) t = none → Q (.ref t) (upd (upd H' q (.lst (iv ms))) t (.tup ys'))) ∨ (SqT K (upd H' q (.lst (iv ms))) q' ys' ∧ Q (.ref q') (upd H' q (.lst (iv ms))))) := fun l ns H' hl hb pp xx q ms hq' pm od => by
    have s1 := same_new hq' (.lst (iv ms))
    refine ⟨q, iv ms, rfl, .inl ⟨SqL.of upd_same, fun t ht => ?_⟩⟩
    have s2 := same_new ht (.tup (iv ms))
    have ss := s1.trans s2
    refine k t ms _ upd_same ⟨by rw [pm.length_eq]; omega, by rw [pm.length_eq]; omega, fun x hx => hb x (pm.mem_iff.mp hx), od⟩ (pp.same ss) (xx.trans (Same.x ss))
  refine ⟨_, rfl, _, rfl, by omega, by omega, comp_rng (n := (N : Int).toNat) (lo := 0) (fs := [some (.ref p), some (.int M), some (.int N)]) (fun acc i ys H' => Pen H' p (m + 2 + i) ∧ SameX p H2 H' ∧ ∃ ns : List Int, ys = iv ns ∧ ∀ x ∈ ns, 0 ≤ x ∧ x ≤ 40) (by omega) ?_ ?_ ?_⟩
  · exact fun acc hacc => ⟨p2.same (same_new hacc _), Same.x (same_new hacc _), [], rfl, fun x hx => by simp at hx⟩
  · rintro acc i ys H' hacc hi hl ⟨p', x', ns, rfl, hb⟩ hacc' Q' hQ
    refine ⟨_, rfl, _, rfl, _, rfl, _, _, rfl, rfl, ⟨by omega, by omega⟩, _, _, rfl, rfl, p, _, _, rfl, p', by omega, by omega, by omega, fun d H'' d0 d1 p'' x'' => ?_⟩
    have g := penX_upd hacc p2 (x'.trans x'') p'' (.lst (iv ns ++ [.int d]))
    refine hQ _ H'' (p'.keep x'' hacc') ⟨g.1, g.2, ns ++ [d], by simp, fun x hx => ?_⟩
    rcases List.mem_append.mp hx with z | z
    · exact hb x z
    · rw [List.mem_singleton.mp z]; omega
  rintro l ys H3 hl ⟨p3, x3, ns, rfl, hb⟩ hl3 hlen
  rw [Int.toNat_natCast, List.length_map] at hlen
  have xB := xA.trans x3
  rw [Int.toNat_natCast] at p3
  refine ⟨_, rfl, rfl, _, rfl, ?_⟩
  refine ite2 (fun c0 => ?_) (fun c0 => ?_)
  · have e0 : wy = 0 := V.int.inj (of_decide_eq_true c0)
    have h0 : 0 < ns.length := by omega
    refine ⟨_, rfl, l, _, _, _, rfl, rfl, SqL.of hl3, iv_atI h0, lz 1 rfl, fun q1 hq1 => ⟨_, rfl, q1, _, _, rfl, rfl, upd_same, by omega, by omega, lzz (by simp; omega), fun q2 hq2 => ?_⟩⟩
    rw [iv_rep, Int.toNat_natCast]
    have s1 := same_new hq1 (.lst [.int (ns.getD 0 0)])
    have s2 := same_new hq2 (.lst (iv (List.replicate N (ns.getD 0 0))))
    have ss := s1.trans s2
    refine ⟨_, rfl, rfl, _, rfl, ite2 (fun c => absurd (V.int.inj (of_decide_eq_true c)) (by omega)) (fun _ => ⟨_, rfl, rfl, _, rfl, ite2 (fun c => absurd (V.int.inj (of_decide_eq_true c)) (by omega)) (fun _ => ?_)⟩)⟩
    refine ⟨_, rfl, q2, List.replicate N (ns.getD 0 0), rfl, upd_same, by simp; omega, fun q ms hq' pm od => ?_⟩
    refine fin q2 _ _ (by simp) (fun x hx => ?_) ((p3.same ss).mono (by omega)) (xB.trans (Same.x ss)) q ms hq' pm od
    rw [List.eq_of_mem_replicate hx, getD_of h0]
    exact hb _ (List.getElem_mem h0)
  refine ⟨_, rfl, rfl, _, rfl, ?_⟩
  refine ite2 (fun c1 => ?_) (fun c1 => ?_)
  · have e0 : wy = 1 := V.int.inj (of_decide_eq_true c1)
    refine ⟨_, rfl, _, rfl, _, _, rfl, rfl, p, _, _, rfl, p3, by omega, by omega, by omega, fun d H4 d0 d1 p4 x4 => ⟨lz 1 rfl, fun q1 hq1 => ⟨lz 1 rfl, fun q2 hq2 => ?_⟩⟩⟩
    have s1 := same_new hq1 (.lst [.int d])
    have s2 := same_new hq2 (.lst [.int 0])
    refine ⟨_, rfl, _, _, rfl, rfl, q2, _, _, rfl, rfl, upd_same, by omega, by omega, lzz (by simp; omega), fun q3 hq3 => ?_⟩
    rw [iv_rep]
    have s3 := same_new hq3 (.lst (iv (List.replicate ((N : Int) - 1).toNat 0)))
    refine ⟨q1, q3, _, _, rfl, rfl, s3 _ _ (s2 _ _ upd_same), upd_same, lzz (by simp; omega), fun q4 hq4 => ?_⟩
    have e4 : ([V.int d] ++ iv (List.replicate ((N : Int) - 1).toNat 0)) = iv (d :: List.replicate ((N : Int) - 1).toNat 0) := rfl
    rw [e4]
    have s4 := same_new hq4 (.lst (iv (d :: List.replicate ((N : Int) - 1).toNat 0)))
    have ss := (s1.trans s2).trans (s3.trans s4)
    refine ⟨_, rfl, rfl, _, rfl, ite2 (fun c => absurd (V.int.inj (of_decide_eq_true c)) (by omega)) (fun _ => ?_)⟩
    refine ⟨_, rfl, q4, _, rfl, upd_same, by simp; omega, fun q ms hq' pm od => ?_⟩
    refine fin q4 _ _ (by simp; omega) (fun x hx => ?_) ((p4.same ss).mono (by omega)) ((xB.trans x4).trans (Same.x ss)) q ms hq' pm od
    rcases List.mem_cons.mp hx with rfl | z
    · omega
    · rw [List.eq_of_mem_replicate z]; decide
  refine ⟨_, rfl, rfl, _, rfl, ?_⟩
  refine ite2 (fun c2 => ?_) (fun c2 => ?_)
  · refine ⟨_, rfl, l, rfl, ⟨_, SqL.of hl3⟩, comp_lst (a := l) (xs := iv ns) (fs := []) (fun acc i ys H' => Same H3 H' ∧ ys = iv ((ns.take i).map (· % 2))) (by simp; omega) ?_ ?_ ?_ ?_⟩
    · exact fun acc hacc => ⟨same_new hacc _, rfl⟩
    · exact fun acc i ys H' hacc ⟨s', _⟩ => s' _ _ hl3
    · rintro acc i ys H' x hacc hx hlen' ⟨s', rfl⟩ hacc' Q' hQ
      obtain ⟨y, hy, rfl⟩ := iv_at hx
      refine ⟨_, rfl, _, _, rfl, rfl, (show (0 : Int) < 2 by decide), hQ _ H' hacc' ⟨same_updN hacc s' _, ?_⟩⟩
      rw [List.take_add_one, hy, List.map_append]
      simp
    · rintro q2 ys H' hq2 ⟨s', rfl⟩ hq2' _
      rw [List.length_map, List.take_length] at hq2'
      refine ⟨_, rfl, q2, _, rfl, hq2', by simp; omega, fun q ms hq' pm od => ?_⟩
      refine fin q2 _ _ (by simp; omega) (fun x hx => ?_) ((p3.same s').mono (by omega)) (xB.trans (Same.x s')) q ms hq' pm od
      obtain ⟨y, hy, rfl⟩ := List.mem_map.mp hx
      have := Int.emod_nonneg y (show (2 : Int) ≠ 0 by decide)
      have := Int.emod_lt_of_pos y (show (0 : Int) < 2 by decide)
      omega
  · refine ⟨_, rfl, l, ns, rfl, hl3, by omega, fun q ms hq' pm od => ?_⟩
    exact fin l ns _ (by omega) hb (p3.mono (by omega)) xB q ms hq' pm od

end
end My

set_option Elab.async false
set_option linter.all false
set_option maxRecDepth 100000
set_option maxHeartbeats 1000000
namespace My
open PySem L2 MA Srt PySem.Spec
theorem len_ne {n : Nat} {m : Int} (c : (!decide (V.int (n : Int) = V.int m)) = true) : (n : Int) ≠ m := by
  intro h
  rw [h] at c
  simp at c
theorem len_eq {n m : Nat} (c : ¬ (!decide (V.int (n : Int) = V.int (m : Int))) = true) : n = m := by
  have : V.int (n : Int) = V.int (m : Int) := by simpa using c
  have := V.int.inj this
  omega
theorem gN_ {i : Nat} {v : V} {σ : St} {H : Hp} {Q : St → Hp → Prop} (h : Q (σ.set i (some v)) H) : gName i v σ H Q := h
def plc (m : Int) : PyData → Bool
  | .int i => decide (0 ≤ i) && decide (i < m)
  | _ => false
def twoD (m : Int) : PyData → Bool
  | .tuple [a, b] => plc m a && plc m b
  | _ => false
theorem two_len {m : Int} {ds : List PyData} (h : ds.length ≠ 2) : twoD m (.tuple ds) = false := by
  match ds, h with
  | [], _ => rfl
  | [_], _ => simp [twoD]
  | [_, _], h => exact absurd rfl h
  | _ :: _ :: _ :: _, _ => simp [twoD]
theorem DataL.get' {H : Hp} : ∀ {xs : List V} {ds : List PyData} {i : Nat} {x : V}, DataL H xs ds → xs[i]? = some x → ∃ d, ds[i]? = some d ∧ DataV H x d
  | _, _, i, _, .nil, h => by simp at h
  | _, _, 0, _, .cons hx r, h => by
    have := Option.some.inj (by simpa using h)
    subst this
    exact ⟨_, rfl, hx⟩
  | _, _, i + 1, _, .cons hx r, h => by
    obtain ⟨d, h1, h2⟩ := DataL.get' (i := i) r (by simpa using h)
    exact ⟨d, by simpa using h1, h2⟩
def spTwo : Sp := fun vs H Q _ => ∃ (v : V) (d : PyData) (m : Int), vs = [v, .int m] ∧ DataV H v d ∧ ∀ H', Same H H' → Q (.bl (twoD m d)) H'
theorem tT_ {σ : St} {H : Hp} {Q : Bool → Hp → Prop} (h : Q true H) : tTT σ H Q := h
theorem take_snoc {α : Type} {l : List α} {i : Nat} {x : α} (h : l[i]? = some x) : l.take (i + 1) = l.take i ++ [x] := by rw [List.take_add_one, h]; rfl
def fallF (l : List Int) : List Int := l.mergeSort fun a b => decide (b ≤ a)
theorem fall_perm (l : List Int) : (fallF l).Perm l := List.mergeSort_perm l _
theorem fall_down (l : List Int) : (fallF l).Pairwise (· ≥ ·) := by
  have := List.pairwise_mergeSort (le := fun a b : Int => decide (b ≤ a)) (fun a b c h1 h2 => by simp at *; omega) (fun a b => by simp; omega) l
  exact this.imp fun {a b} h => by simpa using h
theorem fall_eq {ms l : List Int} (h : ms.Perm l) (d : ms.Pairwise (· ≥ ·)) : ms = fallF l :=
  List.Perm.eq_of_pairwise (le := fun x y => x ≥ y) (fun x y _ _ h1 h2 => by omega) d (fall_down l) (h.trans (fall_perm l).symm)
theorem fall_length (l : List Int) : (fallF l).length = l.length := (fall_perm l).length_eq
theorem seq_iv : ∀ ns ms : List Int, eqSeq (iv ns) (iv ms) = decide (ns = ms) := by
  intro ns ms
  by_cases e : ns = ms
  · subst e
    rw [decide_eq_true rfl]
    unfold eqSeq
    rw [Bool.and_eq_true]
    refine ⟨?_, by simp⟩
    rw [Nat.min_self]
    exact all_self (iv ns) (eq_iv ns)
  · rw [decide_eq_false e]
    refine Bool.eq_false_iff.mpr fun h => e ?_
    unfold eqSeq at h
    rw [Bool.and_eq_true] at h
    obtain ⟨h1, h2⟩ := h
    have hl : ns.length = ms.length := by simpa using h2
    refine List.ext_getElem hl fun i hi hj => ?_
    have := List.all_eq_true.mp h1 i (by simp; omega)
    rw [getD_of (show i < (iv ns).length by simpa using hi), getD_of (show i < (iv ms).length by simpa using hj)] at this
    simpa [iv, eqV] using this
def Alike (ns ms : List Int) : Prop := ns.length = ms.length ∧ ns.sum = ms.sum
section
variable {P : Program} {w : World} {K : PySem.W.Frag} {mg : Str → Option Value} {base : Heap}
theorem ok_two (T : Txt2 mg) (C_is_whole : Cal P w K mg base "is_whole" ["thing"] 1 spWholeV) (F : FunAt K mg "is_two_places" ["thing", "many"] s_is_two_places) : Cal P w K mg base "is_two_places" ["thing", "many"] 2 spTwo := by
  have S := sc_is_two_places
  refine F.cal sc_is_two_places (fun vs H Q E h => ?_) (fun f cdv A outer s H vs Q E hr h => ?_)
  · obtain ⟨v, d, m, rfl, _⟩ := h; rfl
  obtain ⟨v, d, m, rfl, hd, k⟩ := h
  refine ⟨_, (@pss_cons _ _ _ _ _ (@ps_if _ _ _ _ _ _ _ _ (@PW.pt _ _ _ (@pw_or _ _ _ _ _ _ _ (@pt_not _ _ _ _ (@pt_val _ _ _ (@pe_callB _ _ _ _ _ _ _ _ _ call_isi (by rfl) (by exact T.z_isinstance) (by exact bt_isinstance) (@pa_consN _ _ _ _ _ (pv 0) (@pa_consN _ _ _ _ _ (@pe_bltn _ _ (.ty "tuple") _ _ (by rfl) (by exact T.z_tuple) (by exact bt_tuple) (by rfl) (by first|rfl|decide|exact .inl rfl|exact .inr rfl|(intros; rfl)) (by first|rfl|decide|exact .inl rfl|exact .inr rfl|(intros; rfl))) pa_nil (by first|rfl|decide|exact .inl rfl|exact .inr rfl|(intros; rfl))) (by first|rfl|decide|exact .inl rfl|exact .inr rfl|(intros; rfl))) (by first|rfl|decide|exact .inl rfl|exact .inr rfl|(intros; rfl)) (by first|rfl|decide|exact .inl rfl|exact .inr rfl|(intros; rfl)) (by first|rfl|decide|exact .inl rfl|exact .inr rfl|(intros; rfl)) (by first|rfl|decide|exact .inl rfl|exact .inr rfl|(intros; rfl))) (by first|rfl|decide|exact .inl rfl|exact .inr rfl|(intros; rfl)))) (@pw_or1 _ _ _ _ (@pt_cmpR _ _ _ _ _ _ _ _ op_ne (@pe_callB _ _ _ _ _ _ _ _ _ call_len_seq (by rfl) (by exact T.z_len) (by exact bt_len) (@pa_consN _ _ _ _ _ (pv 0) pa_nil (by first|rfl|decide|exact .inl rfl|exact .inr rfl|(intros; rfl))) (by first|rfl|decide|exact .inl rfl|exact .inr rfl|(intros; rfl)) (by first|rfl|decide|exact .inl rfl|exact .inr rfl|(intros; rfl)) (by first|rfl|decide|exact .inl rfl|exact .inr rfl|(intros; rfl)) (by first|rfl|decide|exact .inl rfl|exact .inr rfl|(intros; rfl))) pe_int (by exact (nomark _)))))) (@pss_one _ _ _ (@ps_ret _ _ _ _ pe_bl)) pss_nil) (@pss_one _ _ _ (@ps_ret _ _ _ _ (@pe_callB _ _ _ _ _ _ _ _ _ (call_all (by rfl)) (by rfl) (by exact T.z_all) (by exact bt_all) (@pa_consN _ _ _ _ _ (@pe_comp _ _ _ _ _ _ _ _ _ _ _ _ _ (by rfl) (by exact (fun _ _ h => h)) (by decide +kernel) (by rfl) (by decide +kernel) (by exact hfr_of rfl) (by exact Sees.frees ["place"] [("many", 1)] (fr_cons ⟨rfl, rfl⟩ fr_nil)) (@pi_tup _ _ _ _ (pv 0)) (fun _ _ _ _ _ => @pg_name _ _ (0) _ (by exact (show (["place", "many"] : List Str).Nodup by decide +kernel)) (by rfl) (by first | exact Or.inl rfl | exact Or.inr rfl) (by first|rfl|decide|exact .inl rfl|exact .inr rfl|(intros; rfl))) (fun _ _ _ _ _ => pts_nil) (fun _ _ _ _ _ => (@pe_and _ _ _ _ _ _ _ (@cc _ _ _ _ _ _ _ _ _ _ (by exact C_is_whole) (by exact (hr.mono (by decide))) (@pa_consN _ _ _ _ _ (pv 0) pa_nil (by first|rfl|decide|exact .inl rfl|exact .inr rfl|(intros; rfl))) (by first|rfl|decide|exact .inl rfl|exact .inr rfl|(intros; rfl)) (by first|rfl|decide|exact .inl rfl|exact .inr rfl|(intros; rfl)) (by first|rfl|decide|exact .inl rfl|exact .inr rfl|(intros; rfl)) (by first|rfl|decide|exact .inl rfl|exact .inr rfl|(intros; rfl))) (@pe_and _ _ _ _ _ _ _ (@pe_cmpR _ _ _ _ _ _ _ _ op_ge (pv 0) pe_int (by exact (nomark _))) (@pe_one _ _ _ _ _ (@pe_cmpR _ _ _ _ _ _ _ _ op_lt (pv 0) (pv 1) (by exact (nomark _))))))) (by first|rfl|decide|exact .inl rfl|exact .inr rfl|(intros; rfl))) pa_nil (by first|rfl|decide|exact .inl rfl|exact .inr rfl|(intros; rfl))) (by first|rfl|decide|exact .inl rfl|exact .inr rfl|(intros; rfl)) (by first|rfl|decide|exact .inl rfl|exact .inr rfl|(intros; rfl)) (by first|rfl|decide|exact .inl rfl|exact .inr rfl|(intros; rfl)) (by first|rfl|decide|exact .inl rfl|exact .inr rfl|(intros; rfl)))))), ?_⟩
  obtain ⟨t, ty, _, _, e3, _⟩ := tyOf (K := K) hd
  refine ⟨_, rfl, _, _, _, _, rfl, ty, e3, _, rfl, ?_⟩
  clear ty
  cases hd with
  | @tup p xs ds hp hl =>
    have hlx := hl.length
    refine iteF ?_
    refine ⟨_, rfl, p, xs, rfl, .inr (SqT.of hp), rfl, _, rfl, ?_⟩
    refine ite2 (fun c => ?_) (fun c => ?_)
    · have := k H (Same.refl _)
      rw [two_len (fun z => len_ne c (by rw [hl.length, z]; rfl))] at this
      exact this
    have h2 : ds.length = 2 := by rw [← hlx]; exact len_eq (m := 2) c
    refine ⟨_, rfl, p, rfl, ⟨_, SqT.of hp⟩, comp_tp (a := p) (xs := xs) (fs := [some (.int m)]) (fun acc i ys H' => Same H H' ∧ ys = ((ds.take i).map fun d => V.bl (plc m d))) (by omega) ?_ ?_ ?_ ?_⟩
    · exact fun acc hacc => ⟨same_new hacc _, rfl⟩
    · rintro acc i ys H' hacc ⟨s', _⟩
      exact s' _ _ hp
    · rintro acc i ys H' x hacc hi hlen ⟨s', rfl⟩ hH' Q' hQ
      obtain ⟨d, hdi, hvd⟩ := DataL.get' hl hi
      have fin : ∀ b : Bool, b = plc m d → Q' (.bl b) H' := fun b hb => hQ _ H' hH' ⟨same_updN hacc s' _, by rw [List.take_add_one, hdi, List.map_append, hb]; rfl⟩
      refine ⟨_, rfl, x, d, rfl, hvd.same s', _, rfl, ?_⟩
      cases hvd with
      | int i =>
        refine iteT ⟨_, rfl, _, _, rfl, rfl, _, rfl, ?_⟩
        refine ite2 (fun c => ?_) (fun c => ?_)
        · refine ⟨_, rfl, _, rfl, _, _, rfl, rfl, fin _ ?_⟩
          have : (0 : Int) ≤ i := of_decide_eq_true c
          simp [plc, this]
        · refine fin _ ?_
          have : ¬ (0 : Int) ≤ i := fun z => c (decide_eq_true z)
          simp [plc, this]
      | _ => exact iteF (fin false rfl)
    rintro acc ys H' hacc ⟨s', rfl⟩ hH' hlen'
    rw [hlx, List.take_length] at hH'
    have eb : (ds.map fun d => V.bl (plc m d)) = (ds.map (plc m)).map V.bl := by rw [List.map_map]; rfl
    rw [eb] at hH'
    refine ⟨acc, ds.map (plc m), rfl, hH', ?_⟩
    have ea : (ds.map (plc m)).all id = twoD m (.tuple ds) := by
      match ds, h2 with
      | [a, b], _ => simp [twoD]
    have := k H' s'
    rw [← ea] at this
    exact this
  | _ => exact iteT (k H (Same.refl _))
end
section
variable {P : Program} {w : World} {K : PySem.W.Frag} {mg : Str → Option Value} {base : Heap}
def spAlike : Sp := fun vs H Q _ => ∃ a b ns ms, vs = [.ref a, .ref b] ∧ H a = some (.tup (iv ns)) ∧ H b = some (.tup (iv ms)) ∧ Alike ns ms ∧ Q .non H
theorem ok_alike (T : Txt2 mg) (F : FunAt K mg "ask_alike" ["one", "other"] s_ask_alike) : Cal P w K mg base "ask_alike" ["one", "other"] 1 spAlike := by
  have S := sc_ask_alike
  refine F.cal sc_ask_alike (fun vs H Q E h => ?_) (fun f cdv A outer s H vs Q E hr h => ?_)
  · obtain ⟨a, b, xs, ys, rfl, _⟩ := h; rfl
  obtain ⟨a, b, ns, ms, rfl, ha, hb, al, k⟩ := h
  refine ⟨_, (@pss_one _ _ _ (@ps_if _ _ _ _ _ _ _ _ (@PW.pt _ _ _ (@pw_or _ _ _ _ _ _ _ (@pt_cmpR _ _ _ _ _ _ _ _ op_ne (@pe_callB _ _ _ _ _ _ _ _ _ call_len_seq (by rfl) (by exact T.z_len) (by exact bt_len) (@pa_consN _ _ _ _ _ (pv 0) pa_nil (by first|rfl|decide|exact .inl rfl|exact .inr rfl|(intros; rfl))) (by first|rfl|decide|exact .inl rfl|exact .inr rfl|(intros; rfl)) (by first|rfl|decide|exact .inl rfl|exact .inr rfl|(intros; rfl)) (by first|rfl|decide|exact .inl rfl|exact .inr rfl|(intros; rfl)) (by first|rfl|decide|exact .inl rfl|exact .inr rfl|(intros; rfl))) (@pe_callB _ _ _ _ _ _ _ _ _ call_len_seq (by rfl) (by exact T.z_len) (by exact bt_len) (@pa_consN _ _ _ _ _ (pv 1) pa_nil (by first|rfl|decide|exact .inl rfl|exact .inr rfl|(intros; rfl))) (by first|rfl|decide|exact .inl rfl|exact .inr rfl|(intros; rfl)) (by first|rfl|decide|exact .inl rfl|exact .inr rfl|(intros; rfl)) (by first|rfl|decide|exact .inl rfl|exact .inr rfl|(intros; rfl)) (by first|rfl|decide|exact .inl rfl|exact .inr rfl|(intros; rfl))) (by exact (nomark _))) (@pw_or1 _ _ _ _ (@pt_cmpR _ _ _ _ _ _ _ _ op_ne (@pe_callB _ _ _ _ _ _ _ _ _ (call_sumT (by rfl)) (by rfl) (by exact T.z_sum) (by exact bt_sum) (@pa_consN _ _ _ _ _ (pv 0) pa_nil (by first|rfl|decide|exact .inl rfl|exact .inr rfl|(intros; rfl))) (by first|rfl|decide|exact .inl rfl|exact .inr rfl|(intros; rfl)) (by first|rfl|decide|exact .inl rfl|exact .inr rfl|(intros; rfl)) (by first|rfl|decide|exact .inl rfl|exact .inr rfl|(intros; rfl)) (by first|rfl|decide|exact .inl rfl|exact .inr rfl|(intros; rfl))) (@pe_callB _ _ _ _ _ _ _ _ _ (call_sumT (by rfl)) (by rfl) (by exact T.z_sum) (by exact bt_sum) (@pa_consN _ _ _ _ _ (pv 1) pa_nil (by first|rfl|decide|exact .inl rfl|exact .inr rfl|(intros; rfl))) (by first|rfl|decide|exact .inl rfl|exact .inr rfl|(intros; rfl)) (by first|rfl|decide|exact .inl rfl|exact .inr rfl|(intros; rfl)) (by first|rfl|decide|exact .inl rfl|exact .inr rfl|(intros; rfl)) (by first|rfl|decide|exact .inl rfl|exact .inr rfl|(intros; rfl))) (by exact (nomark _)))))) (@pss_one _ _ _ ps_never) pss_nil)), ?_⟩
  refine ⟨_, rfl, a, _, rfl, .inr (SqT.of ha), _, rfl, b, _, rfl, .inr (SqT.of hb), rfl, _, rfl, ?_⟩
  refine ite2 (fun c => absurd (congrArg (fun n : Nat => V.int n) (show (iv ns).length = (iv ms).length by simpa using al.1)) (by simpa using c)) (fun _ => ?_)
  refine ⟨_, rfl, a, ns, rfl, ha, _, rfl, b, ms, rfl, hb, rfl, _, rfl, ?_⟩
  exact ite2 (fun c => absurd (congrArg V.int al.2) (by simpa using c)) (fun _ => k)
theorem gD {ns : List Int} {i : Nat} (h : i < ns.length) : ns.getD i 0 = ns[i] := by rw [List.getD_eq_getElem?_getD, List.getElem?_eq_getElem h]; rfl
def mvF (ns : List Int) (i j : Nat) : List Int := (ns.set i (ns.getD i 0 - 1)).set j ((ns.set i (ns.getD i 0 - 1)).getD j 0 + 1)
def spMovedL : Sp := fun vs H Q _ => ∃ (a : Addr) (ns : List Int) (i j : Nat), vs = [.ref a, .int (i : Int), .int (j : Int)] ∧ H a = some (.tup (iv ns)) ∧ i < ns.length ∧ j < ns.length ∧ ns.length ≤ 10 ∧
  ∀ (b : Addr) (ms : List Int) (H' : Hp), Same H H' → H' b = some (.tup (iv ms)) → ms.Perm (mvF ns i j) → ms.Pairwise (· ≥ ·) → Q (.ref b) H'
theorem ok_lmoved (T : Txt2 mg) (F : FunAt K mg "_law_moved" ["_law_load_here", "_law_i", "_law_j"] s_l_moved) : Cal P w K mg base "_law_moved" ["_law_load_here", "_law_i", "_law_j"] 1 spMovedL := by
  have S := sc_l_moved
  refine F.cal sc_l_moved (fun vs H Q E h => ?_) (fun f cdv A outer s H vs Q E hr h => ?_)
  · obtain ⟨a, ns, i, j, rfl, _⟩ := h; rfl
  obtain ⟨a, ns, i, j, rfl, ha, hi, hj, l10, k⟩ := h
  refine ⟨_, (@pss_cons _ _ _ _ _ (@ps_set _ _ (3) _ _ _ _ (by exact S.nd) (by rfl) (by first | exact Or.inl rfl | exact Or.inr rfl) (@pe_callTy _ _ _ _ _ _ _ _ _ call_list_of (by rfl) (by exact T.z_list) (by exact bt_list) (@pa_consN _ _ _ _ _ (pv 0) pa_nil (by first|rfl|decide|exact .inl rfl|exact .inr rfl|(intros; rfl))) (by first|rfl|decide|exact .inl rfl|exact .inr rfl|(intros; rfl)) (by first|rfl|decide|exact .inl rfl|exact .inr rfl|(intros; rfl)) (by first|rfl|decide|exact .inl rfl|exact .inr rfl|(intros; rfl)) (by first|rfl|decide|exact .inl rfl|exact .inr rfl|(intros; rfl))) (by first|rfl|decide|exact .inl rfl|exact .inr rfl|(intros; rfl)) (by first|rfl|decide|exact .inl rfl|exact .inr rfl|(intros; rfl))) (@pss_cons _ _ _ _ _ (@ps_asg _ _ _ _ _ _ (@pe_op _ _ _ _ _ _ _ _ op_sub (@pe_ix _ _ _ _ _ _ _ ix_list (pv 3) (pv 1) (by exact (fun _ _ => rfl))) pe_int) (@pg_sub _ _ _ _ _ _ _ (pv 3) (pv 1) set_list (by first|rfl|decide|exact .inl rfl|exact .inr rfl|(intros; rfl))) (by first|rfl|decide|exact .inl rfl|exact .inr rfl|(intros; rfl)) (by first|rfl|decide|exact .inl rfl|exact .inr rfl|(intros; rfl)) (by first|rfl|decide|exact .inl rfl|exact .inr rfl|(intros; rfl))) (@pss_cons _ _ _ _ _ (@ps_asg _ _ _ _ _ _ (@pe_op _ _ _ _ _ _ _ _ op_add (@pe_ix _ _ _ _ _ _ _ ix_list (pv 3) (pv 2) (by exact (fun _ _ => rfl))) pe_int) (@pg_sub _ _ _ _ _ _ _ (pv 3) (pv 2) set_list (by first|rfl|decide|exact .inl rfl|exact .inr rfl|(intros; rfl))) (by first|rfl|decide|exact .inl rfl|exact .inr rfl|(intros; rfl)) (by first|rfl|decide|exact .inl rfl|exact .inr rfl|(intros; rfl)) (by first|rfl|decide|exact .inl rfl|exact .inr rfl|(intros; rfl))) (@pss_one _ _ _ (@ps_ret _ _ _ _ (@pe_callTy _ _ _ _ _ _ _ _ _ call_tuple_of (by rfl) (by exact T.z_tuple) (by exact bt_tuple) (@pa_consN _ _ _ _ _ (@pe_sortedR _ _ _ _ _ _ _ _ _ (by rfl) (by exact T.z_sorted) (@pa_consN _ _ _ _ _ (pv 3) pa_nil (by first|rfl|decide|exact .inl rfl|exact .inr rfl|(intros; rfl))) (by first|rfl|decide|exact .inl rfl|exact .inr rfl|(intros; rfl)) (by first|rfl|decide|exact .inl rfl|exact .inr rfl|(intros; rfl))) pa_nil (by first|rfl|decide|exact .inl rfl|exact .inr rfl|(intros; rfl))) (by first|rfl|decide|exact .inl rfl|exact .inr rfl|(intros; rfl)) (by first|rfl|decide|exact .inl rfl|exact .inr rfl|(intros; rfl)) (by first|rfl|decide|exact .inl rfl|exact .inr rfl|(intros; rfl)) (by first|rfl|decide|exact .inl rfl|exact .inr rfl|(intros; rfl)))))))), ?_⟩
  refine ⟨_, rfl, a, _, rfl, .inr (SqT.of ha), fun l hl => ?_⟩
  have hx : ns[i]? = some ns[i] := List.getElem?_eq_getElem hi
  refine ⟨_, rfl, _, rfl, l, _, _, _, rfl, rfl, SqL.of upd_same, atI_iv hx, _, _, rfl, rfl, _, rfl, _, rfl, l, iv ns, (i : Int), i, rfl, rfl, upd_same, ixN_nat (by simpa using hi), ?_⟩
  rw [iv_set, upd_upd]
  have ed : mvF ns i j = (ns.set i (ns[i] - 1)).set j ((ns.set i (ns[i] - 1)).getD j 0 + 1) := by unfold mvF; rw [gD hi]
  have h2 : j < (ns.set i (ns[i] - 1)).length := by simpa using hj
  have l2 : (ns.set i (ns[i] - 1)).length = ns.length := by simp
  rw [gD h2] at ed
  generalize ns.set i (ns[i] - 1) = ns2 at h2 l2 ed
  have hy : ns2[j]? = some ns2[j] := List.getElem?_eq_getElem h2
  refine ⟨_, rfl, _, rfl, l, _, _, _, rfl, rfl, SqL.of upd_same, atI_iv hy, _, _, rfl, rfl, _, rfl, _, rfl, l, iv ns2, (j : Int), j, rfl, rfl, upd_same, ixN_nat (by simpa using h2), ?_⟩
  rw [iv_set, upd_upd]
  refine ⟨_, rfl, l, ns2.set j (ns2[j] + 1), rfl, upd_same, by simp; omega, fun q ms hq pm od => ?_⟩
  have s2 := (same_new hl (.lst (iv (ns2.set j (ns2[j] + 1))))).trans (same_new hq (.lst (iv ms)))
  refine ⟨q, iv ms, rfl, .inl ⟨SqL.of upd_same, fun t ht => ?_⟩⟩
  exact k t ms _ (s2.trans (same_new ht _)) upd_same (by rw [ed]; exact pm) od
def spFalling : Sp := fun vs H Q _ => ∃ l ns, vs = [.ref l] ∧ H l = some (.lst (iv ns)) ∧ ns.length < 64 ∧ ∀ (a : Addr) (ms : List Int) (H' : Hp), ms.Perm ns → ms.Pairwise (· ≥ ·) → H' a = some (.tup (iv ms)) → Same H H' → Q (.ref a) H'
theorem ok_falling (T : Txt2 mg) (F : FunAt K mg "falling" ["numbers"] s_falling) : Cal P w K mg base "falling" ["numbers"] 1 spFalling := by
  have S := sc_falling
  refine F.cal sc_falling (fun vs H Q E h => ?_) (fun f cdv A outer s H vs Q E hr h => ?_)
  · obtain ⟨l, ns, rfl, _⟩ := h; rfl
  obtain ⟨l, ns, rfl, hl, h64, k⟩ := h
  refine ⟨_, (@pss_one _ _ _ (@ps_ret _ _ _ _ (@pe_callTy _ _ _ _ _ _ _ _ _ call_tuple_of (by rfl) (by exact T.z_tuple) (by exact bt_tuple) (@pa_consN _ _ _ _ _ (@pe_sortedR _ _ _ _ _ _ _ _ _ (by rfl) (by exact T.z_sorted) (@pa_consN _ _ _ _ _ (pv 0) pa_nil (by first|rfl|decide|exact .inl rfl|exact .inr rfl|(intros; rfl))) (by first|rfl|decide|exact .inl rfl|exact .inr rfl|(intros; rfl)) (by first|rfl|decide|exact .inl rfl|exact .inr rfl|(intros; rfl))) pa_nil (by first|rfl|decide|exact .inl rfl|exact .inr rfl|(intros; rfl))) (by first|rfl|decide|exact .inl rfl|exact .inr rfl|(intros; rfl)) (by first|rfl|decide|exact .inl rfl|exact .inr rfl|(intros; rfl)) (by first|rfl|decide|exact .inl rfl|exact .inr rfl|(intros; rfl)) (by first|rfl|decide|exact .inl rfl|exact .inr rfl|(intros; rfl))))), ?_⟩
  refine ⟨_, rfl, l, ns, rfl, hl, h64, fun q ms hq pm od => ?_⟩
  have s1 := same_new hq (.lst (iv ms))
  refine ⟨q, iv ms, rfl, .inl ⟨SqL.of upd_same, fun t ht => ?_⟩⟩
  exact k t ms _ pm od upd_same (s1.trans (same_new ht _))
def spMovedM : Sp := fun vs H Q _ => ∃ (a mv : Addr) (ns : List Int) (i j : Nat), vs = [.ref a, .ref mv] ∧ H a = some (.tup (iv ns)) ∧ H mv = some (.tup [.int (i : Int), .int (j : Int)]) ∧ i < ns.length ∧ j < ns.length ∧ ns.length ≤ 10 ∧
  ∀ (b : Addr) (ms : List Int) (H' : Hp), Same H H' → H' b = some (.tup (iv ms)) → ms.Perm (mvF ns i j) → ms.Pairwise (· ≥ ·) → Q (.ref b) H'
theorem ok_moved (T : Txt2 mg) (C_falling : Cal P w K mg base "falling" ["numbers"] 1 spFalling) (F : FunAt K mg "moved" ["load", "move"] s_moved) : Cal P w K mg base "moved" ["load", "move"] 2 spMovedM := by
  have S := sc_moved
  refine F.cal sc_moved (fun vs H Q E h => ?_) (fun f cdv A outer s H vs Q E hr h => ?_)
  · obtain ⟨a, mv, ns, i, j, rfl, _⟩ := h; rfl
  obtain ⟨a, mv, ns, i, j, rfl, ha, hm, hi, hj, l10, k⟩ := h
  refine ⟨_, (@pss_cons _ _ _ _ _ (@ps_set _ _ (2) _ _ _ _ (by exact S.nd) (by rfl) (by first | exact Or.inl rfl | exact Or.inr rfl) (@pe_callTy _ _ _ _ _ _ _ _ _ call_list_of (by rfl) (by exact T.z_list) (by exact bt_list) (@pa_consN _ _ _ _ _ (pv 0) pa_nil (by first|rfl|decide|exact .inl rfl|exact .inr rfl|(intros; rfl))) (by first|rfl|decide|exact .inl rfl|exact .inr rfl|(intros; rfl)) (by first|rfl|decide|exact .inl rfl|exact .inr rfl|(intros; rfl)) (by first|rfl|decide|exact .inl rfl|exact .inr rfl|(intros; rfl)) (by first|rfl|decide|exact .inl rfl|exact .inr rfl|(intros; rfl))) (by first|rfl|decide|exact .inl rfl|exact .inr rfl|(intros; rfl)) (by first|rfl|decide|exact .inl rfl|exact .inr rfl|(intros; rfl))) (@pss_cons _ _ _ _ _ (@ps_augS _ _ _ _ _ _ _ _ _ _ _ _ _ (pv 2) (@pe_ix _ _ _ _ _ _ _ ix_tup0 (pv 1) pe_int (by exact (fun _ _ => rfl))) get_list pe_int ip_sub set_list (by first|rfl|decide|exact .inl rfl|exact .inr rfl|(intros; rfl))) (@pss_cons _ _ _ _ _ (@ps_augS _ _ _ _ _ _ _ _ _ _ _ _ _ (pv 2) (@pe_ix _ _ _ _ _ _ _ ix_tup0 (pv 1) pe_int (by exact (fun _ _ => rfl))) get_list pe_int ip_add set_list (by first|rfl|decide|exact .inl rfl|exact .inr rfl|(intros; rfl))) (@pss_one _ _ _ (@ps_ret _ _ _ _ (@cc _ _ _ _ _ _ _ _ _ _ (by exact C_falling) (by exact (hr.mono (by decide))) (@pa_consN _ _ _ _ _ (pv 2) pa_nil (by first|rfl|decide|exact .inl rfl|exact .inr rfl|(intros; rfl))) (by first|rfl|decide|exact .inl rfl|exact .inr rfl|(intros; rfl)) (by first|rfl|decide|exact .inl rfl|exact .inr rfl|(intros; rfl)) (by first|rfl|decide|exact .inl rfl|exact .inr rfl|(intros; rfl)) (by first|rfl|decide|exact .inl rfl|exact .inr rfl|(intros; rfl)))))))), ?_⟩
  refine ⟨_, rfl, a, _, rfl, .inr (SqT.of ha), fun l hl => ?_⟩
  have hx : ns[i]? = some ns[i] := List.getElem?_eq_getElem hi
  have hm1 := same_new hl (.lst (iv ns)) _ _ hm
  refine ⟨_, rfl, _, rfl, mv, _, _, _, rfl, rfl, hm1, rfl, l, iv ns, (i : Int), .int ns[i], rfl, rfl, by omega, upd_same, atI_iv hx, ns[i], 1, rfl, rfl, l, iv ns, (i : Int), i, rfl, rfl, upd_same, ixN_nat (by simpa using hi), ?_⟩
  rw [iv_set, upd_upd]
  have ed : mvF ns i j = (ns.set i (ns[i] - 1)).set j ((ns.set i (ns[i] - 1)).getD j 0 + 1) := by unfold mvF; rw [gD hi]
  have h2 : j < (ns.set i (ns[i] - 1)).length := by simpa using hj
  have l2 : (ns.set i (ns[i] - 1)).length = ns.length := by simp
  rw [gD h2] at ed
  generalize ns.set i (ns[i] - 1) = ns2 at h2 l2 ed
  have hy : ns2[j]? = some ns2[j] := List.getElem?_eq_getElem h2
  have hm2 := same_new hl (.lst (iv ns2)) _ _ hm
  refine ⟨_, rfl, _, rfl, mv, _, _, _, rfl, rfl, hm2, rfl, l, iv ns2, (j : Int), .int ns2[j], rfl, rfl, by omega, upd_same, atI_iv hy, ns2[j], 1, rfl, rfl, l, iv ns2, (j : Int), j, rfl, rfl, upd_same, ixN_nat (by simpa using h2), ?_⟩
  rw [iv_set, upd_upd]
  refine ⟨_, rfl, l, ns2.set j (ns2[j] + 1), rfl, upd_same, by simp; omega, fun b ms H' pm od hb s2 => ?_⟩
  exact k b ms H' ((same_new hl _).trans s2) hb (by rw [ed]; exact pm) od
end
end My

set_option Elab.async false
set_option linter.all false
set_option maxRecDepth 100000
set_option maxHeartbeats 1000000
namespace My
open PySem L2 MA Srt PySem.Spec
def mvS (ns : List Int) (i j : Nat) : List Int := fallF (mvF ns i j)
theorem mvS_len (ns : List Int) (i j : Nat) : (mvS ns i j).length = ns.length := by unfold mvS; rw [fall_length]; simp [mvF]
/-- one move, if it may be made -/
def goI (ns : List Int) (i j : Int) : Option (List Int) := if 0 ≤ i ∧ i < ns.length ∧ 0 ≤ j ∧ j < ns.length ∧ ns.getD i.toNat 0 - ns.getD j.toNat 0 > 1 then some (mvS ns i.toNat j.toNat) else none
def goD (ns : List Int) : PyData → Option (List Int)
  | .tuple [.int i, .int j] => goI ns i j
  | _ => none
def walkD : List Int → List PyData → Option (List Int)
  | ns, [] => some ns
  | ns, d :: ds => match goD ns d with
    | some ms => walkD ms ds
    | none => none
def letsD (one other : List Int) : PyData → Bool
  | .list ds => decide (walkD other ds = some one)
  | _ => false
theorem two_goD {ns : List Int} {d : PyData} (h : twoD ns.length d = false) : goD ns d = none := by
  unfold goD
  split
  · rename_i i j
    unfold goI
    rw [if_neg]
    rintro ⟨h1, h2, h3, h4, _⟩
    simp [twoD, plc, h1, h2, h3, h4] at h
  · rfl
theorem two_ex {n : Nat} {d : PyData} (c : twoD n d = true) : ∃ i j : Nat, d = .tuple [.int (i : Int), .int (j : Int)] ∧ i < n ∧ j < n := by
  have pl : ∀ x : PyData, plc n x = true → ∃ i : Nat, x = .int (i : Int) ∧ i < n := by
    intro x hx
    cases x with
    | int i =>
      simp [plc] at hx
      exact ⟨i.toNat, by rw [Int.toNat_of_nonneg hx.1], by omega⟩
    | _ => simp [plc] at hx
  unfold twoD at c
  split at c
  · rename_i a b
    obtain ⟨h1, h2⟩ := Bool.and_eq_true_iff.mp c
    obtain ⟨i, rfl, hi⟩ := pl a h1
    obtain ⟨j, rfl, hj⟩ := pl b h2
    exact ⟨i, j, rfl, hi, hj⟩
  · cases c
theorem pair_of {H : Hp} {v : V} {i j : Int} (h : DataV H v (.tuple [.int i, .int j])) : ∃ t, v = .ref t ∧ H t = some (.tup [.int i, .int j]) := by
  cases h with
  | @tup p xs ds hp hl =>
    cases hl with
    | cons h1 h2 =>
      cases h2 with
      | cons h3 h4 =>
        cases h4
        cases h1
        cases h3
        exact ⟨p, rfl, hp⟩
theorem goI_nat {ns : List Int} {i j : Nat} (hi : i < ns.length) (hj : j < ns.length) : goI ns i j = if ns[i] - ns[j] > 1 then some (mvS ns i j) else none := by
  unfold goI
  simp only [Int.toNat_natCast, gD hi, gD hj]
  by_cases c : ns[i] - ns[j] > 1
  · rw [if_pos c, if_pos ⟨by omega, by omega, by omega, by omega, c⟩]
  · rw [if_neg c, if_neg (fun z => c z.2.2.2.2)]
section
variable {P : Program} {w : World} {K : PySem.W.Frag} {mg : Str → Option Value} {base : Heap}
def spCanD : Sp := fun vs H Q _ => ∃ (a : Addr) (v : V) (ns : List Int) (d : PyData), vs = [.ref a, v] ∧ H a = some (.tup (iv ns)) ∧ DataV H v d ∧ ∀ H', Same H H' → Q (.bl (goD ns d).isSome) H'
theorem ok_canD (T : Txt2 mg) (C_is_two_places : Cal P w K mg base "is_two_places" ["thing", "many"] 2 spTwo) (F : FunAt K mg "can_move" ["load", "thing"] s_can_move) : Cal P w K mg base "can_move" ["load", "thing"] 3 spCanD := by
  have S := sc_can_move
  refine F.cal sc_can_move (fun vs H Q E h => ?_) (fun f cdv A outer s H vs Q E hr h => ?_)
  · obtain ⟨a, v, ns, d, rfl, _⟩ := h; rfl
  obtain ⟨a, v, ns, d, rfl, ha, hd, k⟩ := h
  refine ⟨_, (@pss_one _ _ _ (@ps_ret _ _ _ _ (@pe_and _ _ _ _ _ _ _ (@cc _ _ _ _ _ _ _ _ _ _ (by exact C_is_two_places) (by exact (hr.mono (by decide))) (@pa_consN _ _ _ _ _ (pv 1) (@pa_consN _ _ _ _ _ (@pe_callB _ _ _ _ _ _ _ _ _ call_len_seq (by rfl) (by exact T.z_len) (by exact bt_len) (@pa_consN _ _ _ _ _ (pv 0) pa_nil (by first|rfl|decide|exact .inl rfl|exact .inr rfl|(intros; rfl))) (by first|rfl|decide|exact .inl rfl|exact .inr rfl|(intros; rfl)) (by first|rfl|decide|exact .inl rfl|exact .inr rfl|(intros; rfl)) (by first|rfl|decide|exact .inl rfl|exact .inr rfl|(intros; rfl)) (by first|rfl|decide|exact .inl rfl|exact .inr rfl|(intros; rfl))) pa_nil (by first|rfl|decide|exact .inl rfl|exact .inr rfl|(intros; rfl))) (by first|rfl|decide|exact .inl rfl|exact .inr rfl|(intros; rfl))) (by first|rfl|decide|exact .inl rfl|exact .inr rfl|(intros; rfl)) (by first|rfl|decide|exact .inl rfl|exact .inr rfl|(intros; rfl)) (by first|rfl|decide|exact .inl rfl|exact .inr rfl|(intros; rfl)) (by first|rfl|decide|exact .inl rfl|exact .inr rfl|(intros; rfl))) (@pe_one _ _ _ _ _ (@pe_cmpR _ _ _ _ _ _ _ _ op_ge (@pe_ix _ _ _ _ _ _ _ ix_tup (pv 0) (@pe_ix _ _ _ _ _ _ _ ix_tup (pv 1) pe_int (by exact (fun _ _ => rfl))) (by exact (fun _ _ => rfl))) (@pe_op _ _ _ _ _ _ _ _ op_add (@pe_ix _ _ _ _ _ _ _ ix_tup (pv 0) (@pe_ix _ _ _ _ _ _ _ ix_tup (pv 1) pe_int (by exact (fun _ _ => rfl))) (by exact (fun _ _ => rfl))) pe_int) (by exact (nomark _))))))), ?_⟩
  refine ⟨_, rfl, _, rfl, a, _, rfl, .inr (SqT.of ha), v, d, _, rfl, hd, fun H1 s1 => ?_⟩
  have el : (((iv ns).length : Nat) : Int) = (ns.length : Int) := by simp
  rw [el]
  cases c : twoD ns.length d with
  | false =>
    have := k H1 s1
    rw [two_goD c] at this
    exact ⟨_, rfl, iteF this⟩
  | true =>
    refine ⟨_, rfl, iteT ?_⟩
    obtain ⟨i, j, rfl, hi, hj⟩ := two_ex c
    obtain ⟨t, rfl, ht⟩ := pair_of hd
    have ha1 := s1 _ _ ha
    have ht1 := s1 _ _ ht
    have := k H1 s1
    rw [show goD ns (.tuple [.int (i : Int), .int (j : Int)]) = goI ns i j from rfl, goI_nat hi hj] at this
    refine ⟨_, rfl, _, rfl, t, _, _, _, rfl, rfl, SqT.of ht1, rfl, a, _, _, _, rfl, rfl, SqT.of ha1, atI_iv (List.getElem?_eq_getElem hi), ?_⟩
    refine ⟨_, rfl, _, rfl, t, _, _, _, rfl, rfl, SqT.of ht1, rfl, a, _, _, _, rfl, rfl, SqT.of ha1, atI_iv (List.getElem?_eq_getElem hj), _, _, rfl, rfl, _, _, rfl, rfl, ?_⟩
    dsimp only
    by_cases c2 : ns[i] - ns[j] > 1
    · rw [if_pos c2] at this
      rw [decide_eq_true (show ns[j] + 2 ≤ ns[i] by omega)]
      exact this
    · rw [if_neg c2] at this
      rw [decide_eq_false (show ¬ ns[j] + 2 ≤ ns[i] by omega)]
      exact this
def spLetsD : Sp := fun vs H Q _ => ∃ (a b : Addr) (v : V) (one other : List Int) (d : PyData), vs = [.ref a, .ref b, v] ∧ H a = some (.tup (iv one)) ∧ H b = some (.tup (iv other)) ∧ other.length ≤ 10 ∧ Alike one other ∧ DataT H v d ∧ ∀ H', Same H H' → Q (.bl (letsD one other d)) H'
theorem ok_letsD (T : Txt2 mg) (C_ask_alike : Cal P w K mg base "ask_alike" ["one", "other"] 1 spAlike) (C_can_move : Cal P w K mg base "can_move" ["load", "thing"] 3 spCanD) (C_moved : Cal P w K mg base "moved" ["load", "move"] 2 spMovedM) (F : FunAt K mg "lets_moves" ["one", "other", "thing"] s_lets_moves) : Cal P w K mg base "lets_moves" ["one", "other", "thing"] 4 spLetsD := by
  have S := sc_lets_moves
  refine F.cal sc_lets_moves (fun vs H Q E h => ?_) (fun f cdv A outer s H vs Q E hr h => ?_)
  · obtain ⟨a, b, v, ns, ms, d, rfl, _⟩ := h; rfl
  obtain ⟨a, b, v, ns, ms, d, rfl, ha, hb, l10, al, hd, k⟩ := h
  have hu := hr.units0
  refine ⟨_, (@pss_cons _ _ _ _ _ (@ps_expr _ _ _ _ (@cc _ _ _ _ _ _ _ _ _ _ (by exact C_ask_alike) (by exact (hr.mono (by decide))) (@pa_consN _ _ _ _ _ (pv 0) (@pa_consN _ _ _ _ _ (pv 1) pa_nil (by first|rfl|decide|exact .inl rfl|exact .inr rfl|(intros; rfl))) (by first|rfl|decide|exact .inl rfl|exact .inr rfl|(intros; rfl))) (by first|rfl|decide|exact .inl rfl|exact .inr rfl|(intros; rfl)) (by first|rfl|decide|exact .inl rfl|exact .inr rfl|(intros; rfl)) (by first|rfl|decide|exact .inl rfl|exact .inr rfl|(intros; rfl)) (by first|rfl|decide|exact .inl rfl|exact .inr rfl|(intros; rfl))) (by first|rfl|decide|exact .inl rfl|exact .inr rfl|(intros; rfl))) (@pss_cons _ _ _ _ _ (@ps_if _ _ _ _ _ _ _ _ (@pt_not _ _ _ _ (@pt_val _ _ _ (@pe_callB _ _ _ _ _ _ _ _ _ call_isi (by rfl) (by exact T.z_isinstance) (by exact bt_isinstance) (@pa_consN _ _ _ _ _ (pv 2) (@pa_consN _ _ _ _ _ (@pe_bltn _ _ (.ty "list") _ _ (by rfl) (by exact T.z_list) (by exact bt_list) (by rfl) (by first|rfl|decide|exact .inl rfl|exact .inr rfl|(intros; rfl)) (by first|rfl|decide|exact .inl rfl|exact .inr rfl|(intros; rfl))) pa_nil (by first|rfl|decide|exact .inl rfl|exact .inr rfl|(intros; rfl))) (by first|rfl|decide|exact .inl rfl|exact .inr rfl|(intros; rfl))) (by first|rfl|decide|exact .inl rfl|exact .inr rfl|(intros; rfl)) (by first|rfl|decide|exact .inl rfl|exact .inr rfl|(intros; rfl)) (by first|rfl|decide|exact .inl rfl|exact .inr rfl|(intros; rfl)) (by first|rfl|decide|exact .inl rfl|exact .inr rfl|(intros; rfl))) (by first|rfl|decide|exact .inl rfl|exact .inr rfl|(intros; rfl)))) (@pss_one _ _ _ (@ps_ret _ _ _ _ pe_bl)) pss_nil) (@pss_cons _ _ _ _ _ (@ps_set _ _ (3) _ _ _ _ (by exact S.nd) (by rfl) (by first | exact Or.inl rfl | exact Or.inr rfl) (pv 1) (by first|rfl|decide|exact .inl rfl|exact .inr rfl|(intros; rfl)) (by first|rfl|decide|exact .inl rfl|exact .inr rfl|(intros; rfl))) (@pss_cons _ _ _ _ _ (@ps_for _ _ _ _ _ _ _ _ (by exact PassesOwn.never) (by rfl) (@pi_list _ _ _ _ (pv 2)) (@pg_name _ _ (4) _ (by exact S.nd) (by rfl) (by first | exact Or.inl rfl | exact Or.inr rfl) (by first|rfl|decide|exact .inl rfl|exact .inr rfl|(intros; rfl))) (@pss_cons _ _ _ _ _ (@ps_if _ _ _ _ _ _ _ _ (@pt_not _ _ _ _ (@pt_val _ _ _ (@cc _ _ _ _ _ _ _ _ _ _ (by exact C_can_move) (by exact (hr.mono (by decide))) (@pa_consN _ _ _ _ _ (pv 3) (@pa_consN _ _ _ _ _ (pv 4) pa_nil (by first|rfl|decide|exact .inl rfl|exact .inr rfl|(intros; rfl))) (by first|rfl|decide|exact .inl rfl|exact .inr rfl|(intros; rfl))) (by first|rfl|decide|exact .inl rfl|exact .inr rfl|(intros; rfl)) (by first|rfl|decide|exact .inl rfl|exact .inr rfl|(intros; rfl)) (by first|rfl|decide|exact .inl rfl|exact .inr rfl|(intros; rfl)) (by first|rfl|decide|exact .inl rfl|exact .inr rfl|(intros; rfl))) (by first|rfl|decide|exact .inl rfl|exact .inr rfl|(intros; rfl)))) (@pss_one _ _ _ (@ps_ret _ _ _ _ pe_bl)) pss_nil) (@pss_one _ _ _ (@ps_set _ _ (3) _ _ _ _ (by exact S.nd) (by rfl) (by first | exact Or.inl rfl | exact Or.inr rfl) (@cc _ _ _ _ _ _ _ _ _ _ (by exact C_moved) (by exact (hr.mono (by decide))) (@pa_consN _ _ _ _ _ (pv 3) (@pa_consN _ _ _ _ _ (pv 4) pa_nil (by first|rfl|decide|exact .inl rfl|exact .inr rfl|(intros; rfl))) (by first|rfl|decide|exact .inl rfl|exact .inr rfl|(intros; rfl))) (by first|rfl|decide|exact .inl rfl|exact .inr rfl|(intros; rfl)) (by first|rfl|decide|exact .inl rfl|exact .inr rfl|(intros; rfl)) (by first|rfl|decide|exact .inl rfl|exact .inr rfl|(intros; rfl)) (by first|rfl|decide|exact .inl rfl|exact .inr rfl|(intros; rfl))) (by first|rfl|decide|exact .inl rfl|exact .inr rfl|(intros; rfl)) (by first|rfl|decide|exact .inl rfl|exact .inr rfl|(intros; rfl))))) (by first|rfl|decide|exact .inl rfl|exact .inr rfl|(intros; rfl))) (@pss_one _ _ _ (@ps_ret _ _ _ _ (@pe_cmpR _ _ _ _ _ _ _ _ (op_eqT hu) (pv 3) (pv 0) (by exact (nomark _))))))))), ?_⟩
  refine ⟨_, rfl, _, rfl, a, b, ns, ms, rfl, ha, hb, al, ?_⟩
  obtain ⟨t, ty, e4⟩ := tyLT (K := K) hd
  refine ⟨_, rfl, _, _, _, _, rfl, ty, e4, _, rfl, ?_⟩
  clear ty
  rcases hd with hd | ⟨ta, tkvs, tps, rfl, rfl, _⟩
  rotate_left 1
  · exact iteT (k H (Same.refl _))
  cases hd with
  | @lst l xs ds hl hx =>
    refine iteF ?_
    have ll := al.1
    have xl := hx.length
    refine ⟨_, rfl, ?_⟩
    refine ⟨_, rfl, l, rfl, ⟨_, SqL.of hl⟩, for_Y (yields_lst (xs := xs)) (fun i σ H' => ∃ (lo : Addr) (load : List Int) (o4 : Option V), σ = [some (.ref a), some (.ref b), some (.ref l), some (.ref lo), o4] ∧ Same H H' ∧ H' lo = some (.tup (iv load)) ∧ load.length = ms.length ∧ walkD ms ds = walkD load (ds.drop i)) ⟨b, ms, _, rfl, Same.refl _, hb, rfl, rfl⟩ ?_ ?_ ?_⟩
    · rintro i σ H' ⟨_, _, _, _, s', _⟩
      exact s' _ _ hl
    · rintro i x σ H1 H2 hi ⟨lo, load, o4, rfl, s', hlo, hll, hw⟩ ⟨rfl, hxi⟩
      obtain ⟨d, hdi, hvd⟩ := DataL.get' hx hxi
      have hvd1 := hvd.same s'
      have hdl := (List.getElem?_eq_some_iff.mp hdi).1
      rw [List.drop_eq_getElem_cons hdl, (List.getElem?_eq_some_iff.mp hdi).2] at hw
      refine gN_ ⟨_, rfl, _, rfl, lo, x, load, d, rfl, hlo, hvd1, fun H3 s3 => ?_⟩
      cases g : goD load d with
      | none =>
        refine ⟨_, rfl, iteT ?_⟩
        have := k H3 (s'.trans s3)
        have e : letsD ns ms (.list ds) = false := by
          show decide (walkD ms ds = some ns) = false
          rw [hw]
          simp [walkD, g]
        rw [e] at this
        exact this
      | some load' =>
        refine ⟨_, rfl, iteF ?_⟩
        have c : twoD load.length d = true := by
          cases c : twoD load.length d with
          | true => rfl
          | false => rw [two_goD c] at g; cases g
        obtain ⟨i3, j3, rfl, hi3, hj3⟩ := two_ex c
        obtain ⟨t3, rfl, ht3⟩ := pair_of hvd1
        have g' := g
        rw [show goD load (.tuple [.int (i3 : Int), .int (j3 : Int)]) = goI load i3 j3 from rfl, goI_nat hi3 hj3] at g'
        split at g'
        case isFalse => cases g'
        cases g'
        refine ⟨_, rfl, _, rfl, lo, t3, load, i3, j3, rfl, s3 _ _ hlo, s3 _ _ ht3, hi3, hj3, by omega, fun b5 ms5 H5 s5 hb5 pm od => ?_⟩
        have e5 : ms5 = mvS load i3 j3 := fall_eq pm od
        subst e5
        refine ⟨b5, _, _, rfl, (s'.trans s3).trans s5, hb5, by rw [mvS_len]; exact hll, ?_⟩
        rw [hw]
        simp [walkD, g]
    · rintro σ H' ⟨lo, load, o4, rfl, s', hlo, hll, hw⟩
      rw [xl, List.drop_length] at hw
      refine ⟨_, rfl, _, rfl, lo, a, _, _, rfl, rfl, SqT.of hlo, SqT.of (s' _ _ ha), flat_iv _, flat_iv _, ?_⟩
      rw [seq_iv]
      have := k H' s'
      have e : letsD ns ms (.list ds) = decide (load = ns) := by
        show decide (walkD ms ds = some ns) = _
        rw [hw]
        simp [walkD]
      rw [e] at this
      exact this
  | _ => exact iteT (k H (Same.refl _))
end
end My

set_option Elab.async false
set_option linter.all false
set_option maxRecDepth 100000
set_option maxHeartbeats 1000000
namespace L2
open PySem PySem.Spec PyProof.Rows MA
section
variable {X : Cx}
theorem eqAt_prP {pins : List (Addr × Obj)} {σ : St} {H : Hp} {s : Shared} {A : Around} (I : Inv X pins σ H s) (hu : A.units < cLine) {a b : Addr} {p q : Int × Int} (ha : H a = some (.tup [.int p.1, .int p.2])) (hb : H b = some (.tup [.int q.1, .int q.2])) : SeqAt.EqAt A s (.ref a) (.ref b) (decide (p = q)) := by
  by_cases e : a = b
  · subst e
    rw [ha] at hb
    have : p = q := by
      obtain ⟨p1, p2⟩ := p
      obtain ⟨q1, q2⟩ := q
      simp at hb
      rw [hb.1, hb.2]
    rw [decide_eq_true this]
    exact SeqAt.EqAt.same _
  obtain ⟨us, r1, t1, z1⟩ := I.tuple (SqT.of ha)
  obtain ⟨ws, r2, t2, z2⟩ := I.tuple (SqT.of hb)
  refine SeqAt.EqAt.of_refs e ?_
  have key := SeqAt.RcAt.tuples (A := A) (s := s) (e := fun j => eqV (([V.int p.1, V.int p.2] : List V).getD j .non) (([V.int q.1, V.int q.2] : List V).getD j .non)) (show s.heap.IsTuple a us.toArray from t1) (show s.heap.IsTuple b ws.toArray from t2) hu (fun j x y =>
    eqAt_V (rel_at r1 x) (rel_at r2 y) (all_at (by rfl) (by have := r1.length; have := x; simp at this ⊢; simp at *; omega)) (all_at (by rfl) (by have := r2.length; have := y; simp at this ⊢; simp at *; omega)))
  have e2 := My.seq_iv [p.1, p.2] [q.1, q.2]
  unfold eqSeq at e2
  have e3 : decide (p = q) = decide ([p.1, p.2] = [q.1, q.2]) := by
    obtain ⟨p1, p2⟩ := p
    obtain ⟨q1, q2⟩ := q
    simp
  rw [e3, ← e2]
  rw [List.size_toArray, List.size_toArray, ← r1.length, ← r2.length] at key
  exact key
/-- is it that pair, by what lies there -/
def isPr (H : Hp) (q : Int × Int) : Value → Bool
  | .ref a => match H a with
    | some (.tup [.int x, .int y]) => decide ((x, y) = q)
    | _ => false
  | _ => false
theorem isPr_at {H : Hp} {q p : Int × Int} {a : Addr} (h : H a = some (.tup [.int p.1, .int p.2])) : isPr H q (.ref a) = decide (p = q) := by
  show (match H a with | some (.tup [.int x, .int y]) => decide ((x, y) = q) | _ => false) = _
  rw [h]
/-- a pair that is not in a list of pairs -/
theorem op_notInP (hu : X.A.units + 1 < cLine) : OpR X (compareOp .NotIn) (fun x y H Q => ∃ (a l : Addr) (q : Int × Int) (zs : List V) (ps : List (Int × Int)), x = .ref a ∧ y = .ref l ∧ H a = some (.tup [.int q.1, .int q.2]) ∧ H l = some (.lst zs) ∧ Prs H zs ps ∧ Q (.bl (!decide (q ∈ ps))) H) := by
  intro pins s σ H x y v u Q I rx ry h
  obtain ⟨a, l, q, zs, ps, rfl, rfl, ha, hl, hp, k⟩ := h
  cases rx
  cases ry
  obtain ⟨its, r, pl, hz⟩ := I.list (SqL.of hl)
  have all : ∀ {zs : List V} {ps : List (Int × Int)} {us : List Value}, Prs H zs ps → Vals zs us → (∀ w ∈ us, ∃ (b : Addr) (p : Int × Int), w = .ref b ∧ H b = some (.tup [.int p.1, .int p.2])) ∧ us.any (isPr H q) = decide (q ∈ ps) := by
    intro zs ps us h1 h2
    induction h1 generalizing us with
    | nil => cases h2; exact ⟨fun w hw => by simp at hw, by simp⟩
    | @cons z p zs ps hz _ ih =>
      cases h2 with
      | @cons _ u _ us r1 r2 =>
        obtain ⟨b, rfl, hb⟩ := hz
        cases r1
        obtain ⟨h3, h4⟩ := ih r2
        refine ⟨fun w hw => ?_, ?_⟩
        · rcases List.mem_cons.mp hw with e | e
          · exact ⟨b, p, e, hb⟩
          · exact h3 w e
        · rw [List.any_cons, h4, isPr_at hb]
          by_cases e : p = q
          · subst e; simp
          · simp [e, Ne.symm e]
  obtain ⟨h3, h4⟩ := all hp r
  refine SeqAt.notIn_listAt (isPr H q) pl.isList (fun w hw => ?_) ⟨.bl _, H, I, rfl, ?_⟩
  · obtain ⟨b, p, rfl, hb⟩ := h3 w (by simpa using hw)
    rw [isPr_at hb]
    exact eqAt_prP (A := X.A.in1) I (show X.A.in1.units < cLine from hu) hb ha
  · rw [show its.toArray.any (isPr H q) = its.any (isPr H q) by simp, h4]
    exact k
end
end L2
namespace My
open PySem L2 MA Srt PySem.Spec
theorem prs_app {H : Hp} : ∀ {xs ys : List V} {ps qs : List (Int × Int)}, Prs H xs ps → Prs H ys qs → Prs H (xs ++ ys) (ps ++ qs)
  | _, _, _, _, .nil, h => h
  | _, _, _, _, .cons a t, h => .cons a (prs_app t h)
def canR (ns : List Int) (i j : Nat) : List (Int × Int) := ((List.range j).filter fun q : Nat => decide (ns.getD i 0 - ns.getD q 0 > 1)).map fun q : Nat => (((i : Nat) : Int), ((q : Nat) : Int))
def canI (ns : List Int) (k : Nat) : List (Int × Int) := (List.range k).flatMap fun i => canR ns i ns.length
theorem canI_mem {ns : List Int} {q : Int × Int} : q ∈ canI ns ns.length ↔ ∃ (i j : Nat), q = ((i : Int), (j : Int)) ∧ i < ns.length ∧ j < ns.length ∧ ns.getD i 0 - ns.getD j 0 > 1 := by
  unfold canI canR
  simp only [List.mem_flatMap, List.mem_range, List.mem_map, List.mem_filter, decide_eq_true_eq]
  constructor
  · rintro ⟨i, hi, j, ⟨hj, g⟩, rfl⟩
    exact ⟨i, j, rfl, hi, hj, g⟩
  · rintro ⟨i, j, rfl, hi, hj, g⟩
    exact ⟨i, hi, j, ⟨hj, g⟩, rfl⟩
theorem canR_succ (ns : List Int) (i j : Nat) : canR ns i (j + 1) = canR ns i j ++ if ns.getD i 0 - ns.getD j 0 > 1 then [((i : Int), (j : Int))] else [] := by
  unfold canR
  rw [List.range_succ, List.filter_append, List.map_append]
  congr 1
  by_cases c : ns.getD i 0 - ns.getD j 0 > 1
  · rw [if_pos c, List.filter_cons, if_pos (decide_eq_true c)]; rfl
  · rw [if_neg c, List.filter_cons, if_neg (fun z => c (of_decide_eq_true z))]; rfl
theorem canR_len (ns : List Int) (i : Nat) : ∀ j, (canR ns i j).length ≤ j
  | 0 => by simp [canR]
  | j + 1 => by
    have := canR_len ns i j
    rw [canR_succ, List.length_append]
    split <;> simp <;> omega
theorem canI_succ (ns : List Int) (k : Nat) : canI ns (k + 1) = canI ns k ++ canR ns k ns.length := by
  unfold canI; rw [List.range_succ, List.flatMap_append]; simp
theorem canI_len (ns : List Int) : ∀ k, (canI ns k).length ≤ k * ns.length
  | 0 => by simp [canI]
  | k + 1 => by
    have := canI_len ns k
    have := canR_len ns k ns.length
    rw [canI_succ, List.length_append, Nat.add_mul]; omega
theorem goI_in {ns : List Int} {i j : Int} (h : (i, j) ∈ canI ns ns.length) : ∃ (i3 j3 : Nat), i = i3 ∧ j = j3 ∧ i3 < ns.length ∧ j3 < ns.length ∧ goI ns i j = some (mvS ns i3 j3) := by
  obtain ⟨i3, j3, e, hi, hj, g⟩ := canI_mem.mp h
  cases e
  rw [gD hi, gD hj] at g
  exact ⟨i3, j3, rfl, rfl, hi, hj, by rw [goI_nat hi hj, if_pos g]⟩
theorem goI_out {ns : List Int} {i j : Int} (h : (i, j) ∉ canI ns ns.length) : goI ns i j = none := by
  unfold goI
  rw [if_neg]
  rintro ⟨h1, h2, h3, h4, g⟩
  exact h (canI_mem.mpr ⟨i.toNat, j.toNat, by rw [Int.toNat_of_nonneg h1, Int.toNat_of_nonneg h3], by omega, by omega, g⟩)
theorem isI_ex {d : PyData} (h : isI d = true) : ∃ i, d = .int i := by
  cases d <;> simp [isI] at h
  exact ⟨_, rfl⟩
theorem goD_no2 {ns : List Int} {ds : List PyData} (h : ds.length ≠ 2) : goD ns (.tuple ds) = none := by
  unfold goD
  split
  · rename_i e
    cases e
    simp at h
  · rfl
theorem goD_noI {ns : List Int} {a b : PyData} (h : (isI a && isI b) = false) : goD ns (.tuple [a, b]) = none := by
  unfold goD
  split
  · rename_i e
    cases e
    simp [isI] at h
  · rfl
section
variable {P : Program} {w : World} {K : PySem.W.Frag} {mg : Str → Option Value} {base : Heap}
def spCanX : Sp := fun vs H Q _ => ∃ (a : Addr) (ns : List Int), vs = [.ref a] ∧ H a = some (.tup (iv ns)) ∧ ns.length ≤ 10 ∧ ∀ (l : Addr) (zs : List V) (H' : Hp), Same H H' → H' l = some (.lst zs) → Prs H' zs (canI ns ns.length) → Q (.ref l) H'
theorem ok_canX (T : Txt2 mg) (F : FunAt K mg "_law_can" ["_law_load_here"] s_l_can) : Cal P w K mg base "_law_can" ["_law_load_here"] 1 spCanX := by
  have S := sc_l_can
  refine F.cal sc_l_can (fun vs H Q E h => ?_) (fun f cdv A outer s H vs Q E hr h => ?_)
  · obtain ⟨a, ns, rfl, _⟩ := h; rfl
  obtain ⟨a, ns, rfl, ha, l10, k⟩ := h
  refine ⟨_, (@pss_cons _ _ _ _ _ (@ps_set _ _ (1) _ _ _ _ (by exact S.nd) (by rfl) (by first | exact Or.inl rfl | exact Or.inr rfl) (@pe_lst _ _ _ _ pa_nil) (by first|rfl|decide|exact .inl rfl|exact .inr rfl|(intros; rfl)) (by first|rfl|decide|exact .inl rfl|exact .inr rfl|(intros; rfl))) (@pss_cons _ _ _ _ _ (@ps_for _ _ _ _ _ _ _ _ (by exact PassesOwn.never) (by rfl) (@pi_range1 _ _ _ _ _ _ (by rfl) (by exact T.z_range) (@pa_consN _ _ _ _ _ (@pe_callB _ _ _ _ _ _ _ _ _ call_len_seq (by rfl) (by exact T.z_len) (by exact bt_len) (@pa_consN _ _ _ _ _ (pv 0) pa_nil (by first|rfl|decide|exact .inl rfl|exact .inr rfl|(intros; rfl))) (by first|rfl|decide|exact .inl rfl|exact .inr rfl|(intros; rfl)) (by first|rfl|decide|exact .inl rfl|exact .inr rfl|(intros; rfl)) (by first|rfl|decide|exact .inl rfl|exact .inr rfl|(intros; rfl)) (by first|rfl|decide|exact .inl rfl|exact .inr rfl|(intros; rfl))) pa_nil (by first|rfl|decide|exact .inl rfl|exact .inr rfl|(intros; rfl))) (by first|rfl|decide|exact .inl rfl|exact .inr rfl|(intros; rfl))) (@pg_name _ _ (2) _ (by exact S.nd) (by rfl) (by first | exact Or.inl rfl | exact Or.inr rfl) (by first|rfl|decide|exact .inl rfl|exact .inr rfl|(intros; rfl))) (@pss_one _ _ _ (@ps_expr _ _ _ _ (@pe_bm _ _ _ _ _ _ _ _ _ _ _ _ (by exact PySem.F.plainAttrs_list) (by exact PySem.F.slot_list_extend) (by exact PySem.F.type_list_extend) mt_extend (pv 1) (@pa_consN _ _ _ _ _ (@pe_comp _ _ _ _ _ _ _ _ _ _ _ _ _ (by rfl) (by exact (fun _ _ h => h)) (by decide +kernel) (by rfl) (by decide +kernel) (by exact hfr_of rfl) (by exact Sees.frees ["_law_j"] [("_law_i", 2), ("_law_load_here", 0)] (fr_cons ⟨rfl, rfl⟩ (fr_cons ⟨rfl, rfl⟩ fr_nil))) (@pi_range1 _ _ _ _ _ _ (by rfl) (by exact T.z_range) (@pa_consN _ _ _ _ _ (@pe_callB _ _ _ _ _ _ _ _ _ call_len_seq (by rfl) (by exact T.z_len) (by exact bt_len) (@pa_consN _ _ _ _ _ (pv 0) pa_nil (by first|rfl|decide|exact .inl rfl|exact .inr rfl|(intros; rfl))) (by first|rfl|decide|exact .inl rfl|exact .inr rfl|(intros; rfl)) (by first|rfl|decide|exact .inl rfl|exact .inr rfl|(intros; rfl)) (by first|rfl|decide|exact .inl rfl|exact .inr rfl|(intros; rfl)) (by first|rfl|decide|exact .inl rfl|exact .inr rfl|(intros; rfl))) pa_nil (by first|rfl|decide|exact .inl rfl|exact .inr rfl|(intros; rfl))) (by first|rfl|decide|exact .inl rfl|exact .inr rfl|(intros; rfl))) (fun _ _ _ _ _ => @pg_name _ _ (0) _ (by exact (show (["_law_j", "_law_i", "_law_load_here"] : List Str).Nodup by decide +kernel)) (by rfl) (by first | exact Or.inl rfl | exact Or.inr rfl) (by first|rfl|decide|exact .inl rfl|exact .inr rfl|(intros; rfl))) (fun _ _ _ _ _ => (@pts_one _ _ _ (@pt_cmpR _ _ _ _ _ _ _ _ op_gt (@pe_op _ _ _ _ _ _ _ _ op_sub (@pe_ix _ _ _ _ _ _ _ ix_tup0 (pv 2) (pv 1) (by exact (fun _ _ => rfl))) (@pe_ix _ _ _ _ _ _ _ ix_tup0 (pv 2) (pv 0) (by exact (fun _ _ => rfl)))) pe_int (by exact (nomark _))))) (fun _ _ _ _ _ => (@pe_tup _ _ _ _ _ (@pa_consN _ _ _ _ _ (pv 1) (@pa_consN _ _ _ _ _ (pv 0) pa_nil (by first|rfl|decide|exact .inl rfl|exact .inr rfl|(intros; rfl))) (by first|rfl|decide|exact .inl rfl|exact .inr rfl|(intros; rfl))))) (by first|rfl|decide|exact .inl rfl|exact .inr rfl|(intros; rfl))) pa_nil (by first|rfl|decide|exact .inl rfl|exact .inr rfl|(intros; rfl))) (by first|rfl|decide|exact .inl rfl|exact .inr rfl|(intros; rfl)) (by first|rfl|decide|exact .inl rfl|exact .inr rfl|(intros; rfl)) (by first|rfl|decide|exact .inl rfl|exact .inr rfl|(intros; rfl)) (by first|rfl|decide|exact .inl rfl|exact .inr rfl|(intros; rfl)) (by first|rfl|decide|exact .inl rfl|exact .inr rfl|(intros; rfl))) (by first|rfl|decide|exact .inl rfl|exact .inr rfl|(intros; rfl)))) (by first|rfl|decide|exact .inl rfl|exact .inr rfl|(intros; rfl))) (@pss_one _ _ _ (@ps_ret _ _ _ _ (pv 1))))), ?_⟩
  refine ⟨(by show 0 ≤ sizeLine; exact Nat.zero_le _), fun l hl => ?_⟩
  have s1 := same_new hl (.lst [])
  have el : ((((iv ns).length : Nat) : Int)).toNat = ns.length := by simp
  refine ⟨_, rfl, a, _, rfl, .inr (SqT.of (s1 _ _ ha)), _, rfl, by omega, by simp; omega, for_range (n := ((((iv ns).length : Nat) : Int)).toNat) (fun i σ H' => ∃ o2 zs, σ = [some (.ref a), some (.ref l), o2] ∧ Same H H' ∧ H' l = some (.lst zs) ∧ Prs H' zs (canI ns i)) ⟨_, [], rfl, s1, upd_same, .nil⟩ ?_ ?_⟩
  · rintro i σ H' hi ⟨o2, zs, rfl, s', hz, hzs⟩
    have hi' : i < ns.length := by simpa using hi
    have hx : ns[i]? = some ns[i] := List.getElem?_eq_getElem hi'
    have hal := s' _ _ ha
    refine ⟨_, rfl, .inl ⟨rfl, _, SqL.of hz⟩, _, rfl, a, _, rfl, .inr (SqT.of hal), _, rfl, by omega, by simp; omega, comp_rngT (n := ((((iv ns).length : Nat) : Int)).toNat) (lo := 0) (fs := [some (.int (0 + (i : Int))), some (.ref a)])
      (fun p j ys H2 => Same H' H2 ∧ Prs H2 ys (canR ns i j)) (by simp; omega) (fun p hp => ⟨same_new hp _, .nil⟩) ?_ ?_⟩
    · rintro p j ys H2 hp hj ⟨s2, hys⟩ hp2 Qf Q' hQf hQ
      have hj' : j < ns.length := by simpa using hj
      have hy : ns[j]? = some ns[j] := List.getElem?_eq_getElem hj'
      refine ⟨_, rfl, _, rfl, a, _, _, _, rfl, rfl, s2 _ _ hal, (by show atI (iv ns) (0 + (i : Int)) = _; rw [Int.zero_add]; exact atI_iv hx), _, rfl, _, rfl, a, _, _, _, rfl, rfl, s2 _ _ hal, (by show atI (iv ns) (0 + (j : Int)) = _; rw [Int.zero_add]; exact atI_iv hy), _, _, rfl, rfl, _, _, rfl, rfl, _, rfl, ?_⟩
      have es := canR_succ ns i j
      rw [gD hi', gD hj'] at es
      refine ite2 (fun c => ?_) (fun c => hQf H2 hp2 ⟨s2, ?_⟩)
      rotate_left 1
      · rw [es, if_neg (fun z => c (decide_eq_true (by omega))), List.append_nil]
        exact hys
      have c' : ns[i] - ns[j] > 1 := by have := of_decide_eq_true c; omega
      refine ⟨_, rfl, _, rfl, (by show 2 ≤ sizeLine; decide), fun t ht => ?_⟩
      have s3 := same_new ht (.tup [.int (0 + (i : Int)), .int (0 + (j : Int))])
      have ht3 : (upd H2 t (.tup [.int (0 + (i : Int)), .int (0 + (j : Int))])) t = some (.tup [.int (i : Int), .int (j : Int)]) := by rw [upd_same, Int.zero_add, Int.zero_add]
      generalize upd H2 t (.tup [.int (0 + (i : Int)), .int (0 + (j : Int))]) = H3 at s3 ht3
      refine hQ _ H3 (s3 _ _ hp2) ⟨same_updN hp (s2.trans s3) _, ?_⟩
      rw [es, if_pos c']
      exact Prs.updL (s3 _ _ hp2) (Prs.snoc (p := ((i : Int), (j : Int))) ⟨t, rfl, ht3⟩ (hys.same s3))
    rintro p ys H2 hp ⟨s2, hys⟩ hp2
    rw [el] at hys
    have z1 : zs.length ≤ 100 := by
      have h1 := canI_len ns i
      have h2 : i * ns.length ≤ 10 * 10 := Nat.mul_le_mul (by omega) l10
      rw [Paired.length hzs]; omega
    have y1 : ys.length ≤ 10 := by
      have := canR_len ns i ns.length
      rw [Paired.length hys]; omega
    refine ⟨l, p, zs, ys, rfl, rfl, s2 _ _ hz, hp2, (by rw [sizeLine_eq]; omega), ?_⟩
    refine ⟨_, zs ++ ys, rfl, same_updN hl (s'.trans s2) _, upd_same, ?_⟩
    rw [canI_succ]
    exact Prs.updL (s2 _ _ hz) (prs_app (hzs.same s2) hys)
  · rintro σ H' ⟨o2, zs, rfl, s', hz, hzs⟩
    rw [el] at hzs
    exact ⟨_, rfl, k l zs H' s' hz hzs⟩
def spLeadsD : Sp := fun vs H Q _ => ∃ (a b : Addr) (v : V) (one other : List Int) (d : PyData), vs = [.ref a, .ref b, v] ∧ H a = some (.tup (iv one)) ∧ H b = some (.tup (iv other)) ∧ other.length ≤ 10 ∧ DataT H v d ∧ ∀ H', Same H H' → Q (.bl (letsD one other d)) H'
theorem ok_leads (T : Txt2 mg) (C_l_is_whole : Cal P w K mg base "_law_is_whole" ["_law_thing_here"] 1 spWholeV) (C_l_can : Cal P w K mg base "_law_can" ["_law_load_here"] 1 spCanX) (C_l_moved : Cal P w K mg base "_law_moved" ["_law_load_here", "_law_i", "_law_j"] 1 spMovedL) (F : FunAt K mg "_law_leads" ["_law_one", "_law_other_here", "_law_thing_here"] s_l_leads) : Cal P w K mg base "_law_leads" ["_law_one", "_law_other_here", "_law_thing_here"] 2 spLeadsD := by
  have S := sc_l_leads
  refine F.cal sc_l_leads (fun vs H Q E h => ?_) (fun f cdv A outer s H vs Q E hr h => ?_)
  · obtain ⟨a, b, v, ns, ms, d, rfl, _⟩ := h; rfl
  obtain ⟨a, b, v, ns, ms, d, rfl, ha, hb, l10, hd, k⟩ := h
  have hu := hr.units0
  have hu1 := hu_of hr
  refine ⟨_, (@pss_cons _ _ _ _ _ (@ps_if _ _ _ _ _ _ _ _ (@pt_not _ _ _ _ (@pt_val _ _ _ (@pe_callB _ _ _ _ _ _ _ _ _ call_isi (by rfl) (by exact T.z_isinstance) (by exact bt_isinstance) (@pa_consN _ _ _ _ _ (pv 2) (@pa_consN _ _ _ _ _ (@pe_bltn _ _ (.ty "list") _ _ (by rfl) (by exact T.z_list) (by exact bt_list) (by rfl) (by first|rfl|decide|exact .inl rfl|exact .inr rfl|(intros; rfl)) (by first|rfl|decide|exact .inl rfl|exact .inr rfl|(intros; rfl))) pa_nil (by first|rfl|decide|exact .inl rfl|exact .inr rfl|(intros; rfl))) (by first|rfl|decide|exact .inl rfl|exact .inr rfl|(intros; rfl))) (by first|rfl|decide|exact .inl rfl|exact .inr rfl|(intros; rfl)) (by first|rfl|decide|exact .inl rfl|exact .inr rfl|(intros; rfl)) (by first|rfl|decide|exact .inl rfl|exact .inr rfl|(intros; rfl)) (by first|rfl|decide|exact .inl rfl|exact .inr rfl|(intros; rfl))) (by first|rfl|decide|exact .inl rfl|exact .inr rfl|(intros; rfl)))) (@pss_one _ _ _ (@ps_ret _ _ _ _ pe_bl)) pss_nil) (@pss_cons _ _ _ _ _ (@ps_set _ _ (3) _ _ _ _ (by exact S.nd) (by rfl) (by first | exact Or.inl rfl | exact Or.inr rfl) (pv 1) (by first|rfl|decide|exact .inl rfl|exact .inr rfl|(intros; rfl)) (by first|rfl|decide|exact .inl rfl|exact .inr rfl|(intros; rfl))) (@pss_cons _ _ _ _ _ (@ps_for _ _ _ _ _ _ _ _ (by exact PassesOwn.never) (by rfl) (@pi_list _ _ _ _ (pv 2)) (@pg_name _ _ (4) _ (by exact S.nd) (by rfl) (by first | exact Or.inl rfl | exact Or.inr rfl) (by first|rfl|decide|exact .inl rfl|exact .inr rfl|(intros; rfl))) (@pss_cons _ _ _ _ _ (@ps_if _ _ _ _ _ _ _ _ (@PW.pt _ _ _ (@pw_or _ _ _ _ _ _ _ (@pt_not _ _ _ _ (@pt_val _ _ _ (@pe_callB _ _ _ _ _ _ _ _ _ call_isi (by rfl) (by exact T.z_isinstance) (by exact bt_isinstance) (@pa_consN _ _ _ _ _ (pv 4) (@pa_consN _ _ _ _ _ (@pe_bltn _ _ (.ty "tuple") _ _ (by rfl) (by exact T.z_tuple) (by exact bt_tuple) (by rfl) (by first|rfl|decide|exact .inl rfl|exact .inr rfl|(intros; rfl)) (by first|rfl|decide|exact .inl rfl|exact .inr rfl|(intros; rfl))) pa_nil (by first|rfl|decide|exact .inl rfl|exact .inr rfl|(intros; rfl))) (by first|rfl|decide|exact .inl rfl|exact .inr rfl|(intros; rfl))) (by first|rfl|decide|exact .inl rfl|exact .inr rfl|(intros; rfl)) (by first|rfl|decide|exact .inl rfl|exact .inr rfl|(intros; rfl)) (by first|rfl|decide|exact .inl rfl|exact .inr rfl|(intros; rfl)) (by first|rfl|decide|exact .inl rfl|exact .inr rfl|(intros; rfl))) (by first|rfl|decide|exact .inl rfl|exact .inr rfl|(intros; rfl)))) (@pw_or _ _ _ _ _ _ _ (@pt_cmpR _ _ _ _ _ _ _ _ op_ne (@pe_callB _ _ _ _ _ _ _ _ _ call_len_seq (by rfl) (by exact T.z_len) (by exact bt_len) (@pa_consN _ _ _ _ _ (pv 4) pa_nil (by first|rfl|decide|exact .inl rfl|exact .inr rfl|(intros; rfl))) (by first|rfl|decide|exact .inl rfl|exact .inr rfl|(intros; rfl)) (by first|rfl|decide|exact .inl rfl|exact .inr rfl|(intros; rfl)) (by first|rfl|decide|exact .inl rfl|exact .inr rfl|(intros; rfl)) (by first|rfl|decide|exact .inl rfl|exact .inr rfl|(intros; rfl))) pe_int (by exact (nomark _))) (@pw_or1 _ _ _ _ (@pt_not _ _ _ _ (@pt_val _ _ _ (@pe_callB _ _ _ _ _ _ _ _ _ (call_all (by rfl)) (by rfl) (by exact T.z_all) (by exact bt_all) (@pa_consN _ _ _ _ _ (@pe_comp0 _ _ _ _ _ _ _ _ _ _ _ (["_law_rank"]) (fun _ => [none]) (by rfl) (by exact (fun _ _ h => h)) (by decide +kernel) (by rfl) (by decide +kernel) (by decide +kernel) (by exact Sees.none1) (@pi_tup _ _ _ _ (pv 4)) (fun _ _ _ _ _ => @pg_name _ _ (0) _ (by exact (show (["_law_rank"] : List Str).Nodup by decide +kernel)) (by rfl) (by first | exact Or.inl rfl | exact Or.inr rfl) (by first|rfl|decide|exact .inl rfl|exact .inr rfl|(intros; rfl))) (fun _ _ _ _ _ => pts_nil) (fun _ _ _ _ _ => (@cc _ _ _ _ _ _ _ _ _ _ (by exact C_l_is_whole) (by exact (hr.mono (by decide))) (@pa_consN _ _ _ _ _ (pv 0) pa_nil (by first|rfl|decide|exact .inl rfl|exact .inr rfl|(intros; rfl))) (by first|rfl|decide|exact .inl rfl|exact .inr rfl|(intros; rfl)) (by first|rfl|decide|exact .inl rfl|exact .inr rfl|(intros; rfl)) (by first|rfl|decide|exact .inl rfl|exact .inr rfl|(intros; rfl)) (by first|rfl|decide|exact .inl rfl|exact .inr rfl|(intros; rfl)))) (by first|rfl|decide|exact .inl rfl|exact .inr rfl|(intros; rfl))) pa_nil (by first|rfl|decide|exact .inl rfl|exact .inr rfl|(intros; rfl))) (by first|rfl|decide|exact .inl rfl|exact .inr rfl|(intros; rfl)) (by first|rfl|decide|exact .inl rfl|exact .inr rfl|(intros; rfl)) (by first|rfl|decide|exact .inl rfl|exact .inr rfl|(intros; rfl)) (by first|rfl|decide|exact .inl rfl|exact .inr rfl|(intros; rfl))) (by first|rfl|decide|exact .inl rfl|exact .inr rfl|(intros; rfl)))))))) (@pss_one _ _ _ (@ps_ret _ _ _ _ pe_bl)) pss_nil) (@pss_cons _ _ _ _ _ (@ps_if _ _ _ _ _ _ _ _ (@pt_cmpR _ _ _ _ _ _ _ _ (op_notInP hu1) (pv 4) (@cc _ _ _ _ _ _ _ _ _ _ (by exact C_l_can) (by exact (hr.mono (by decide))) (@pa_consN _ _ _ _ _ (pv 3) pa_nil (by first|rfl|decide|exact .inl rfl|exact .inr rfl|(intros; rfl))) (by first|rfl|decide|exact .inl rfl|exact .inr rfl|(intros; rfl)) (by first|rfl|decide|exact .inl rfl|exact .inr rfl|(intros; rfl)) (by first|rfl|decide|exact .inl rfl|exact .inr rfl|(intros; rfl)) (by first|rfl|decide|exact .inl rfl|exact .inr rfl|(intros; rfl))) (by with_unfolding_all rfl)) (@pss_one _ _ _ (@ps_ret _ _ _ _ pe_bl)) pss_nil) (@pss_one _ _ _ (@ps_set _ _ (3) _ _ _ _ (by exact S.nd) (by rfl) (by first | exact Or.inl rfl | exact Or.inr rfl) (@cc _ _ _ _ _ _ _ _ _ _ (by exact C_l_moved) (by exact (hr.mono (by decide))) (@pa_consN _ _ _ _ _ (pv 3) (@pa_consN _ _ _ _ _ (@pe_ix _ _ _ _ _ _ _ ix_tup (pv 4) pe_int (by exact (fun _ _ => rfl))) (@pa_consN _ _ _ _ _ (@pe_ix _ _ _ _ _ _ _ ix_tup (pv 4) pe_int (by exact (fun _ _ => rfl))) pa_nil (by first|rfl|decide|exact .inl rfl|exact .inr rfl|(intros; rfl))) (by first|rfl|decide|exact .inl rfl|exact .inr rfl|(intros; rfl))) (by first|rfl|decide|exact .inl rfl|exact .inr rfl|(intros; rfl))) (by first|rfl|decide|exact .inl rfl|exact .inr rfl|(intros; rfl)) (by first|rfl|decide|exact .inl rfl|exact .inr rfl|(intros; rfl)) (by first|rfl|decide|exact .inl rfl|exact .inr rfl|(intros; rfl)) (by first|rfl|decide|exact .inl rfl|exact .inr rfl|(intros; rfl))) (by first|rfl|decide|exact .inl rfl|exact .inr rfl|(intros; rfl)) (by first|rfl|decide|exact .inl rfl|exact .inr rfl|(intros; rfl)))))) (by first|rfl|decide|exact .inl rfl|exact .inr rfl|(intros; rfl))) (@pss_one _ _ _ (@ps_ret _ _ _ _ (@pe_cmpR _ _ _ _ _ _ _ _ (op_eqT hu) (pv 3) (pv 0) (by exact (nomark _)))))))), ?_⟩
  obtain ⟨t, ty, e4⟩ := tyLT (K := K) hd
  refine ⟨_, rfl, _, _, _, _, rfl, ty, e4, _, rfl, ?_⟩
  clear ty
  rcases hd with hd | ⟨ta, tkvs, tps, rfl, rfl, _⟩
  rotate_left 1
  · exact iteT (k H (Same.refl _))
  cases hd with
  | @lst l xs ds hl hx =>
    refine iteF ?_
    have xl := hx.length
    refine ⟨_, rfl, ?_⟩
    refine ⟨_, rfl, l, rfl, ⟨_, SqL.of hl⟩, for_Y (yields_lst (xs := xs)) (fun i σ H' => ∃ (lo : Addr) (load : List Int) (o4 : Option V), σ = [some (.ref a), some (.ref b), some (.ref l), some (.ref lo), o4] ∧ Same H H' ∧ H' lo = some (.tup (iv load)) ∧ load.length = ms.length ∧ walkD ms ds = walkD load (ds.drop i)) ⟨b, ms, _, rfl, Same.refl _, hb, rfl, rfl⟩ ?_ ?_ ?_⟩
    · rintro i σ H' ⟨_, _, _, _, s', _⟩
      exact s' _ _ hl
    · rintro i x σ H1 H2 hi ⟨lo, load, o4, rfl, s', hlo, hll, hw⟩ ⟨rfl, hxi⟩
      obtain ⟨d, hdi, hvd⟩ := DataL.get' hx hxi
      have hvd1 := hvd.same s'
      have hdl := (List.getElem?_eq_some_iff.mp hdi).1
      rw [List.drop_eq_getElem_cons hdl, (List.getElem?_eq_some_iff.mp hdi).2] at hw
      have no : ∀ H', Same H H' → goD load d = none → Q (.bl false) H' := fun H' sH g => by
        have := k H' sH
        have e : letsD ns ms (.list ds) = false := by
          show decide (walkD ms ds = some ns) = false
          rw [hw]
          simp [walkD, g]
        rw [e] at this
        exact this
      refine gN_ ?_
      obtain ⟨t, ty, _, _, e3, _⟩ := tyOf (K := K) hvd1
      refine ⟨_, rfl, _, _, _, _, rfl, ty, e3, _, rfl, ?_⟩
      clear ty hvd
      cases hvd1 with
      | @tup p ys es hp hy =>
        have yl := hy.length
        refine iteF ?_
        refine ⟨_, rfl, p, ys, rfl, .inr (SqT.of hp), rfl, _, rfl, ?_⟩
        refine ite2 (fun c => ?_) (fun c => ?_)
        · exact no H2 s' (goD_no2 fun z => len_ne c (by rw [yl, z]; rfl))
        have h2 : es.length = 2 := by rw [← yl]; exact len_eq (m := 2) c
        refine ⟨_, rfl, p, rfl, ⟨_, SqT.of hp⟩, comp_Y (yields_tup (xs := ys)) (fun acc i zs σ' H' => Same H2 H' ∧ (∃ o1, σ' = [o1]) ∧ zs = ((es.take i).map fun d => V.bl (isI d))) (by omega) ?_ ?_ ?_ ?_⟩
        · exact fun acc hacc => ⟨same_new hacc _, ⟨_, rfl⟩, rfl⟩
        · rintro acc i zs σ' H' hacc ⟨s3, _⟩
          exact s3 _ _ hp
        · rintro acc i zs σ' H' x H3 hacc hi hlen ⟨s3, ⟨o1, rfl⟩, rfl⟩ hH' ⟨rfl, hx'⟩ Q1 Q2 h1 h2'
          obtain ⟨d', hd', hv'⟩ := DataL.get' hy hx'
          refine gN_ (tT_ (iteT ⟨_, rfl, x, d', rfl, hv'.same s3, h1 _ _ _ hH' ⟨same_updN hacc s3 _, ⟨_, rfl⟩, ?_⟩⟩))
          rw [take_snoc hd', List.map_append]; rfl
        rintro acc zs σ' H3 hacc ⟨s3, _, rfl⟩ hH' hlen'
        rw [yl, List.take_length] at hH'
        have eb : (es.map fun d => V.bl (isI d)) = (es.map isI).map V.bl := by rw [List.map_map]; rfl
        rw [eb] at hH'
        refine ⟨acc, es.map isI, rfl, hH', _, rfl, ?_⟩
        match es, h2, hy with
        | [d1, d2], _, hy =>
          have ea : (([d1, d2] : List PyData).map isI).all id = (isI d1 && isI d2) := by simp
          rw [ea]
          cases cI : (isI d1 && isI d2) with
          | false => exact iteT (no H3 (s'.trans s3) (goD_noI cI))
          | true =>
            obtain ⟨c1, c2⟩ := Bool.and_eq_true_iff.mp cI
            obtain ⟨i1, rfl⟩ := isI_ex c1
            obtain ⟨j1, rfl⟩ := isI_ex c2
            refine iteF ?_
            obtain ⟨t', et, ht'⟩ := pair_of (DataV.tup hp hy)
            cases et
            refine ⟨_, rfl, _, rfl, lo, load, rfl, s3 _ _ hlo, by omega, fun lc zc H4 s4 hlc hpc => ?_⟩
            refine ⟨p, lc, (i1, j1), zc, _, rfl, rfl, (s3.trans s4) _ _ ht', hlc, hpc, _, rfl, ?_⟩
            by_cases cm : (i1, j1) ∈ canI load load.length
            case neg =>
              rw [decide_eq_false cm]
              exact iteT (no H4 (s'.trans (s3.trans s4)) (goI_out cm))
            rw [decide_eq_true cm]
            refine iteF ?_
            obtain ⟨i3, j3, rfl, rfl, hi3, hj3, g⟩ := goI_in cm
            have ht4 := (s3.trans s4) _ _ ht'
            refine ⟨_, rfl, _, rfl, p, _, _, _, rfl, rfl, SqT.of ht4, rfl, _, rfl, p, _, _, _, rfl, rfl, SqT.of ht4, rfl, lo, load, i3, j3, rfl, (s3.trans s4) _ _ hlo, hi3, hj3, by omega, fun b5 ms5 H5 s5 hb5 pm od => ?_⟩
            have e5 : ms5 = mvS load i3 j3 := fall_eq pm od
            subst e5
            refine ⟨b5, _, _, rfl, s'.trans (s3.trans (s4.trans s5)), hb5, by rw [mvS_len]; exact hll, ?_⟩
            rw [hw]
            have g2 : goD load (.tuple [.int (i3 : Int), .int (j3 : Int)]) = some (mvS load i3 j3) := g
            simp [walkD, g2]
      | _ => exact iteT (no H2 s' rfl)
    · rintro σ H' ⟨lo, load, o4, rfl, s', hlo, hll, hw⟩
      rw [xl, List.drop_length] at hw
      refine ⟨_, rfl, _, rfl, lo, a, _, _, rfl, rfl, SqT.of hlo, SqT.of (s' _ _ ha), flat_iv _, flat_iv _, ?_⟩
      rw [seq_iv]
      have := k H' s'
      have e : letsD ns ms (.list ds) = decide (load = ns) := by
        show decide (walkD ms ds = some ns) = _
        rw [hw]
        simp [walkD]
      rw [e] at this
      exact this
  | _ => exact iteT (k H (Same.refl _))
end
end My

set_option Elab.async false
set_option linter.all false
set_option maxRecDepth 100000
set_option maxHeartbeats 1000000
namespace My
open PySem L2 MA Srt PySem.Spec
theorem sum_set {l : List Int} {i : Nat} (hi : i < l.length) (v : Int) : (l.set i v).sum = l.sum + (v - l[i]) := by
  have := pre_set hi v l.length (Nat.le_refl _)
  rw [if_pos hi, pre_all (by rw [List.length_set]; exact Nat.le_refl _), pre_all (Nat.le_refl _)] at this
  exact this
theorem perm_sum {a b : List Int} (h : a.Perm b) : a.sum = b.sum := by
  induction h with
  | nil => rfl
  | cons x _ ih => simp [ih]
  | swap x y l => simp; omega
  | trans _ _ a b => rw [a, b]
theorem mv_sum {ns ms : List Int} {i j : Nat} (hi : i < ns.length) (hj : j < ns.length) (pm : ms.Perm (mvF ns i j)) : ms.sum = ns.sum := by
  have hj2 : j < (ns.set i (ns.getD i 0 - 1)).length := by rw [List.length_set]; exact hj
  have e1 := sum_set hi (ns.getD i 0 - 1)
  have e2 := sum_set hj2 ((ns.set i (ns.getD i 0 - 1)).getD j 0 + 1)
  have a1 := gD hi
  have a2 := gD hj2
  rw [perm_sum pm]
  unfold mvF
  omega
def sq (ns : List Int) : Int := (ns.map fun x => x * x).sum
theorem sq_perm {a b : List Int} (h : a.Perm b) : sq a = sq b := perm_sum (h.map _)
theorem sq_nn (ns : List Int) : 0 ≤ sq ns := by
  unfold sq
  induction ns with
  | nil => simp
  | cons a l ih =>
    rw [List.map_cons, List.sum_cons]
    have : 0 ≤ a * a := by
      rcases Int.le_total 0 a with h | h
      · exact Int.mul_nonneg h h
      · have := Int.mul_nonneg (show 0 ≤ -a by omega) (show 0 ≤ -a by omega)
        rwa [Int.neg_mul_neg] at this
    omega
theorem sq_set {l : List Int} {i : Nat} (hi : i < l.length) (v : Int) : sq (l.set i v) = sq l + (v * v - l[i] * l[i]) := by
  unfold sq
  rw [List.map_set, sum_set (by simpa using hi)]
  simp
theorem mvF_two {l : List Int} {i j : Nat} (hi : i < l.length) (hj : j < l.length) (h : i ≠ j) : mvF l i j = (l.set i (l[i] - 1)).set j (l[j] + 1) := by
  unfold mvF
  rw [gD hi]
  congr 1
  rw [gD (by simpa using hj), List.getElem_set_ne h]
theorem sq_mv {l : List Int} {i j : Nat} (hi : i < l.length) (hj : j < l.length) (g : l[i] - l[j] > 1) : sq (mvS l i j) < sq l := by
  have ne : i ≠ j := fun z => by subst z; omega
  rw [show sq (mvS l i j) = sq (mvF l i j) from sq_perm (fall_perm _), mvF_two hi hj ne, sq_set (by simpa using hj), sq_set hi, List.getElem_set_ne ne]
  have e1 : (l[i] - 1) * (l[i] - 1) = l[i] * l[i] - 2 * l[i] + 1 := by rw [Int.sub_mul, Int.mul_sub]; omega
  have e2 : (l[j] + 1) * (l[j] + 1) = l[j] * l[j] + 2 * l[j] + 1 := by rw [Int.add_mul, Int.mul_add]; omega
  rw [e1, e2]
  omega
theorem sum_mvS {l : List Int} {i j : Nat} (hi : i < l.length) (hj : j < l.length) : (mvS l i j).sum = l.sum := mv_sum hi hj (fall_perm _)
/-- a move made -/
theorem go_ex {ns ms : List Int} {d : PyData} (h : goD ns d = some ms) : ∃ (i j : Nat) (hi : i < ns.length) (hj : j < ns.length), d = .tuple [.int (i : Int), .int (j : Int)] ∧ ns[i] - ns[j] > 1 ∧ ms = mvS ns i j := by
  have c : twoD ns.length d = true := by
    cases c : twoD ns.length d with
    | true => rfl
    | false => rw [two_goD c] at h; cases h
  obtain ⟨i, j, rfl, hi, hj⟩ := two_ex c
  rw [show goD ns (.tuple [.int (i : Int), .int (j : Int)]) = goI ns i j from rfl, goI_nat hi hj] at h
  split at h
  · rename_i g
    cases h
    exact ⟨i, j, hi, hj, rfl, g, rfl⟩
  · cases h
theorem walk_sq : ∀ {ds : List PyData} {ns r : List Int}, walkD ns ds = some r → sq r ≤ sq ns
  | [], ns, r, h => by simp [walkD] at h; subst h; omega
  | d :: ds, ns, r, h => by
    cases g : goD ns d with
    | none => simp [walkD, g] at h
    | some ms =>
      simp [walkD, g] at h
      have := walk_sq h
      obtain ⟨i, j, hi, hj, _, gg, rfl⟩ := go_ex g
      have := sq_mv hi hj gg
      omega
theorem walk_snoc : ∀ {ds : List PyData} {ns : List Int} {d : PyData}, walkD ns (ds ++ [d]) = (walkD ns ds).bind fun ms => goD ms d
  | [], ns, d => by simp [walkD]; cases goD ns d <;> rfl
  | e :: ds, ns, d => by
    rw [List.cons_append]
    cases g : goD ns e with
    | none => simp [walkD, g]
    | some ms => simp only [walkD, g]; exact walk_snoc
/-- a row of loads -/
def Lds (H : Hp) : List V → List (List Int) → Prop := Paired fun v ns => ∃ b, v = .ref b ∧ H b = some (.tup (iv ns))
theorem Lds.imp {H H' : Hp} {xs : List V} {ls : List (List Int)} (k : ∀ b ys, H b = some (.tup ys) → H' b = some (.tup ys)) (h : Lds H xs ls) : Lds H' xs ls := Paired.mapP h fun _ _ ⟨b, e, hb⟩ => ⟨b, e, k _ _ hb⟩
theorem prs_imp {H H' : Hp} {xs : List V} {ps : List (Int × Int)} (k : ∀ b ys, H b = some (.tup ys) → H' b = some (.tup ys)) (h : Prs H xs ps) : Prs H' xs ps := Paired.mapP h fun _ _ ⟨b, e, hb⟩ => ⟨b, e, k _ _ hb⟩
/-- a walk from other, its moves and its loads -/
structure Wk (other : List Int) (ps : List (Int × Int)) (ls : List (List Int)) : Prop where
  len : ls.length = ps.length + 1
  pl : ∀ q ∈ ps, 0 ≤ q.1 ∧ q.1 < other.length ∧ 0 ≤ q.2 ∧ q.2 < other.length
  al : ∀ x ∈ ls, Alike x other
  last : ∃ one, ls[ps.length]? = some one ∧ walkD other (ps.map dp) = some one ∧ (ps ≠ [] → sq one < sq other) ∧ (ps = [] → one = other)
theorem Wk.nil (other : List Int) : Wk other [] [other] := ⟨rfl, fun q hq => by simp at hq, fun x hx => by simp at hx; subst hx; exact ⟨rfl, rfl⟩, other, rfl, rfl, fun z => absurd rfl z, fun _ => rfl⟩
theorem Wk.snoc {other : List Int} {ps : List (Int × Int)} {ls : List (List Int)} (h : Wk other ps ls) {one : List Int} (e : ls[ps.length]? = some one) {i j : Nat} (hi : i < one.length) (hj : j < one.length) (g : one[i] - one[j] > 1) : Wk other (ps ++ [((i : Int), (j : Int))]) (ls ++ [mvS one i j]) := by
  obtain ⟨one', e', hw, h1, h2⟩ := h.last
  rw [e] at e'
  cases e'
  have al1 := h.al one (List.mem_of_getElem? e)
  have sl := sq_mv hi hj g
  have gI : goD one (dp ((i : Int), (j : Int))) = some (mvS one i j) := by
    show goI one i j = _
    rw [goI_nat hi hj, if_pos g]
  refine ⟨by simp [h.len], fun q hq => ?_, fun x hx => ?_, mvS one i j, ?_, ?_, fun _ => ?_, fun z => by simp at z⟩
  · rcases List.mem_append.mp hq with z | z
    · exact h.pl q z
    · have := List.mem_singleton.mp z
      subst this
      have := al1.1
      exact ⟨by omega, by show (i : Int) < _; omega, by omega, by show (j : Int) < _; omega⟩
  · rcases List.mem_append.mp hx with z | z
    · exact h.al x z
    · have := List.mem_singleton.mp z
      subst this
      exact ⟨by rw [mvS_len]; exact al1.1, by rw [sum_mvS hi hj]; exact al1.2⟩
  · rw [List.length_append, List.getElem?_append_right (by rw [h.len]; simp)]
    simp [h.len]
  · rw [List.map_append]
    show walkD other (ps.map dp ++ [dp ((i : Int), (j : Int))]) = _
    rw [walk_snoc, hw]
    exact gI
  · by_cases z : ps = []
    · rw [h2 z] at sl; rw [h2 z]; exact sl
    · have := h1 z; omega
/-- the other way round -/
theorem Wk.back {other : List Int} {ps : List (Int × Int)} {ls : List (List Int)} (h : Wk other ps ls) {one : List Int} (e : ls[ps.length]? = some one) : letsD other one (.list (ps.map dp)) = decide (ps = []) := by
  obtain ⟨one', e', hw, h1, h2⟩ := h.last
  rw [e] at e'
  cases e'
  show decide (walkD one (ps.map dp) = some other) = _
  by_cases z : ps = []
  · rw [h2 z, decide_eq_true z]
    subst z
    simp [walkD]
  · rw [decide_eq_false z, decide_eq_false fun q => ?_]
    have := walk_sq q
    have := h1 z
    omega
theorem Wk.forth {other : List Int} {ps : List (Int × Int)} {ls : List (List Int)} (h : Wk other ps ls) {one : List Int} (e : ls[ps.length]? = some one) : letsD one other (.list (ps.map dp)) = true := by
  obtain ⟨one', e', hw, h1, h2⟩ := h.last
  rw [e] at e'
  cases e'
  exact decide_eq_true hw
end My

set_option Elab.async false
set_option linter.all false
set_option maxRecDepth 100000
set_option maxHeartbeats 1000000
namespace My
open PySem L2 MA Srt PySem.Spec
theorem none_of {H H' : Hp} {p : Addr} (s : Same H H') (h : H' p = none) : H p = none := by
  cases e : H p with
  | none => rfl
  | some o => rw [s _ _ e] at h; cases h
theorem tup_keep {H H' : Hp} {p : Addr} {m : Nat} (hp : Pen H p m) (x : SameX p H H') : ∀ b ys, H b = some (.tup ys) → H' b = some (.tup ys) := fun b ys e => hp.keep x e
theorem tup_upd {H : Hp} {l : Addr} {zs : List V} {o : HO} (hl : H l = some (.lst zs)) : ∀ b ys, H b = some (.tup ys) → upd H l o b = some (.tup ys) := fun b ys e => by rw [upd_ne (ne_of e hl (by intro z; cases z))]; exact e
section
variable {P : Program} {w : World} {K : PySem.W.Frag} {mg : Str → Option Value} {base : Heap}
def spWalk : Sp := fun vs H Q _ => ∃ (p a : Addr) (m : Nat) (other : List Int), vs = [.ref p, .ref a] ∧ Pen H p m ∧ m < 60000 ∧ H a = some (.tup (iv other)) ∧ other.length ≤ 10 ∧ ∀ (t lf ll : Addr) (zs ys : List V) (ps : List (Int × Int)) (ls : List (List Int)) (H' : Hp), H' t = some (.tup [.ref lf, .ref ll]) → H' lf = some (.lst zs) → H' ll = some (.lst ys) → Prs H' zs ps → Lds H' ys ls → Wk other ps ls → ps.length ≤ 8 → Pen H' p (m + 9) → SameX p H H' → Q (.ref t) H'
theorem ok_walk (T : Txt2 mg) (C_l_draw : Cal P w K mg base "_law_draw" ["_law_pen_here", "_law_many"] 1 spDraw) (C_l_can : Cal P w K mg base "_law_can" ["_law_load_here"] 1 spCanX) (C_l_moved : Cal P w K mg base "_law_moved" ["_law_load_here", "_law_i", "_law_j"] 1 spMovedL) (F : FunAt K mg "_law_walk" ["_law_pen_here", "_law_other_here"] s_l_walk) : Cal P w K mg base "_law_walk" ["_law_pen_here", "_law_other_here"] 2 spWalk := by
  have S := sc_l_walk
  refine F.cal sc_l_walk (fun vs H Q E h => ?_) (fun f cdv A outer s H vs Q E hr h => ?_)
  · obtain ⟨p, a, m, ns, rfl, _⟩ := h; rfl
  obtain ⟨p, a, m, other, rfl, pen, hm, ha, l10, k⟩ := h
  have hu := hr.units0
  refine ⟨_, (@pss_cons _ _ _ _ _ (@ps_set _ _ (2) _ _ _ _ (by exact S.nd) (by rfl) (by first | exact Or.inl rfl | exact Or.inr rfl) (@pe_lst _ _ _ _ pa_nil) (by first|rfl|decide|exact .inl rfl|exact .inr rfl|(intros; rfl)) (by first|rfl|decide|exact .inl rfl|exact .inr rfl|(intros; rfl))) (@pss_cons _ _ _ _ _ (@ps_set _ _ (3) _ _ _ _ (by exact S.nd) (by rfl) (by first | exact Or.inl rfl | exact Or.inr rfl) (@pe_lst _ _ _ _ (@pa_consN _ _ _ _ _ (pv 1) pa_nil (by first|rfl|decide|exact .inl rfl|exact .inr rfl|(intros; rfl)))) (by first|rfl|decide|exact .inl rfl|exact .inr rfl|(intros; rfl)) (by first|rfl|decide|exact .inl rfl|exact .inr rfl|(intros; rfl))) (@pss_cons _ _ _ _ _ (@ps_for _ _ _ _ _ _ _ _ (by exact PassesOwn.never) (by rfl) (@pi_range1 _ _ _ _ _ _ (by rfl) (by exact T.z_range) (@pa_consN _ _ _ _ _ (@cc _ _ _ _ _ _ _ _ _ _ (by exact C_l_draw) (by exact (hr.mono (by decide))) (@pa_consN _ _ _ _ _ (pv 0) (@pa_consN _ _ _ _ _ pe_int pa_nil (by first|rfl|decide|exact .inl rfl|exact .inr rfl|(intros; rfl))) (by first|rfl|decide|exact .inl rfl|exact .inr rfl|(intros; rfl))) (by first|rfl|decide|exact .inl rfl|exact .inr rfl|(intros; rfl)) (by first|rfl|decide|exact .inl rfl|exact .inr rfl|(intros; rfl)) (by first|rfl|decide|exact .inl rfl|exact .inr rfl|(intros; rfl)) (by first|rfl|decide|exact .inl rfl|exact .inr rfl|(intros; rfl))) pa_nil (by first|rfl|decide|exact .inl rfl|exact .inr rfl|(intros; rfl))) (by first|rfl|decide|exact .inl rfl|exact .inr rfl|(intros; rfl))) (@pg_name _ _ (4) _ (by exact S.nd) (by rfl) (by first | exact Or.inl rfl | exact Or.inr rfl) (by first|rfl|decide|exact .inl rfl|exact .inr rfl|(intros; rfl))) (@pss_cons _ _ _ _ _ (@ps_set _ _ (5) _ _ _ _ (by exact S.nd) (by rfl) (by first | exact Or.inl rfl | exact Or.inr rfl) (@cc _ _ _ _ _ _ _ _ _ _ (by exact C_l_can) (by exact (hr.mono (by decide))) (@pa_consN _ _ _ _ _ (@pe_ix _ _ _ _ _ _ _ ix_list (pv 3) (@pe_un _ _ _ _ _ _ un_neg pe_int) (by exact (fun _ _ => rfl))) pa_nil (by first|rfl|decide|exact .inl rfl|exact .inr rfl|(intros; rfl))) (by first|rfl|decide|exact .inl rfl|exact .inr rfl|(intros; rfl)) (by first|rfl|decide|exact .inl rfl|exact .inr rfl|(intros; rfl)) (by first|rfl|decide|exact .inl rfl|exact .inr rfl|(intros; rfl)) (by first|rfl|decide|exact .inl rfl|exact .inr rfl|(intros; rfl))) (by first|rfl|decide|exact .inl rfl|exact .inr rfl|(intros; rfl)) (by first|rfl|decide|exact .inl rfl|exact .inr rfl|(intros; rfl))) (@pss_one _ _ _ (@ps_if _ _ _ _ _ _ _ _ (@pt_cmpR _ _ _ _ _ _ _ _ (op_neE hu) (pv 5) (@pe_lst _ _ _ _ pa_nil) (by exact (nomark _))) (@pss_cons _ _ _ _ _ (@ps_set _ _ (6) _ _ _ _ (by exact S.nd) (by rfl) (by first | exact Or.inl rfl | exact Or.inr rfl) (@pe_ix _ _ _ _ _ _ _ ix_list (pv 5) (@cc _ _ _ _ _ _ _ _ _ _ (by exact C_l_draw) (by exact (hr.mono (by decide))) (@pa_consN _ _ _ _ _ (pv 0) (@pa_consN _ _ _ _ _ (@pe_callB _ _ _ _ _ _ _ _ _ call_len_seq (by rfl) (by exact T.z_len) (by exact bt_len) (@pa_consN _ _ _ _ _ (pv 5) pa_nil (by first|rfl|decide|exact .inl rfl|exact .inr rfl|(intros; rfl))) (by first|rfl|decide|exact .inl rfl|exact .inr rfl|(intros; rfl)) (by first|rfl|decide|exact .inl rfl|exact .inr rfl|(intros; rfl)) (by first|rfl|decide|exact .inl rfl|exact .inr rfl|(intros; rfl)) (by first|rfl|decide|exact .inl rfl|exact .inr rfl|(intros; rfl))) pa_nil (by first|rfl|decide|exact .inl rfl|exact .inr rfl|(intros; rfl))) (by first|rfl|decide|exact .inl rfl|exact .inr rfl|(intros; rfl))) (by first|rfl|decide|exact .inl rfl|exact .inr rfl|(intros; rfl)) (by first|rfl|decide|exact .inl rfl|exact .inr rfl|(intros; rfl)) (by first|rfl|decide|exact .inl rfl|exact .inr rfl|(intros; rfl)) (by first|rfl|decide|exact .inl rfl|exact .inr rfl|(intros; rfl))) (by exact (fun _ _ => rfl))) (by first|rfl|decide|exact .inl rfl|exact .inr rfl|(intros; rfl)) (by first|rfl|decide|exact .inl rfl|exact .inr rfl|(intros; rfl))) (@pss_cons _ _ _ _ _ (@ps_expr _ _ _ _ (@pe_bm _ _ _ _ _ _ _ _ _ _ _ _ (by exact PySem.F.plainAttrs_list) (by exact PySem.F.slot_list_append) (by exact PySem.F.type_list_append) mt_append (pv 2) (@pa_consN _ _ _ _ _ (pv 6) pa_nil (by first|rfl|decide|exact .inl rfl|exact .inr rfl|(intros; rfl))) (by first|rfl|decide|exact .inl rfl|exact .inr rfl|(intros; rfl)) (by first|rfl|decide|exact .inl rfl|exact .inr rfl|(intros; rfl)) (by first|rfl|decide|exact .inl rfl|exact .inr rfl|(intros; rfl)) (by first|rfl|decide|exact .inl rfl|exact .inr rfl|(intros; rfl)) (by first|rfl|decide|exact .inl rfl|exact .inr rfl|(intros; rfl))) (by first|rfl|decide|exact .inl rfl|exact .inr rfl|(intros; rfl))) (@pss_one _ _ _ (@ps_expr _ _ _ _ (@pe_bm _ _ _ _ _ _ _ _ _ _ _ _ (by exact PySem.F.plainAttrs_list) (by exact PySem.F.slot_list_append) (by exact PySem.F.type_list_append) mt_append (pv 3) (@pa_consN _ _ _ _ _ (@cc _ _ _ _ _ _ _ _ _ _ (by exact C_l_moved) (by exact (hr.mono (by decide))) (@pa_consN _ _ _ _ _ (@pe_ix _ _ _ _ _ _ _ ix_list (pv 3) (@pe_un _ _ _ _ _ _ un_neg pe_int) (by exact (fun _ _ => rfl))) (@pa_consN _ _ _ _ _ (@pe_ix _ _ _ _ _ _ _ ix_tup (pv 6) pe_int (by exact (fun _ _ => rfl))) (@pa_consN _ _ _ _ _ (@pe_ix _ _ _ _ _ _ _ ix_tup (pv 6) pe_int (by exact (fun _ _ => rfl))) pa_nil (by first|rfl|decide|exact .inl rfl|exact .inr rfl|(intros; rfl))) (by first|rfl|decide|exact .inl rfl|exact .inr rfl|(intros; rfl))) (by first|rfl|decide|exact .inl rfl|exact .inr rfl|(intros; rfl))) (by first|rfl|decide|exact .inl rfl|exact .inr rfl|(intros; rfl)) (by first|rfl|decide|exact .inl rfl|exact .inr rfl|(intros; rfl)) (by first|rfl|decide|exact .inl rfl|exact .inr rfl|(intros; rfl)) (by first|rfl|decide|exact .inl rfl|exact .inr rfl|(intros; rfl))) pa_nil (by first|rfl|decide|exact .inl rfl|exact .inr rfl|(intros; rfl))) (by first|rfl|decide|exact .inl rfl|exact .inr rfl|(intros; rfl)) (by first|rfl|decide|exact .inl rfl|exact .inr rfl|(intros; rfl)) (by first|rfl|decide|exact .inl rfl|exact .inr rfl|(intros; rfl)) (by first|rfl|decide|exact .inl rfl|exact .inr rfl|(intros; rfl)) (by first|rfl|decide|exact .inl rfl|exact .inr rfl|(intros; rfl))) (by first|rfl|decide|exact .inl rfl|exact .inr rfl|(intros; rfl)))))) pss_nil))) (by first|rfl|decide|exact .inl rfl|exact .inr rfl|(intros; rfl))) (@pss_one _ _ _ (@ps_ret _ _ _ _ (@pe_tup _ _ _ _ _ (@pa_consN _ _ _ _ _ (pv 2) (@pa_consN _ _ _ _ _ (pv 3) pa_nil (by first|rfl|decide|exact .inl rfl|exact .inr rfl|(intros; rfl))) (by first|rfl|decide|exact .inl rfl|exact .inr rfl|(intros; rfl))))))))), ?_⟩
  refine ⟨lz 0 rfl, fun lf hlf => ?_⟩
  have s1 := same_new hlf (.lst [])
  refine ⟨_, rfl, lz 1 rfl, fun ll hll => ?_⟩
  have s2 := same_new hll (.lst [.ref a])
  have hlf2 := s2 _ _ (upd_same (H := H) (a := lf) (o := .lst []))
  have hll2 : upd (upd H lf (.lst [])) ll (.lst [.ref a]) ll = some (.lst [.ref a]) := upd_same
  have sA := s1.trans s2
  have nf : H lf = none := hlf
  have nl : H ll = none := none_of s1 hll
  have fl : lf ≠ ll := fun z => by rw [← z, upd_same] at hll; cases hll
  have pen2 := pen.same sA
  have ha2 := sA _ _ ha
  generalize upd (upd H lf (.lst [])) ll (.lst [.ref a]) = H2 at s2 hlf2 hll2 sA pen2 ha2
  refine ⟨_, rfl, p, _, _, rfl, pen2, by omega, by decide, by decide, fun r H3 r0 r1 pen3 x3 => ?_⟩
  have xA : SameX p H H3 := (Same.x sA).trans x3
  refine ⟨r, rfl, by omega, by omega, for_range (n := r.toNat) (fun i σ H' => (SameX p H H' ∧ Pen H' p (m + 1 + i)) ∧ ∃ (zs ys : List V) (ps : List (Int × Int)) (ls : List (List Int)) (o4 o5 o6 : Option V), H' lf = some (.lst zs) ∧ H' ll = some (.lst ys) ∧ Prs H' zs ps ∧ Lds H' ys ls ∧ Wk other ps ls ∧ ps.length ≤ i ∧ σ = [some (.ref p), some (.ref a), some (.ref lf), some (.ref ll), o4, o5, o6]) ⟨⟨xA, pen3.mono (by omega)⟩, [], [.ref a], [], [other], _, _, _, pen2.keep x3 hlf2, pen2.keep x3 hll2, .nil, .cons ⟨a, rfl, pen2.keep x3 ha2⟩ .nil, Wk.nil other, Nat.zero_le _, rfl⟩ ?_ ?_⟩
  · rintro i σ H4 hi ⟨⟨x4, pen4⟩, zs, ys, ps, ls, o4, o5, o6, hf4, hl4, pr4, ld4, wk4, few4, rfl⟩
    obtain ⟨one, e1, _⟩ := wk4.last
    have al1 := wk4.al one (List.mem_of_getElem? e1)
    have yl : ys.length = ps.length + 1 := by rw [Paired.length ld4]; exact wk4.len
    obtain ⟨y1, hy1⟩ : ∃ y, ys[ps.length]? = some y := ⟨_, List.getElem?_eq_getElem (by omega)⟩
    obtain ⟨one', e1', b1, rfl, hb1⟩ := paired_get ld4 hy1
    rw [e1] at e1'
    cases e1'
    have last : atI ys (-1) = some (.ref b1) := by
      rcases List.eq_nil_or_concat ys with z | ⟨ys', q, z⟩
      · rw [z] at yl; simp at yl
      · rw [List.concat_eq_append] at z
        subst z
        rw [atI_last]
        have : ys'.length = ps.length := by simpa using yl
        rw [← this] at hy1
        simpa using hy1
    refine gN_ ?_
    refine ⟨_, rfl, _, rfl, ll, _, _, _, rfl, rfl, SqL.of hl4, last, b1, one, rfl, hb1, by have := al1.1; omega, fun lc zc H5 s5 hlc hpc => ?_⟩
    refine ⟨_, rfl, lz 0 rfl, fun le hle => ⟨lc, le, zc, rfl, rfl, same_new hle _ _ _ hlc, upd_same, _, rfl, ?_⟩⟩
    have s6 := same_new hle (.lst [])
    have sB := s5.trans s6
    have hlc6 := s6 _ _ hlc
    have hpc6 := prs_imp (fun b ys e => s6 _ _ e) hpc
    generalize upd H5 le (.lst []) = H6 at s6 sB hlc6 hpc6 ⊢
    have kB : ∀ b ys, H4 b = some (.tup ys) → H6 b = some (.tup ys) := fun b ys e => sB _ _ e
    refine ite2 (fun c => ?_) (fun c => ?_)
    rotate_left 1
    · exact ⟨⟨x4.trans (Same.x sB), (pen4.same sB).mono (by omega)⟩, zs, ys, ps, ls, _, _, _, sB _ _ hf4, sB _ _ hl4, prs_imp kB pr4, Lds.imp kB ld4, wk4, by omega, rfl⟩
    have zne : zc ≠ [] := of_decide_eq_true c
    have zl : 0 < zc.length := List.length_pos_iff.mpr zne
    have zl2 : zc.length ≤ 100 := by
      have h1 := canI_len one one.length
      have h2 : one.length * one.length ≤ 10 * 10 := Nat.mul_le_mul (by have := al1.1; omega) (by have := al1.1; omega)
      rw [Paired.length hpc6]; omega
    have pen6 := pen4.same sB
    refine ⟨_, rfl, _, rfl, _, rfl, lc, zc, rfl, .inl (SqL.of hlc6), p, _, _, rfl, pen6, by omega, by omega, by omega, fun r7 H7 r70 r71 pen7 x7 => ?_⟩
    have k7 := tup_keep pen6 x7
    have hlc7 := pen6.keep x7 hlc6
    have hpc7 := prs_imp k7 hpc6
    obtain ⟨v7, hv7⟩ : ∃ v, zc[r7.toNat]? = some v := ⟨_, List.getElem?_eq_getElem (by omega)⟩
    obtain ⟨q, hq, t, rfl, ht⟩ := paired_get hpc7 hv7
    obtain ⟨i3, j3, rfl, hi3, hj3, g⟩ := canI_mem.mp (List.mem_of_getElem? hq)
    rw [gD hi3, gD hj3] at g
    have at7 : atI zc r7 = some (.ref t) := by
      have := atI_nat hv7
      rwa [show ((r7.toNat : Nat) : Int) = r7 by omega] at this
    refine ⟨lc, _, _, _, rfl, rfl, SqL.of hlc7, at7, ?_⟩
    have hf7 := pen6.keep x7 (sB _ _ hf4)
    have hl7 := pen6.keep x7 (sB _ _ hl4)
    have pr7 := prs_imp k7 (prs_imp kB pr4)
    have ld7 := Lds.imp k7 (Lds.imp kB ld4)
    have hb7 := k7 _ _ (kB _ _ hb1)
    have zf : zs.length = ps.length := Paired.length pr4
    have x47 := x4.trans ((Same.x sB).trans x7)
    refine ⟨_, rfl, .inl ⟨rfl, _, SqL.of hf7⟩, _, rfl, lf, zs, _, rfl, rfl, hf7, by rw [sizeLine_eq]; omega, ?_⟩
    obtain ⟨pen8, x8⟩ := penX_upd nf pen x47 pen7 (.lst (zs ++ [.ref t]))
    have k8 := tup_upd (o := .lst (zs ++ [.ref t])) hf7
    have hf8 : upd H7 lf (.lst (zs ++ [.ref t])) lf = some (.lst (zs ++ [.ref t])) := upd_same
    have hl8 : upd H7 lf (.lst (zs ++ [.ref t])) ll = some (.lst ys) := by rw [upd_ne (Ne.symm fl)]; exact hl7
    have ht8 := k8 _ _ ht
    have pr8 := prs_imp k8 pr7
    have ld8 := Lds.imp k8 ld7
    have hb8 := k8 _ _ hb7
    generalize upd H7 lf (.lst (zs ++ [.ref t])) = H8 at pen8 x8 hf8 hl8 ht8 pr8 ld8 hb8 ⊢
    refine ⟨_, rfl, .inl ⟨rfl, _, SqL.of hl8⟩, _, rfl, _, rfl, ll, _, _, _, rfl, rfl, SqL.of hl8, last, ?_⟩
    refine ⟨_, rfl, t, _, _, _, rfl, rfl, SqT.of ht8, rfl, _, rfl, t, _, _, _, rfl, rfl, SqT.of ht8, rfl, b1, one, i3, j3, rfl, hb8, hi3, hj3, by have := al1.1; omega, fun b5 ms5 H9 s9 hb5 pm od => ?_⟩
    have e5 : ms5 = mvS one i3 j3 := fall_eq pm od
    subst e5
    have hl9 := s9 _ _ hl8
    refine ⟨ll, ys, _, rfl, rfl, hl9, by rw [sizeLine_eq]; omega, ?_⟩
    have pen9 := pen8.same s9
    obtain ⟨pen10, x10⟩ := penX_upd nl pen (x8.trans (Same.x s9)) pen9 (.lst (ys ++ [.ref b5]))
    have k10 : ∀ b ws, H8 b = some (.tup ws) → upd H9 ll (.lst (ys ++ [.ref b5])) b = some (.tup ws) := fun b ws e => tup_upd hl9 _ _ (s9 _ _ e)
    refine ⟨⟨x10, pen10.mono (by omega)⟩, zs ++ [.ref t], ys ++ [.ref b5], _, _, _, _, _, by rw [upd_ne fl]; exact s9 _ _ hf8, upd_same, Prs.snoc (p := ((i3 : Int), (j3 : Int))) ⟨t, rfl, k10 _ _ ht8⟩ (prs_imp k10 pr8), ?_, wk4.snoc e1 hi3 hj3 g, by simp; omega, rfl⟩
    exact Paired.snoc (Lds.imp k10 ld8) ⟨b5, rfl, tup_upd hl9 _ _ hb5⟩
  · rintro σ H4 ⟨⟨x4, pen4⟩, zs, ys, ps, ls, o4, o5, o6, hf4, hl4, pr4, ld4, wk4, few4, rfl⟩
    refine ⟨_, rfl, _, rfl, lz 2 rfl, fun t ht => ?_⟩
    have s5 := same_new ht (.tup [.ref lf, .ref ll])
    exact k t lf ll zs ys ps ls _ upd_same (s5 _ _ hf4) (s5 _ _ hl4) (prs_imp (fun b ys e => s5 _ _ e) pr4) (Lds.imp (fun b ys e => s5 _ _ e) ld4) wk4 (by omega) ((pen4.same s5).mono (by omega)) (x4.trans (Same.x s5))
end
end My

set_option Elab.async false
set_option linter.all false
set_option maxRecDepth 100000
set_option maxHeartbeats 1000000
namespace My
open PySem L2 MA Srt PySem.Spec
def litP (q : Int × Int) : Bool := decide (q.2 = q.1 + 1)
def lit (ns : List Int) : List (Int × Int) := (canI ns ns.length).filter litP
theorem lit_yes {q : Int × Int} (c : decide (V.int q.2 = V.int (q.1 + 1)) = true) : litP q = true := decide_eq_true (V.int.inj (of_decide_eq_true c))
theorem lit_no {q : Int × Int} (c : ¬ decide (V.int q.2 = V.int (q.1 + 1)) = true) : ¬ litP q = true := fun z => c (decide_eq_true (by rw [of_decide_eq_true z]))
theorem can_few {ns : List Int} (h : ns.length ≤ 10) : (canI ns ns.length).length ≤ 100 := by
  have h1 := canI_len ns ns.length
  have h2 : ns.length * ns.length ≤ 10 * 10 := Nat.mul_le_mul h h
  omega
section
variable {P : Program} {w : World} {K : PySem.W.Frag} {mg : Str → Option Value} {base : Heap}
def spLittle : Sp := fun vs H Q _ => ∃ (p a : Addr) (m : Nat) (other : List Int), vs = [.ref p, .ref a] ∧ Pen H p m ∧ m < 50000 ∧ H a = some (.tup (iv other)) ∧ other.length ≤ 10 ∧ sq other ≤ 2000 ∧ ∀ (t lf lo : Addr) (zs : List V) (ps : List (Int × Int)) (one : List Int) (H' : Hp), H' t = some (.tup [.ref lf, .ref lo]) → H' lf = some (.lst zs) → Prs H' zs ps → H' lo = some (.tup (iv one)) → walkD other (ps.map dp) = some one → Alike one other → ps.length ≤ 2000 → Pen H' p (m + 2000) → SameX p H H' → Q (.ref t) H'
theorem ok_little (T : Txt2 mg) (C_l_draw : Cal P w K mg base "_law_draw" ["_law_pen_here", "_law_many"] 1 spDraw) (C_l_can : Cal P w K mg base "_law_can" ["_law_load_here"] 1 spCanX) (C_l_moved : Cal P w K mg base "_law_moved" ["_law_load_here", "_law_i", "_law_j"] 1 spMovedL) (F : FunAt K mg "_law_little_steps" ["_law_pen_here", "_law_other_here"] s_l_little_steps) : Cal P w K mg base "_law_little_steps" ["_law_pen_here", "_law_other_here"] 2 spLittle := by
  have S := sc_l_little_steps
  refine F.cal sc_l_little_steps (fun vs H Q E h => ?_) (fun f cdv A outer s H vs Q E hr h => ?_)
  · obtain ⟨p, a, m, ns, rfl, _⟩ := h; rfl
  obtain ⟨p, a, m, other, rfl, pen, hm, ha, l10, s2k, k⟩ := h
  have hu := hr.units0
  refine ⟨_, (@pss_cons _ _ _ _ _ (@ps_set _ _ (2) _ _ _ _ (by exact S.nd) (by rfl) (by first | exact Or.inl rfl | exact Or.inr rfl) (@pe_lst _ _ _ _ pa_nil) (by first|rfl|decide|exact .inl rfl|exact .inr rfl|(intros; rfl)) (by first|rfl|decide|exact .inl rfl|exact .inr rfl|(intros; rfl))) (@pss_cons _ _ _ _ _ (@ps_set _ _ (3) _ _ _ _ (by exact S.nd) (by rfl) (by first | exact Or.inl rfl | exact Or.inr rfl) (pv 1) (by first|rfl|decide|exact .inl rfl|exact .inr rfl|(intros; rfl)) (by first|rfl|decide|exact .inl rfl|exact .inr rfl|(intros; rfl))) (@pss_cons _ _ _ _ _ (@ps_comp _ _ _ _ _ _ _ _ _ _ _ _ _ _ _ (4) _ (by exact S.nd) (by rfl) (by first | exact Or.inl rfl | exact Or.inr rfl) (by rfl) (by exact (fun _ _ h => h)) (by decide +kernel) (by rfl) (by decide +kernel) (by exact hfr_of rfl) (by exact Sees.frees ["_law_move"] [] fr_nil) (@pi_list _ _ _ _ (@cc _ _ _ _ _ _ _ _ _ _ (by exact C_l_can) (by exact (hr.mono (by decide))) (@pa_consN _ _ _ _ _ (pv 3) pa_nil (by first|rfl|decide|exact .inl rfl|exact .inr rfl|(intros; rfl))) (by first|rfl|decide|exact .inl rfl|exact .inr rfl|(intros; rfl)) (by first|rfl|decide|exact .inl rfl|exact .inr rfl|(intros; rfl)) (by first|rfl|decide|exact .inl rfl|exact .inr rfl|(intros; rfl)) (by first|rfl|decide|exact .inl rfl|exact .inr rfl|(intros; rfl)))) (fun _ _ _ _ _ => @pg_name _ _ (0) _ (by exact (show (["_law_move"] : List Str).Nodup by decide +kernel)) (by rfl) (by first | exact Or.inl rfl | exact Or.inr rfl) (by first|rfl|decide|exact .inl rfl|exact .inr rfl|(intros; rfl))) (fun _ _ _ _ _ => (@pts_one _ _ _ (@pt_cmpR _ _ _ _ _ _ _ _ op_eq (@pe_ix _ _ _ _ _ _ _ ix_tup0 (pv 0) pe_int (by exact (fun _ _ => rfl))) (@pe_op _ _ _ _ _ _ _ _ op_add (@pe_ix _ _ _ _ _ _ _ ix_tup0 (pv 0) pe_int (by exact (fun _ _ => rfl))) pe_int) (by exact (nomark _))))) (fun _ _ _ _ _ => (pv 0)) (by first|rfl|decide|exact .inl rfl|exact .inr rfl|(intros; rfl)) (by first|rfl|decide|exact .inl rfl|exact .inr rfl|(intros; rfl)) (by first|rfl|decide|exact .inl rfl|exact .inr rfl|(intros; rfl))) (@pss_cons _ _ _ _ _ (@ps_while _ _ _ _ _ _ (by exact PassesOwn.never) (@pt_cmpR _ _ _ _ _ _ _ _ (op_neE hu) (pv 4) (@pe_lst _ _ _ _ pa_nil) (by exact (nomark _))) (@pss_cons _ _ _ _ _ (@ps_set _ _ (5) _ _ _ _ (by exact S.nd) (by rfl) (by first | exact Or.inl rfl | exact Or.inr rfl) (@pe_ix _ _ _ _ _ _ _ ix_list (pv 4) (@cc _ _ _ _ _ _ _ _ _ _ (by exact C_l_draw) (by exact (hr.mono (by decide))) (@pa_consN _ _ _ _ _ (pv 0) (@pa_consN _ _ _ _ _ (@pe_callB _ _ _ _ _ _ _ _ _ call_len_seq (by rfl) (by exact T.z_len) (by exact bt_len) (@pa_consN _ _ _ _ _ (pv 4) pa_nil (by first|rfl|decide|exact .inl rfl|exact .inr rfl|(intros; rfl))) (by first|rfl|decide|exact .inl rfl|exact .inr rfl|(intros; rfl)) (by first|rfl|decide|exact .inl rfl|exact .inr rfl|(intros; rfl)) (by first|rfl|decide|exact .inl rfl|exact .inr rfl|(intros; rfl)) (by first|rfl|decide|exact .inl rfl|exact .inr rfl|(intros; rfl))) pa_nil (by first|rfl|decide|exact .inl rfl|exact .inr rfl|(intros; rfl))) (by first|rfl|decide|exact .inl rfl|exact .inr rfl|(intros; rfl))) (by first|rfl|decide|exact .inl rfl|exact .inr rfl|(intros; rfl)) (by first|rfl|decide|exact .inl rfl|exact .inr rfl|(intros; rfl)) (by first|rfl|decide|exact .inl rfl|exact .inr rfl|(intros; rfl)) (by first|rfl|decide|exact .inl rfl|exact .inr rfl|(intros; rfl))) (by exact (fun _ _ => rfl))) (by first|rfl|decide|exact .inl rfl|exact .inr rfl|(intros; rfl)) (by first|rfl|decide|exact .inl rfl|exact .inr rfl|(intros; rfl))) (@pss_cons _ _ _ _ _ (@ps_expr _ _ _ _ (@pe_bm _ _ _ _ _ _ _ _ _ _ _ _ (by exact PySem.F.plainAttrs_list) (by exact PySem.F.slot_list_append) (by exact PySem.F.type_list_append) mt_append (pv 2) (@pa_consN _ _ _ _ _ (pv 5) pa_nil (by first|rfl|decide|exact .inl rfl|exact .inr rfl|(intros; rfl))) (by first|rfl|decide|exact .inl rfl|exact .inr rfl|(intros; rfl)) (by first|rfl|decide|exact .inl rfl|exact .inr rfl|(intros; rfl)) (by first|rfl|decide|exact .inl rfl|exact .inr rfl|(intros; rfl)) (by first|rfl|decide|exact .inl rfl|exact .inr rfl|(intros; rfl)) (by first|rfl|decide|exact .inl rfl|exact .inr rfl|(intros; rfl))) (by first|rfl|decide|exact .inl rfl|exact .inr rfl|(intros; rfl))) (@pss_cons _ _ _ _ _ (@ps_set _ _ (3) _ _ _ _ (by exact S.nd) (by rfl) (by first | exact Or.inl rfl | exact Or.inr rfl) (@cc _ _ _ _ _ _ _ _ _ _ (by exact C_l_moved) (by exact (hr.mono (by decide))) (@pa_consN _ _ _ _ _ (pv 3) (@pa_consN _ _ _ _ _ (@pe_ix _ _ _ _ _ _ _ ix_tup (pv 5) pe_int (by exact (fun _ _ => rfl))) (@pa_consN _ _ _ _ _ (@pe_ix _ _ _ _ _ _ _ ix_tup (pv 5) pe_int (by exact (fun _ _ => rfl))) pa_nil (by first|rfl|decide|exact .inl rfl|exact .inr rfl|(intros; rfl))) (by first|rfl|decide|exact .inl rfl|exact .inr rfl|(intros; rfl))) (by first|rfl|decide|exact .inl rfl|exact .inr rfl|(intros; rfl))) (by first|rfl|decide|exact .inl rfl|exact .inr rfl|(intros; rfl)) (by first|rfl|decide|exact .inl rfl|exact .inr rfl|(intros; rfl)) (by first|rfl|decide|exact .inl rfl|exact .inr rfl|(intros; rfl)) (by first|rfl|decide|exact .inl rfl|exact .inr rfl|(intros; rfl))) (by first|rfl|decide|exact .inl rfl|exact .inr rfl|(intros; rfl)) (by first|rfl|decide|exact .inl rfl|exact .inr rfl|(intros; rfl))) (@pss_one _ _ _ (@ps_comp _ _ _ _ _ _ _ _ _ _ _ _ _ _ _ (4) _ (by exact S.nd) (by rfl) (by first | exact Or.inl rfl | exact Or.inr rfl) (by rfl) (by exact (fun _ _ h => h)) (by decide +kernel) (by rfl) (by decide +kernel) (by exact hfr_of rfl) (by exact Sees.frees ["_law_move"] [] fr_nil) (@pi_list _ _ _ _ (@cc _ _ _ _ _ _ _ _ _ _ (by exact C_l_can) (by exact (hr.mono (by decide))) (@pa_consN _ _ _ _ _ (pv 3) pa_nil (by first|rfl|decide|exact .inl rfl|exact .inr rfl|(intros; rfl))) (by first|rfl|decide|exact .inl rfl|exact .inr rfl|(intros; rfl)) (by first|rfl|decide|exact .inl rfl|exact .inr rfl|(intros; rfl)) (by first|rfl|decide|exact .inl rfl|exact .inr rfl|(intros; rfl)) (by first|rfl|decide|exact .inl rfl|exact .inr rfl|(intros; rfl)))) (fun _ _ _ _ _ => @pg_name _ _ (0) _ (by exact (show (["_law_move"] : List Str).Nodup by decide +kernel)) (by rfl) (by first | exact Or.inl rfl | exact Or.inr rfl) (by first|rfl|decide|exact .inl rfl|exact .inr rfl|(intros; rfl))) (fun _ _ _ _ _ => (@pts_one _ _ _ (@pt_cmpR _ _ _ _ _ _ _ _ op_eq (@pe_ix _ _ _ _ _ _ _ ix_tup0 (pv 0) pe_int (by exact (fun _ _ => rfl))) (@pe_op _ _ _ _ _ _ _ _ op_add (@pe_ix _ _ _ _ _ _ _ ix_tup0 (pv 0) pe_int (by exact (fun _ _ => rfl))) pe_int) (by exact (nomark _))))) (fun _ _ _ _ _ => (pv 0)) (by first|rfl|decide|exact .inl rfl|exact .inr rfl|(intros; rfl)) (by first|rfl|decide|exact .inl rfl|exact .inr rfl|(intros; rfl)) (by first|rfl|decide|exact .inl rfl|exact .inr rfl|(intros; rfl)))))))) (@pss_one _ _ _ (@ps_ret _ _ _ _ (@pe_tup _ _ _ _ _ (@pa_consN _ _ _ _ _ (pv 2) (@pa_consN _ _ _ _ _ (pv 3) pa_nil (by first|rfl|decide|exact .inl rfl|exact .inr rfl|(intros; rfl))) (by first|rfl|decide|exact .inl rfl|exact .inr rfl|(intros; rfl)))))))))), ?_⟩
  refine ⟨lz 0 rfl, fun lf hlf => ?_⟩
  have s1 := same_new hlf (.lst [])
  have hf1 : upd H lf (.lst []) lf = some (.lst []) := upd_same
  have ha1 := s1 _ _ ha
  have pen1 := pen.same s1
  generalize upd H lf (.lst []) = H1 at s1 hf1 ha1 pen1
  refine ⟨_, rfl, ?_⟩
  refine ⟨_, rfl, a, other, rfl, ha1, l10, fun lc zc H2 s2 hlc hpc => ?_⟩
  have zl : zc.length ≤ 100 := by rw [Paired.length hpc]; exact can_few l10
  refine ⟨lc, rfl, ⟨_, SqL.of hlc⟩, comp_Y (yields_lst (xs := zc)) (fun q i ws σ' H' => Same H2 H' ∧ (∃ o1, σ' = [o1]) ∧ Prs H' ws (((canI other other.length).take i).filter litP)) (by omega) ?_ ?_ ?_ ?_⟩
  · exact fun q hq => ⟨same_new hq _, ⟨_, rfl⟩, .nil⟩
  · rintro q i ws σ' H' hq ⟨s', _⟩
    exact s' _ _ hlc
  · rintro q i ws σ' H' x H'' hq hi hl' ⟨s', ⟨o1, rfl⟩, pw⟩ hq' ⟨rfl, hx⟩ Q1 Q2 h1 h2
    obtain ⟨y, hy, t, rfl, ht⟩ := paired_get hpc hx
    have ht' := s' _ _ ht
    refine gN_ ⟨_, rfl, t, _, _, _, rfl, rfl, ht', rfl, _, rfl, t, _, _, _, rfl, rfl, ht', rfl, _, _, rfl, rfl, rfl, _, rfl, ?_⟩
    have e := take_snoc hy
    refine ite2 (fun c => ?_) (fun c => ?_)
    · refine ⟨_, rfl, h1 _ _ _ hq' ⟨same_updN hq s' _, ⟨_, rfl⟩, ?_⟩⟩
      rw [e, List.filter_append, List.filter_cons, if_pos (lit_yes c)]
      exact Prs.updL hq' (Prs.snoc ⟨t, rfl, ht'⟩ pw)
    · refine h2 _ _ hq' ⟨s', ⟨_, rfl⟩, ?_⟩
      rw [e, List.filter_append, List.filter_cons, if_neg (lit_no c), List.filter_nil, List.append_nil]
      exact pw
  rintro q ws σ' H3 hq ⟨s3, _, pw⟩ hq3 hl3
  rw [Paired.length hpc, List.take_length] at pw
  have s03 := s1.trans (s2.trans s3)
  have nf : H lf = none := hlf
  refine ⟨fun n σ H' => ∃ (zs : List V) (ps : List (Int × Int)) (load : List Int) (lo ls : Addr) (ws : List V) (o5 : Option V), n = (sq load).toNat ∧ SameX p H H' ∧ Pen H' p (m + ps.length) ∧ H' lf = some (.lst zs) ∧ Prs H' zs ps ∧ H' lo = some (.tup (iv load)) ∧ H' ls = some (.lst ws) ∧ Prs H' ws (lit load) ∧ walkD other (ps.map dp) = some load ∧ Alike load other ∧ sq load + ps.length ≤ sq other ∧ σ = [some (.ref p), some (.ref a), some (.ref lf), some (.ref lo), some (.ref ls), o5], ⟨_, [], [], other, a, q, ws, _, rfl, Same.x s03, pen.same s03, (s2.trans s3) _ _ hf1, .nil, (s2.trans s3) _ _ ha1, hq3, pw, rfl, ⟨rfl, rfl⟩, by simp, rfl⟩, ?_⟩
  rintro n σ H4 ⟨zs, ps, load, lo, ls, ws4, o5, rfl, x4, pen4, hf4, pr4, hlo4, hls4, pw4, hw4, al4, dq4, rfl⟩
  have sq0 := sq_nn load
  refine ⟨_, rfl, lz 0 rfl, fun le hle => ⟨ls, le, ws4, rfl, rfl, same_new hle _ _ _ hls4, upd_same, _, rfl, ?_⟩⟩
  have s5 := same_new hle (.lst [])
  have hls5 := s5 _ _ hls4
  have pw5 := prs_imp (fun b ys e => s5 _ _ e) pw4
  have pr5 := prs_imp (fun b ys e => s5 _ _ e) pr4
  have pen5 := pen4.same s5
  have hf5 := s5 _ _ hf4
  have hlo5 := s5 _ _ hlo4
  have x5 := x4.trans (Same.x s5)
  generalize upd H4 le (.lst []) = H5 at s5 hls5 pw5 pr5 pen5 hf5 hlo5 x5 ⊢
  have zf : zs.length = ps.length := Paired.length pr4
  refine ite2 (fun c => ?_) (fun c => ?_)
  rotate_left 1
  · refine ⟨_, rfl, _, rfl, lz 2 rfl, fun t ht => ?_⟩
    have s6 := same_new ht (.tup [.ref lf, .ref lo])
    exact k t lf lo zs ps load _ upd_same (s6 _ _ hf5) (prs_imp (fun b ys e => s6 _ _ e) pr5) (s6 _ _ hlo5) hw4 al4 (by omega) ((pen5.same s6).mono (by omega)) (x5.trans (Same.x s6))
  · refine ⟨_, fun _ _ h => h, ?_⟩
    have zne : ws4 ≠ [] := of_decide_eq_true c
    have zl4 : 0 < ws4.length := List.length_pos_iff.mpr zne
    have ll10 : load.length ≤ 10 := by have := al4.1; omega
    have zl5 : ws4.length ≤ 100 := by
      have h1 := can_few ll10
      have h2 : (lit load).length ≤ (canI load load.length).length := List.length_filter_le _ _
      rw [Paired.length pw5]; omega
    refine ⟨_, rfl, _, rfl, _, rfl, ls, ws4, rfl, .inl (SqL.of hls5), p, _, _, rfl, pen5, by omega, by omega, by omega, fun r7 H7 r70 r71 pen7 x7 => ?_⟩
    have k7 := tup_keep pen5 x7
    have hls7 := pen5.keep x7 hls5
    have pw7 := prs_imp k7 pw5
    obtain ⟨v7, hv7⟩ : ∃ v, ws4[r7.toNat]? = some v := ⟨_, List.getElem?_eq_getElem (by omega)⟩
    obtain ⟨qq, hqq, t, rfl, ht⟩ := paired_get pw7 hv7
    obtain ⟨i3, j3, rfl, hi3, hj3, g⟩ := canI_mem.mp (List.mem_filter.mp (List.mem_of_getElem? hqq)).1
    rw [gD hi3, gD hj3] at g
    have at7 : atI ws4 r7 = some (.ref t) := by
      have := atI_nat hv7
      rwa [show ((r7.toNat : Nat) : Int) = r7 by omega] at this
    refine ⟨ls, _, _, _, rfl, rfl, SqL.of hls7, at7, ?_⟩
    have hf7 := pen5.keep x7 hf5
    have pr7 := prs_imp k7 pr5
    have hlo7 := k7 _ _ hlo5
    have x57 := x5.trans x7
    refine ⟨_, rfl, .inl ⟨rfl, _, SqL.of hf7⟩, _, rfl, lf, zs, _, rfl, rfl, hf7, by rw [sizeLine_eq]; omega, ?_⟩
    obtain ⟨pen8, x8⟩ := penX_upd nf pen x57 pen7 (.lst (zs ++ [.ref t]))
    have k8 := tup_upd (o := .lst (zs ++ [.ref t])) hf7
    have hf8 : upd H7 lf (.lst (zs ++ [.ref t])) lf = some (.lst (zs ++ [.ref t])) := upd_same
    have ht8 := k8 _ _ ht
    have pr8 := prs_imp k8 pr7
    have hlo8 := k8 _ _ hlo7
    generalize upd H7 lf (.lst (zs ++ [.ref t])) = H8 at pen8 x8 hf8 ht8 pr8 hlo8 ⊢
    refine ⟨_, rfl, _, rfl, t, _, _, _, rfl, rfl, SqT.of ht8, rfl, _, rfl, t, _, _, _, rfl, rfl, SqT.of ht8, rfl, lo, load, i3, j3, rfl, hlo8, hi3, hj3, ll10, fun b5 ms5 H9 s9 hb5 pm od => ?_⟩
    have e5 : ms5 = mvS load i3 j3 := fall_eq pm od
    subst e5
    have ml : (mvS load i3 j3).length ≤ 10 := by rw [mvS_len]; exact ll10
    refine ⟨_, rfl, b5, _, rfl, hb5, ml, fun ld zd H10 s10 hld hpd => ?_⟩
    have zdl : zd.length ≤ 100 := by rw [Paired.length hpd]; exact can_few ml
    refine ⟨ld, rfl, ⟨_, SqL.of hld⟩, comp_Y (yields_lst (xs := zd)) (fun q i ws σ' H' => Same H10 H' ∧ (∃ o1, σ' = [o1]) ∧ Prs H' ws (((canI (mvS load i3 j3) (mvS load i3 j3).length).take i).filter litP)) (by omega) ?_ ?_ ?_ ?_⟩
    · exact fun q hq => ⟨same_new hq _, ⟨_, rfl⟩, .nil⟩
    · rintro q i ws σ' H' hq ⟨s', _⟩
      exact s' _ _ hld
    · rintro q i ws σ' H' x H'' hq hi hl' ⟨s', ⟨o1, rfl⟩, pw⟩ hq' ⟨rfl, hx⟩ Q1 Q2 h1 h2
      obtain ⟨y, hy, t, rfl, ht⟩ := paired_get hpd hx
      have ht' := s' _ _ ht
      refine gN_ ⟨_, rfl, t, _, _, _, rfl, rfl, ht', rfl, _, rfl, t, _, _, _, rfl, rfl, ht', rfl, _, _, rfl, rfl, rfl, _, rfl, ?_⟩
      have e := take_snoc hy
      refine ite2 (fun c => ?_) (fun c => ?_)
      · refine ⟨_, rfl, h1 _ _ _ hq' ⟨same_updN hq s' _, ⟨_, rfl⟩, ?_⟩⟩
        rw [e, List.filter_append, List.filter_cons, if_pos (lit_yes c)]
        exact Prs.updL hq' (Prs.snoc ⟨t, rfl, ht'⟩ pw)
      · refine h2 _ _ hq' ⟨s', ⟨_, rfl⟩, ?_⟩
        rw [e, List.filter_append, List.filter_cons, if_neg (lit_no c), List.filter_nil, List.append_nil]
        exact pw
    rintro q2 wd σ' H11 hq2 ⟨s11, _, pwd⟩ hq11 _
    rw [Paired.length hpd, List.take_length] at pwd
    have sZ := s9.trans (s10.trans s11)
    have sqm := sq_mv hi3 hj3 g
    have sqn := sq_nn (mvS load i3 j3)
    have gI : goD load (dp ((i3 : Int), (j3 : Int))) = some (mvS load i3 j3) := by
      show goI load i3 j3 = _
      rw [goI_nat hi3 hj3, if_pos g]
    refine ⟨(sq (mvS load i3 j3)).toNat, by omega, zs ++ [.ref t], ps ++ [((i3 : Int), (j3 : Int))], mvS load i3 j3, b5, q2, wd, _, rfl, x8.trans (Same.x sZ), (pen8.same sZ).mono (by simp; omega), sZ _ _ hf8, prs_imp (fun b ys e => sZ _ _ e) (Prs.snoc (p := ((i3 : Int), (j3 : Int))) ⟨t, rfl, ht8⟩ pr8), (s10.trans s11) _ _ hb5, hq11, pwd, ?_, ⟨by rw [mvS_len]; exact al4.1, by rw [sum_mvS hi3 hj3]; exact al4.2⟩, by simp; omega, rfl⟩
    rw [List.map_append]
    show walkD other (ps.map dp ++ [dp ((i3 : Int), (j3 : Int))]) = _
    rw [walk_snoc, hw4]
    exact gI
end
end My

set_option Elab.async false
set_option linter.all false
set_option maxRecDepth 100000
set_option maxHeartbeats 1000000
namespace My
open PySem L2 MA Srt PySem.Spec
theorem joinA {C R : Addr → Hp → Prop} {G : Prop} (main : (∀ a h, C a h → R a h) → G) (key : ∀ a h, C a h → R a h) : G := main key
theorem dl_take {H : Hp} : ∀ {xs : List V} {ds : List PyData} (n : Nat), DataL H xs ds → DataL H (xs.take n) (ds.take n)
  | _, _, 0, _ => by simp; exact .nil
  | _, _, n + 1, .nil => by simp; exact .nil
  | _, _, n + 1, .cons h r => by simp only [List.take_succ_cons]; exact .cons h (dl_take n r)
theorem dl_drop {H : Hp} : ∀ {xs : List V} {ds : List PyData} (n : Nat), DataL H xs ds → DataL H (xs.drop n) (ds.drop n)
  | _, _, 0, h => h
  | _, _, n + 1, .nil => by simp; exact .nil
  | _, _, n + 1, .cons _ r => by simp only [List.drop_succ_cons]; exact dl_drop n r
theorem dl_cut {H : Hp} {xs : List V} {ds : List PyData} (lo hi : Option Int) (h : DataL H xs ds) : ∃ es, DataL H (cutV xs lo hi) es := ⟨_, dl_take _ (dl_drop _ h)⟩
theorem sq_rep (n : Nat) : sq (List.replicate n 0) = 0 := by
  induction n with
  | zero => rfl
  | succ n ih => unfold sq at ih ⊢; rw [List.replicate_succ, List.map_cons, List.sum_cons, ih]; rfl
section
variable {P : Program} {w : World} {K : PySem.W.Frag} {mg : Str → Option Value} {base : Heap}
def spLong : Sp := fun vs H Q _ => ∃ (p : Addr) (m : Nat), vs = [.ref p] ∧ Pen H p m ∧ m < 40000 ∧ ∀ H', Pen H' p (m + 2002) → SameX p H H' → Q (.bl true) H'
theorem ok_long (T : Txt2 mg) (C_l_draw : Cal P w K mg base "_law_draw" ["_law_pen_here", "_law_many"] 1 spDraw) (C_l_little_steps : Cal P w K mg base "_law_little_steps" ["_law_pen_here", "_law_other_here"] 2 spLittle) (C_lets_moves : Cal P w K mg base "lets_moves" ["one", "other", "thing"] 4 spLetsD) (C_l_leads : Cal P w K mg base "_law_leads" ["_law_one", "_law_other_here", "_law_thing_here"] 2 spLeadsD) (C_l_tells : Cal P w K mg base "_law_tells" ["_law_found", "_law_due"] 1 spTells) (F : FunAt K mg "_law_long_right" ["_law_pen_here"] s_l_long_right) : Cal P w K mg base "_law_long_right" ["_law_pen_here"] 5 spLong := by
  have S := sc_l_long_right
  refine F.cal sc_l_long_right (fun vs H Q E h => ?_) (fun f cdv A outer s H vs Q E hr h => ?_)
  · obtain ⟨p, m, rfl, _⟩ := h; rfl
  obtain ⟨p, m, rfl, pen, hm, k⟩ := h
  refine ⟨_, (@pss_cons _ _ _ _ _ (@ps_set _ _ (1) _ _ _ _ (by exact S.nd) (by rfl) (by first | exact Or.inl rfl | exact Or.inr rfl) (@pe_op _ _ _ _ _ _ _ _ op_add pe_int (@cc _ _ _ _ _ _ _ _ _ _ (by exact C_l_draw) (by exact (hr.mono (by decide))) (@pa_consN _ _ _ _ _ (pv 0) (@pa_consN _ _ _ _ _ pe_int pa_nil (by first|rfl|decide|exact .inl rfl|exact .inr rfl|(intros; rfl))) (by first|rfl|decide|exact .inl rfl|exact .inr rfl|(intros; rfl))) (by first|rfl|decide|exact .inl rfl|exact .inr rfl|(intros; rfl)) (by first|rfl|decide|exact .inl rfl|exact .inr rfl|(intros; rfl)) (by first|rfl|decide|exact .inl rfl|exact .inr rfl|(intros; rfl)) (by first|rfl|decide|exact .inl rfl|exact .inr rfl|(intros; rfl)))) (by first|rfl|decide|exact .inl rfl|exact .inr rfl|(intros; rfl)) (by first|rfl|decide|exact .inl rfl|exact .inr rfl|(intros; rfl))) (@pss_cons _ _ _ _ _ (@ps_set _ _ (2) _ _ _ _ (by exact S.nd) (by rfl) (by first | exact Or.inl rfl | exact Or.inr rfl) (@pe_op _ _ _ _ _ _ _ _ op_catT' (@pe_tup _ _ _ _ _ (@pa_consN _ _ _ _ _ (@pe_op _ _ _ _ _ _ _ _ op_sub pe_int (@cc _ _ _ _ _ _ _ _ _ _ (by exact C_l_draw) (by exact (hr.mono (by decide))) (@pa_consN _ _ _ _ _ (pv 0) (@pa_consN _ _ _ _ _ pe_int pa_nil (by first|rfl|decide|exact .inl rfl|exact .inr rfl|(intros; rfl))) (by first|rfl|decide|exact .inl rfl|exact .inr rfl|(intros; rfl))) (by first|rfl|decide|exact .inl rfl|exact .inr rfl|(intros; rfl)) (by first|rfl|decide|exact .inl rfl|exact .inr rfl|(intros; rfl)) (by first|rfl|decide|exact .inl rfl|exact .inr rfl|(intros; rfl)) (by first|rfl|decide|exact .inl rfl|exact .inr rfl|(intros; rfl)))) pa_nil (by first|rfl|decide|exact .inl rfl|exact .inr rfl|(intros; rfl)))) (@pe_op _ _ _ _ _ _ _ _ op_repT (@pe_tup _ _ _ _ _ (@pa_consN _ _ _ _ _ pe_int pa_nil (by first|rfl|decide|exact .inl rfl|exact .inr rfl|(intros; rfl)))) (@pe_op _ _ _ _ _ _ _ _ op_sub (pv 1) pe_int))) (by first|rfl|decide|exact .inl rfl|exact .inr rfl|(intros; rfl)) (by first|rfl|decide|exact .inl rfl|exact .inr rfl|(intros; rfl))) (@pss_cons _ _ _ _ _ (@ps_asg _ _ _ _ _ _ (@cc _ _ _ _ _ _ _ _ _ _ (by exact C_l_little_steps) (by exact (hr.mono (by decide))) (@pa_consN _ _ _ _ _ (pv 0) (@pa_consN _ _ _ _ _ (pv 2) pa_nil (by first|rfl|decide|exact .inl rfl|exact .inr rfl|(intros; rfl))) (by first|rfl|decide|exact .inl rfl|exact .inr rfl|(intros; rfl))) (by first|rfl|decide|exact .inl rfl|exact .inr rfl|(intros; rfl)) (by first|rfl|decide|exact .inl rfl|exact .inr rfl|(intros; rfl)) (by first|rfl|decide|exact .inl rfl|exact .inr rfl|(intros; rfl)) (by first|rfl|decide|exact .inl rfl|exact .inr rfl|(intros; rfl))) (@pg_tup _ _ _ _ _ _ (by rfl) (@pgs_cons _ _ _ _ _ (@pg_name _ _ (4) _ (by exact S.nd) (by rfl) (by first | exact Or.inl rfl | exact Or.inr rfl) (by first|rfl|decide|exact .inl rfl|exact .inr rfl|(intros; rfl))) (@pgs_cons _ _ _ _ _ (@pg_name _ _ (5) _ (by exact S.nd) (by rfl) (by first | exact Or.inl rfl | exact Or.inr rfl) (by first|rfl|decide|exact .inl rfl|exact .inr rfl|(intros; rfl))) pgs_nil (by first|rfl|decide|exact .inl rfl|exact .inr rfl|(intros; rfl))) (by first|rfl|decide|exact .inl rfl|exact .inr rfl|(intros; rfl))) (by first|rfl|decide|exact .inl rfl|exact .inr rfl|(intros; rfl)) (by first|rfl|decide|exact .inl rfl|exact .inr rfl|(intros; rfl))) (by first|rfl|decide|exact .inl rfl|exact .inr rfl|(intros; rfl)) (by first|rfl|decide|exact .inl rfl|exact .inr rfl|(intros; rfl)) (by first|rfl|decide|exact .inl rfl|exact .inr rfl|(intros; rfl))) (@pss_cons _ _ _ _ _ (@ps_if _ _ _ _ _ _ _ _ (@pt_cmpR _ _ _ _ _ _ _ _ op_isnotB (@cc _ _ _ _ _ _ _ _ _ _ (by exact C_lets_moves) (by exact (hr.mono (by decide))) (@pa_consN _ _ _ _ _ (pv 5) (@pa_consN _ _ _ _ _ (pv 2) (@pa_consN _ _ _ _ _ (@pe_callTy _ _ _ _ _ _ _ _ _ call_list_of (by rfl) (by exact T.z_list) (by exact bt_list) (@pa_consN _ _ _ _ _ (pv 4) pa_nil (by first|rfl|decide|exact .inl rfl|exact .inr rfl|(intros; rfl))) (by first|rfl|decide|exact .inl rfl|exact .inr rfl|(intros; rfl)) (by first|rfl|decide|exact .inl rfl|exact .inr rfl|(intros; rfl)) (by first|rfl|decide|exact .inl rfl|exact .inr rfl|(intros; rfl)) (by first|rfl|decide|exact .inl rfl|exact .inr rfl|(intros; rfl))) pa_nil (by first|rfl|decide|exact .inl rfl|exact .inr rfl|(intros; rfl))) (by first|rfl|decide|exact .inl rfl|exact .inr rfl|(intros; rfl))) (by first|rfl|decide|exact .inl rfl|exact .inr rfl|(intros; rfl))) (by first|rfl|decide|exact .inl rfl|exact .inr rfl|(intros; rfl)) (by first|rfl|decide|exact .inl rfl|exact .inr rfl|(intros; rfl)) (by first|rfl|decide|exact .inl rfl|exact .inr rfl|(intros; rfl)) (by first|rfl|decide|exact .inl rfl|exact .inr rfl|(intros; rfl))) pe_bl (by exact (nomark _))) (@pss_one _ _ _ (@ps_ret _ _ _ _ pe_bl)) pss_nil) (@pss_cons _ _ _ _ _ (@ps_for _ _ _ _ _ _ _ _ (by exact PassesOwn.never) (by rfl) (@pi_list _ _ _ _ (@pe_lst _ _ _ _ (@pa_consN _ _ _ _ _ (@pe_op _ _ _ _ _ _ _ _ op_cat (pv 4) (@pe_slice _ _ _ _ _ _ _ _ _ _ sl_list (pv 4) (@po_some _ _ _ (@pe_un _ _ _ _ _ _ un_neg pe_int)) po_none)) (@pa_consN _ _ _ _ _ (@pe_slice _ _ _ _ _ _ _ _ _ _ sl_list (pv 4) po_none (@po_some _ _ _ (@pe_un _ _ _ _ _ _ un_neg pe_int))) (@pa_consN _ _ _ _ _ (@pe_slice _ _ _ _ _ _ _ _ _ _ sl_list (pv 4) (@po_some _ _ _ pe_int) po_none) pa_nil (by first|rfl|decide|exact .inl rfl|exact .inr rfl|(intros; rfl))) (by first|rfl|decide|exact .inl rfl|exact .inr rfl|(intros; rfl))) (by first|rfl|decide|exact .inl rfl|exact .inr rfl|(intros; rfl))))) (@pg_name _ _ (3) _ (by exact S.nd) (by rfl) (by first | exact Or.inl rfl | exact Or.inr rfl) (by first|rfl|decide|exact .inl rfl|exact .inr rfl|(intros; rfl))) (@pss_one _ _ _ (@ps_if _ _ _ _ _ _ _ _ (@pt_not _ _ _ _ (@pt_val _ _ _ (@cc _ _ _ _ _ _ _ _ _ _ (by exact C_l_tells) (by exact (hr.mono (by decide))) (@pa_consN _ _ _ _ _ (@cc _ _ _ _ _ _ _ _ _ _ (by exact C_lets_moves) (by exact (hr.mono (by decide))) (@pa_consN _ _ _ _ _ (pv 5) (@pa_consN _ _ _ _ _ (pv 2) (@pa_consN _ _ _ _ _ (@pe_callTy _ _ _ _ _ _ _ _ _ call_list_of (by rfl) (by exact T.z_list) (by exact bt_list) (@pa_consN _ _ _ _ _ (pv 3) pa_nil (by first|rfl|decide|exact .inl rfl|exact .inr rfl|(intros; rfl))) (by first|rfl|decide|exact .inl rfl|exact .inr rfl|(intros; rfl)) (by first|rfl|decide|exact .inl rfl|exact .inr rfl|(intros; rfl)) (by first|rfl|decide|exact .inl rfl|exact .inr rfl|(intros; rfl)) (by first|rfl|decide|exact .inl rfl|exact .inr rfl|(intros; rfl))) pa_nil (by first|rfl|decide|exact .inl rfl|exact .inr rfl|(intros; rfl))) (by first|rfl|decide|exact .inl rfl|exact .inr rfl|(intros; rfl))) (by first|rfl|decide|exact .inl rfl|exact .inr rfl|(intros; rfl))) (by first|rfl|decide|exact .inl rfl|exact .inr rfl|(intros; rfl)) (by first|rfl|decide|exact .inl rfl|exact .inr rfl|(intros; rfl)) (by first|rfl|decide|exact .inl rfl|exact .inr rfl|(intros; rfl)) (by first|rfl|decide|exact .inl rfl|exact .inr rfl|(intros; rfl))) (@pa_consN _ _ _ _ _ (@cc _ _ _ _ _ _ _ _ _ _ (by exact C_l_leads) (by exact (hr.mono (by decide))) (@pa_consN _ _ _ _ _ (pv 5) (@pa_consN _ _ _ _ _ (pv 2) (@pa_consN _ _ _ _ _ (pv 3) pa_nil (by first|rfl|decide|exact .inl rfl|exact .inr rfl|(intros; rfl))) (by first|rfl|decide|exact .inl rfl|exact .inr rfl|(intros; rfl))) (by first|rfl|decide|exact .inl rfl|exact .inr rfl|(intros; rfl))) (by first|rfl|decide|exact .inl rfl|exact .inr rfl|(intros; rfl)) (by first|rfl|decide|exact .inl rfl|exact .inr rfl|(intros; rfl)) (by first|rfl|decide|exact .inl rfl|exact .inr rfl|(intros; rfl)) (by first|rfl|decide|exact .inl rfl|exact .inr rfl|(intros; rfl))) pa_nil (by first|rfl|decide|exact .inl rfl|exact .inr rfl|(intros; rfl))) (by first|rfl|decide|exact .inl rfl|exact .inr rfl|(intros; rfl))) (by first|rfl|decide|exact .inl rfl|exact .inr rfl|(intros; rfl)) (by first|rfl|decide|exact .inl rfl|exact .inr rfl|(intros; rfl)) (by first|rfl|decide|exact .inl rfl|exact .inr rfl|(intros; rfl)) (by first|rfl|decide|exact .inl rfl|exact .inr rfl|(intros; rfl))) (by first|rfl|decide|exact .inl rfl|exact .inr rfl|(intros; rfl)))) (@pss_one _ _ _ (@ps_ret _ _ _ _ pe_bl)) pss_nil)) (by first|rfl|decide|exact .inl rfl|exact .inr rfl|(intros; rfl))) (@pss_one _ _ _ (@ps_ret _ _ _ _ pe_bl))))))), ?_⟩
  refine ⟨_, rfl, p, _, _, rfl, pen, by omega, by decide, by decide, fun r1 H1 r10 r11 pen1 x1 => ⟨_, _, rfl, rfl, ?_⟩⟩
  refine ⟨_, rfl, p, _, _, rfl, pen1, by omega, by decide, by decide, fun r2 H2 r20 r21 pen2 x2 => ⟨_, _, rfl, rfl, lz 1 rfl, fun t1 ht1 => ?_⟩⟩
  have s3 := same_new ht1 (.tup [.int (40 - r2)])
  refine ⟨lz 1 rfl, fun t2 ht2 => ?_⟩
  have s4 := same_new ht2 (.tup [.int 0])
  refine ⟨_, rfl, _, _, rfl, rfl, t2, _, _, rfl, rfl, upd_same, by simp, by omega, by omega, by simp, ?_⟩
  have sA := s3.trans s4
  have h1A : upd (upd H2 t1 (.tup [.int (40 - r2)])) t2 (.tup [.int 0]) t1 = some (.tup (iv [40 - r2])) := s4 _ _ upd_same
  have h2A : upd (upd H2 t1 (.tup [.int (40 - r2)])) t2 (.tup [.int 0]) t2 = some (.tup [.int 0]) := upd_same
  generalize upd (upd H2 t1 (.tup [.int (40 - r2)])) t2 (.tup [.int 0]) = H4 at s4 sA h1A h2A ⊢
  have pen4 := pen2.same sA
  have x4 := x1.trans (x2.trans (Same.x sA))
  apply joinA (C := fun (tz : Addr) (H' : Hp) => Same H4 H' ∧ H' tz = some (.tup (iv (List.replicate (1 + r1).toNat 0))))
  case main =>
    intro key
    refine ⟨fun e1 => ?_, fun ne1 tz htz => ?_⟩
    rotate_left 1
    · have s5 := same_new htz (.tup (List.replicate (2 + r1 - 1).toNat [V.int 0]).flatten)
      have hz5 : upd H4 tz (.tup (List.replicate (2 + r1 - 1).toNat [V.int 0]).flatten) tz = some (.tup (iv (List.replicate (1 + r1).toNat 0))) := by
        rw [upd_same, iv_rep, show 2 + r1 - 1 = 1 + r1 by omega]
      generalize upd H4 tz (.tup (List.replicate (2 + r1 - 1).toNat [V.int 0]).flatten) = H5 at s5 hz5 ⊢
      exact key tz H5 ⟨s5, hz5⟩
    · have : r1 = 0 := by omega
      rw [show (1 + r1).toNat = 1 by omega] at key
      exact key t2 H4 ⟨Same.refl _, h2A⟩
  rintro tz H5 ⟨s5, hz5⟩
  have zne : iv (List.replicate (1 + r1).toNat 0) ≠ [] := by
    intro z
    have := congrArg List.length z
    simp at this
    omega
  refine ⟨t1, tz, _, _, rfl, rfl, SqT.of (s5 _ _ h1A), SqT.of hz5, (by rw [sizeLine_eq]; simp; omega), fun z => absurd z (by simp), fun _ z => absurd z zne, fun _ _ to hto => ?_⟩
  have s6 := same_new hto (.tup (iv [40 - r2] ++ iv (List.replicate (1 + r1).toNat 0)))
  have ho6 : upd H5 to (.tup (iv [40 - r2] ++ iv (List.replicate (1 + r1).toNat 0))) to = some (.tup (iv ((40 - r2) :: List.replicate (1 + r1).toNat 0))) := upd_same
  generalize upd H5 to (.tup (iv [40 - r2] ++ iv (List.replicate (1 + r1).toNat 0))) = H6 at s6 ho6 ⊢
  have sB := s5.trans s6
  have pen6 := pen4.same sB
  have x6 := x4.trans (Same.x sB)
  have ol : ((40 - r2) :: List.replicate (1 + r1).toNat 0).length ≤ 10 := by simp; omega
  have os : sq ((40 - r2) :: List.replicate (1 + r1).toNat 0) ≤ 2000 := by
    have h0 := sq_rep (1 + r1).toNat
    unfold sq at h0 ⊢
    rw [List.map_cons, List.sum_cons, h0]
    have := Int.mul_le_mul (show 40 - r2 ≤ 40 by omega) (show 40 - r2 ≤ 40 by omega) (by omega) (by decide)
    omega
  generalize (40 - r2) :: List.replicate (1 + r1).toNat 0 = other at ho6 ol os
  refine ⟨_, rfl, _, rfl, p, to, _, other, rfl, pen6, by omega, ho6, ol, os, fun t lf lo zs ps one H7 ht hf hp ho hw al few pen7 x7 => ?_⟩
  refine ⟨t, _, rfl, SqT.of ht, rfl, _, _, rfl, _, _, rfl, rfl, ?_⟩
  have ho7 := pen6.keep x7 ho6
  have nl : H lf = none ∨ True := .inr trivial
  have zl : zs.length ≤ 2000 := by rw [Paired.length hp]; exact few
  have dl : DataL H7 zs (ps.map dp) := Prs.data hp
  refine ⟨_, rfl, _, rfl, _, rfl, lf, zs, rfl, .inl (SqL.of hf), fun l1 hl1 => ?_⟩
  have s8 := same_new hl1 (.lst zs)
  refine ⟨lo, to, .ref l1, one, other, .list (ps.map dp), rfl, s8 _ _ ho, s8 _ _ ho7, ol, al, .inl (.lst upd_same (dl.same s8)), fun H9 s9 => ?_⟩
  have eT : letsD one other (.list (ps.map dp)) = true := decide_eq_true hw
  rw [eT]
  refine ⟨_, _, rfl, rfl, _, rfl, iteF ?_⟩
  have sC := s8.trans s9
  have hf9 := sC _ _ hf
  refine ⟨_, rfl, _, rfl, _, rfl, _, rfl, lf, zs, rfl, SqL.of hf9, fun c1 hc1 => ?_⟩
  have s10 := same_new hc1 (.lst (cutV zs (some (-1)) none))
  have cl1 := cutV_length zs (some (-1)) none
  refine ⟨lf, c1, _, _, rfl, rfl, s10 _ _ hf9, upd_same, by rw [sizeLine_eq]; omega, fun d1 hd1 => ?_⟩
  have s11 := same_new hd1 (.lst (zs ++ cutV zs (some (-1)) none))
  have hd1' : upd (upd H9 c1 (.lst (cutV zs (some (-1)) none))) d1 (.lst (zs ++ cutV zs (some (-1)) none)) d1 = _ := upd_same
  have sD := sC.trans (s10.trans s11)
  generalize upd (upd H9 c1 (.lst (cutV zs (some (-1)) none))) d1 (.lst (zs ++ cutV zs (some (-1)) none)) = H11 at s11 hd1' sD ⊢
  refine ⟨_, rfl, _, rfl, _, rfl, lf, zs, rfl, SqL.of (sD _ _ hf), fun c2 hc2 => ?_⟩
  have s12 := same_new hc2 (.lst (cutV zs none (some (-1))))
  refine ⟨_, rfl, _, rfl, lf, zs, rfl, SqL.of ((sD.trans s12) _ _ hf), fun c3 hc3 => ?_⟩
  have s13 := same_new hc3 (.lst (cutV zs (some 1) none))
  have hd13 := (s12.trans s13) _ _ hd1'
  have h2' : upd (upd H11 c2 (.lst (cutV zs none (some (-1))))) c3 (.lst (cutV zs (some 1) none)) c2 = some (.lst (cutV zs none (some (-1)))) := s13 _ _ upd_same
  have h3' : upd (upd H11 c2 (.lst (cutV zs none (some (-1))))) c3 (.lst (cutV zs (some 1) none)) c3 = some (.lst (cutV zs (some 1) none)) := upd_same
  have sE := sD.trans (s12.trans s13)
  generalize upd (upd H11 c2 (.lst (cutV zs none (some (-1))))) c3 (.lst (cutV zs (some 1) none)) = H13 at s13 hd13 h2' h3' sE ⊢
  refine ⟨lz 3 rfl, fun L hL => ?_⟩
  have s14 := same_new hL (.lst [.ref d1, .ref c2, .ref c3])
  have hL' : upd H13 L (.lst [.ref d1, .ref c2, .ref c3]) L = _ := upd_same
  have dl13 : DataL H13 zs (ps.map dp) := dl.same sE
  have some3 : ∀ v ∈ ([.ref d1, .ref c2, .ref c3] : List V), ∃ x ys ds, v = .ref x ∧ H13 x = some (.lst ys) ∧ DataL H13 ys ds := by
    intro v hv
    simp only [List.mem_cons, List.not_mem_nil, or_false] at hv
    rcases hv with rfl | rfl | rfl
    · obtain ⟨es, he⟩ := dl_cut (some (-1)) none dl13
      exact ⟨_, _, _, rfl, hd13, DataL.append dl13 he⟩
    · obtain ⟨es, he⟩ := dl_cut none (some (-1)) dl13
      exact ⟨_, _, _, rfl, h2', he⟩
    · obtain ⟨es, he⟩ := dl_cut (some 1) none dl13
      exact ⟨_, _, _, rfl, h3', he⟩
  generalize upd H13 L (.lst [.ref d1, .ref c2, .ref c3]) = H14 at s14 hL' ⊢
  have sF := sE.trans s14
  refine ⟨L, rfl, ⟨_, SqL.of hL'⟩, for_Y (yields_lst (xs := [.ref d1, .ref c2, .ref c3])) (fun i σ H' => Same H14 H' ∧ ∃ o3, σ = [some (.ref p), some (.int (2 + r1)), some (.ref to), o3, some (.ref lf), some (.ref lo)]) ⟨Same.refl _, _, rfl⟩ ?_ ?_ ?_⟩
  · rintro i σ H' ⟨s', _⟩
    exact s' _ _ hL'
  · rintro i v σ H15 H15' hi ⟨s15, o3, rfl⟩ ⟨rfl, hv⟩
    obtain ⟨x, ys, ds, rfl, hx, hdl⟩ := some3 v (List.mem_of_getElem? hv)
    have sG := s14.trans s15
    have sH := sF.trans s15
    refine gN_ ⟨_, rfl, _, rfl, _, rfl, x, ys, rfl, .inl (SqL.of (sG _ _ hx)), fun l2 hl2 => ?_⟩
    have s16 := same_new hl2 (.lst ys)
    refine ⟨lo, to, .ref l2, one, other, .list ds, rfl, (sH.trans s16) _ _ ho, (sH.trans s16) _ _ ho7, ol, al, .inl (.lst upd_same ((hdl.same sG).same s16)), fun H17 s17 => ?_⟩
    have sI := s16.trans s17
    refine ⟨_, rfl, _, rfl, _, rfl, lo, to, .ref x, one, other, .list ds, rfl, (sH.trans sI) _ _ ho, (sH.trans sI) _ _ ho7, ol, .inl (.lst ((sG.trans sI) _ _ hx) (hdl.same (sG.trans sI))), fun H18 s18 => ?_⟩
    refine ⟨_, rfl, _, rfl, iteF ?_⟩
    exact ⟨s15.trans (sI.trans s18), _, rfl⟩
  · rintro σ H15 ⟨s15, o3, rfl⟩
    have sH := sF.trans s15
    exact k H15 ((pen7.same sH).mono (by omega)) (x6.trans (x7.trans (Same.x sH)))
end
end My

set_option Elab.async false
set_option linter.all false
set_option maxRecDepth 100000
set_option maxHeartbeats 1000000
namespace My
open PySem L2 MA Srt PySem.Spec
def Sm2 (q : Int × Int) : Prop := -10 ≤ q.1 ∧ q.1 ≤ 20 ∧ -10 ≤ q.2 ∧ q.2 ≤ 20
section
variable {P : Program} {w : World} {K : PySem.W.Frag} {mg : Str → Option Value} {base : Heap}
def spIdle : Sp := fun vs H Q _ => ∃ (a : Addr) (ns : List Int) (odd : Int), vs = [.ref a, .int odd] ∧ H a = some (.tup (iv ns)) ∧ 1 ≤ ns.length ∧ ns.length ≤ 10 ∧ 0 ≤ odd ∧ ∀ (v : V) (q : Int × Int) (H' : Hp), Same H H' → PrAt H' v q → Sm2 q → Q v H'
theorem ok_idle (T : Txt2 mg) (F : FunAt K mg "_law_idle" ["_law_load_here", "_law_odd"] s_l_idle) : Cal P w K mg base "_law_idle" ["_law_load_here", "_law_odd"] 1 spIdle := by
  have S := sc_l_idle
  refine F.cal sc_l_idle (fun vs H Q E h => ?_) (fun f cdv A outer s H vs Q E hr h => ?_)
  · obtain ⟨a, ns, odd, rfl, _⟩ := h; rfl
  obtain ⟨a, ns, odd, rfl, ha, n1, n10, o0, k⟩ := h
  refine ⟨_, (@pss_cons _ _ _ _ _ (@ps_set _ _ (2) _ _ _ _ (by exact S.nd) (by rfl) (by first | exact Or.inl rfl | exact Or.inr rfl) (@pe_callB _ _ _ _ _ _ _ _ _ call_len_seq (by rfl) (by exact T.z_len) (by exact bt_len) (@pa_consN _ _ _ _ _ (pv 0) pa_nil (by first|rfl|decide|exact .inl rfl|exact .inr rfl|(intros; rfl))) (by first|rfl|decide|exact .inl rfl|exact .inr rfl|(intros; rfl)) (by first|rfl|decide|exact .inl rfl|exact .inr rfl|(intros; rfl)) (by first|rfl|decide|exact .inl rfl|exact .inr rfl|(intros; rfl)) (by first|rfl|decide|exact .inl rfl|exact .inr rfl|(intros; rfl))) (by first|rfl|decide|exact .inl rfl|exact .inr rfl|(intros; rfl)) (by first|rfl|decide|exact .inl rfl|exact .inr rfl|(intros; rfl))) (@pss_cons _ _ _ _ _ (@ps_comp _ _ _ _ _ _ _ _ _ _ _ _ _ _ _ (3) _ (by exact S.nd) (by rfl) (by first | exact Or.inl rfl | exact Or.inr rfl) (by rfl) (by exact (fun _ _ h => h)) (by decide +kernel) (by rfl) (by decide +kernel) (by exact hfr_of rfl) (by exact Sees.frees ["_law_k"] [] fr_nil) (@pi_range1 _ _ _ _ _ _ (by rfl) (by exact T.z_range) (@pa_consN _ _ _ _ _ (pv 2) pa_nil (by first|rfl|decide|exact .inl rfl|exact .inr rfl|(intros; rfl))) (by first|rfl|decide|exact .inl rfl|exact .inr rfl|(intros; rfl))) (fun _ _ _ _ _ => @pg_name _ _ (0) _ (by exact (show (["_law_k"] : List Str).Nodup by decide +kernel)) (by rfl) (by first | exact Or.inl rfl | exact Or.inr rfl) (by first|rfl|decide|exact .inl rfl|exact .inr rfl|(intros; rfl))) (fun _ _ _ _ _ => pts_nil) (fun _ _ _ _ _ => (@pe_tup _ _ _ _ _ (@pa_consN _ _ _ _ _ (pv 0) (@pa_consN _ _ _ _ _ (pv 0) pa_nil (by first|rfl|decide|exact .inl rfl|exact .inr rfl|(intros; rfl))) (by first|rfl|decide|exact .inl rfl|exact .inr rfl|(intros; rfl))))) (by first|rfl|decide|exact .inl rfl|exact .inr rfl|(intros; rfl)) (by first|rfl|decide|exact .inl rfl|exact .inr rfl|(intros; rfl)) (by first|rfl|decide|exact .inl rfl|exact .inr rfl|(intros; rfl))) (@pss_cons _ _ _ _ _ (@ps_for _ _ _ _ _ _ _ _ (by exact PassesOwn.never) (by rfl) (@pi_range1 _ _ _ _ _ _ (by rfl) (by exact T.z_range) (@pa_consN _ _ _ _ _ (@pe_op _ _ _ _ _ _ _ _ op_sub (pv 2) pe_int) pa_nil (by first|rfl|decide|exact .inl rfl|exact .inr rfl|(intros; rfl))) (by first|rfl|decide|exact .inl rfl|exact .inr rfl|(intros; rfl))) (@pg_name _ _ (4) _ (by exact S.nd) (by rfl) (by first | exact Or.inl rfl | exact Or.inr rfl) (by first|rfl|decide|exact .inl rfl|exact .inr rfl|(intros; rfl))) (@pss_one _ _ _ (@ps_if _ _ _ _ _ _ _ _ (@pt_cmpR _ _ _ _ _ _ _ _ op_lt (@pe_op _ _ _ _ _ _ _ _ op_sub (@pe_ix _ _ _ _ _ _ _ ix_tup (pv 0) (pv 4) (by exact (fun _ _ => rfl))) (@pe_ix _ _ _ _ _ _ _ ix_tup (pv 0) (@pe_op _ _ _ _ _ _ _ _ op_add (pv 4) pe_int) (by exact (fun _ _ => rfl)))) pe_int (by exact (nomark _))) (@pss_cons _ _ _ _ _ (@ps_set _ _ (3) _ _ _ _ (by exact S.nd) (by rfl) (by first | exact Or.inl rfl | exact Or.inr rfl) (@pe_op _ _ _ _ _ _ _ _ op_cat (pv 3) (@pe_lst _ _ _ _ (@pa_consN _ _ _ _ _ (@pe_tup _ _ _ _ _ (@pa_consN _ _ _ _ _ (pv 4) (@pa_consN _ _ _ _ _ (@pe_op _ _ _ _ _ _ _ _ op_add (pv 4) pe_int) pa_nil (by first|rfl|decide|exact .inl rfl|exact .inr rfl|(intros; rfl))) (by first|rfl|decide|exact .inl rfl|exact .inr rfl|(intros; rfl)))) (@pa_consN _ _ _ _ _ (@pe_tup _ _ _ _ _ (@pa_consN _ _ _ _ _ (pv 4) (@pa_consN _ _ _ _ _ (@pe_op _ _ _ _ _ _ _ _ op_add (pv 4) pe_int) pa_nil (by first|rfl|decide|exact .inl rfl|exact .inr rfl|(intros; rfl))) (by first|rfl|decide|exact .inl rfl|exact .inr rfl|(intros; rfl)))) pa_nil (by first|rfl|decide|exact .inl rfl|exact .inr rfl|(intros; rfl))) (by first|rfl|decide|exact .inl rfl|exact .inr rfl|(intros; rfl))))) (by first|rfl|decide|exact .inl rfl|exact .inr rfl|(intros; rfl)) (by first|rfl|decide|exact .inl rfl|exact .inr rfl|(intros; rfl))) (@pss_one _ _ _ (@ps_expr _ _ _ _ (@pe_bm _ _ _ _ _ _ _ _ _ _ _ _ (by exact PySem.F.plainAttrs_list) (by exact PySem.F.slot_list_append) (by exact PySem.F.type_list_append) mt_append (pv 3) (@pa_consN _ _ _ _ _ (@pe_tup _ _ _ _ _ (@pa_consN _ _ _ _ _ (@pe_op _ _ _ _ _ _ _ _ op_add (pv 4) pe_int) (@pa_consN _ _ _ _ _ (pv 4) pa_nil (by first|rfl|decide|exact .inl rfl|exact .inr rfl|(intros; rfl))) (by first|rfl|decide|exact .inl rfl|exact .inr rfl|(intros; rfl)))) pa_nil (by first|rfl|decide|exact .inl rfl|exact .inr rfl|(intros; rfl))) (by first|rfl|decide|exact .inl rfl|exact .inr rfl|(intros; rfl)) (by first|rfl|decide|exact .inl rfl|exact .inr rfl|(intros; rfl)) (by first|rfl|decide|exact .inl rfl|exact .inr rfl|(intros; rfl)) (by first|rfl|decide|exact .inl rfl|exact .inr rfl|(intros; rfl)) (by first|rfl|decide|exact .inl rfl|exact .inr rfl|(intros; rfl))) (by first|rfl|decide|exact .inl rfl|exact .inr rfl|(intros; rfl))))) pss_nil)) (by first|rfl|decide|exact .inl rfl|exact .inr rfl|(intros; rfl))) (@pss_one _ _ _ (@ps_ret _ _ _ _ (@pe_ix _ _ _ _ _ _ _ ix_list (pv 3) (@pe_op _ _ _ _ _ _ _ _ op_mod (pv 1) (@pe_callB _ _ _ _ _ _ _ _ _ call_len_seq (by rfl) (by exact T.z_len) (by exact bt_len) (@pa_consN _ _ _ _ _ (pv 3) pa_nil (by first|rfl|decide|exact .inl rfl|exact .inr rfl|(intros; rfl))) (by first|rfl|decide|exact .inl rfl|exact .inr rfl|(intros; rfl)) (by first|rfl|decide|exact .inl rfl|exact .inr rfl|(intros; rfl)) (by first|rfl|decide|exact .inl rfl|exact .inr rfl|(intros; rfl)) (by first|rfl|decide|exact .inl rfl|exact .inr rfl|(intros; rfl)))) (by exact (fun _ _ => rfl)))))))), ?_⟩
  refine ⟨_, rfl, a, _, rfl, .inr (SqT.of ha), ?_⟩
  have el : (((iv ns).length : Nat) : Int) = (ns.length : Int) := by simp
  rw [el]
  refine ⟨_, rfl, _, rfl, by omega, by omega, comp_rng (n := ((ns.length : Nat) : Int).toNat) (lo := 0) (fs := []) (fun acc i ys H' => Same H H' ∧ ∃ ps, Prs H' ys ps ∧ ∀ q ∈ ps, Sm2 q) (by omega) ?_ ?_ ?_⟩
  · exact fun acc hacc => ⟨same_new hacc _, [], .nil, fun q hq => by simp at hq⟩
  · rintro acc i ys H' hacc hi hlen ⟨s', ps, pr, sm⟩ hH' Q' hQ
    refine ⟨_, rfl, _, rfl, lz 2 rfl, fun t ht => hQ _ _ ?_ ?_⟩
    · exact same_new ht _ _ _ hH'
    · have s2 := same_new ht (.tup [.int (0 + (i : Int)), .int (0 + (i : Int))])
      refine ⟨same_updN hacc (s'.trans s2) _, ps ++ [(0 + (i : Int), 0 + (i : Int))], Prs.updL (s2 _ _ hH') (Prs.snoc (p := (0 + (i : Int), 0 + (i : Int))) ⟨t, rfl, upd_same⟩ (pr.same s2)), fun q hq => ?_⟩
      rcases List.mem_append.mp hq with z | z
      · exact sm q z
      · have := List.mem_singleton.mp z
        subst this
        refine ⟨?_, ?_, ?_, ?_⟩ <;> (show _ ≤ _) <;> simp <;> omega
  rintro l0 ys0 H1 hl0 ⟨s1, ps0, pr0, sm0⟩ hH1 hlen0
  refine ⟨_, rfl, _, _, rfl, rfl, _, rfl, by omega, by omega, for_range (n := ((ns.length : Int) - 1).toNat) (fun i σ H' => Same H H' ∧ ∃ (l : Addr) (ys : List V) (ps : List (Int × Int)) (o4 : Option V), H l = none ∧ H' l = some (.lst ys) ∧ Prs H' ys ps ∧ (∀ q ∈ ps, Sm2 q) ∧ 1 ≤ ys.length ∧ ys.length ≤ 10 + 3 * i ∧ σ = [some (.ref a), some (.int odd), some (.int (ns.length : Int)), some (.ref l), o4]) ⟨s1, l0, ys0, ps0, _, hl0, hH1, pr0, sm0, by omega, by omega, rfl⟩ ?_ ?_⟩
  · rintro i σ H2 hi ⟨s2, l, ys, ps, o4, nl, hl, pr, sm, yl, yl2, rfl⟩
    have hi1 : i < ns.length := by omega
    have hi2 : i + 1 < ns.length := by omega
    have ha2 := s2 _ _ ha
    refine gN_ ?_
    refine ⟨_, rfl, _, rfl, a, _, _, _, rfl, rfl, SqT.of ha2, (by show atI (iv ns) (0 + (i : Int)) = _; rw [Int.zero_add]; exact atI_iv (List.getElem?_eq_getElem hi1)), ?_⟩
    refine ⟨_, rfl, _, rfl, _, _, rfl, rfl, a, _, _, _, rfl, rfl, SqT.of ha2, (by show atI (iv ns) (0 + (i : Int) + 1) = _; rw [Int.zero_add, show (i : Int) + 1 = ((i + 1 : Nat) : Int) by omega]; exact atI_iv (List.getElem?_eq_getElem hi2)), _, _, rfl, rfl, _, _, rfl, rfl, _, rfl, ?_⟩
    refine ite2 (fun c => ?_) (fun c => ?_)
    rotate_left 1
    · exact ⟨s2, l, ys, ps, _, nl, hl, pr, sm, yl, by omega, rfl⟩
    have s2m : ∀ x y : Int, 0 ≤ x → x ≤ 10 → 0 ≤ y → y ≤ 10 → Sm2 (x, y) := fun x y h1 h2 h3 h4 => ⟨by show -10 ≤ x; omega, by show x ≤ 20; omega, by show -10 ≤ y; omega, by show y ≤ 20; omega⟩
    refine ⟨_, rfl, _, rfl, _, rfl, _, _, rfl, rfl, lz 2 rfl, fun t1 ht1 => ?_⟩
    have s3 := same_new ht1 (.tup [.int (0 + (i : Int)), .int (0 + (i : Int) + 1)])
    refine ⟨_, rfl, _, rfl, _, _, rfl, rfl, lz 2 rfl, fun t2 ht2 => ?_⟩
    have s4 := same_new ht2 (.tup [.int (0 + (i : Int)), .int (0 + (i : Int) + 1)])
    have h1' : upd (upd H2 t1 (.tup [.int (0 + (i : Int)), .int (0 + (i : Int) + 1)])) t2 (.tup [.int (0 + (i : Int)), .int (0 + (i : Int) + 1)]) t1 = some (.tup [.int (0 + (i : Int)), .int (0 + (i : Int) + 1)]) := s4 _ _ upd_same
    have h2' : upd (upd H2 t1 (.tup [.int (0 + (i : Int)), .int (0 + (i : Int) + 1)])) t2 (.tup [.int (0 + (i : Int)), .int (0 + (i : Int) + 1)]) t2 = some (.tup [.int (0 + (i : Int)), .int (0 + (i : Int) + 1)]) := upd_same
    have s24 := s3.trans s4
    generalize upd (upd H2 t1 (.tup [.int (0 + (i : Int)), .int (0 + (i : Int) + 1)])) t2 (.tup [.int (0 + (i : Int)), .int (0 + (i : Int) + 1)]) = H4 at s4 h1' h2' s24 ⊢
    refine ⟨lz 2 rfl, fun l2 hl2 => ?_⟩
    have s5 := same_new hl2 (.lst [.ref t1, .ref t2])
    refine ⟨l, l2, ys, _, rfl, rfl, s5 _ _ (s24 _ _ hl), upd_same, by rw [sizeLine_eq]; simp; omega, fun l3 hl3 => ?_⟩
    have s6 := same_new hl3 (.lst (ys ++ [.ref t1, .ref t2]))
    have sA := s24.trans (s5.trans s6)
    have hl6 : upd (upd H4 l2 (.lst [.ref t1, .ref t2])) l3 (.lst (ys ++ [.ref t1, .ref t2])) l3 = some (.lst (ys ++ [.ref t1, .ref t2])) := upd_same
    have nl3 : H l3 = none := none_of (s2.trans (s24.trans s5)) hl3
    have p1 := (s5.trans s6) _ _ h1'
    have p2 := (s5.trans s6) _ _ h2'
    generalize upd (upd H4 l2 (.lst [.ref t1, .ref t2])) l3 (.lst (ys ++ [.ref t1, .ref t2])) = H6 at s6 sA hl6 p1 p2 ⊢
    refine ⟨_, rfl, .inl ⟨rfl, _, SqL.of hl6⟩, _, rfl, _, _, rfl, rfl, _, rfl, lz 2 rfl, fun t3 ht3 => ?_⟩
    have s7 := same_new ht3 (.tup [.int (0 + (i : Int) + 1), .int (0 + (i : Int))])
    have hl7 := s7 _ _ hl6
    refine ⟨l3, ys ++ [.ref t1, .ref t2], _, rfl, rfl, hl7, by rw [sizeLine_eq]; simp; omega, ?_⟩
    have pr7 := ((pr.same sA).same s7)
    have q1 : PrAt (upd H6 t3 (.tup [.int (0 + (i : Int) + 1), .int (0 + (i : Int))])) (.ref t1) (0 + (i : Int), 0 + (i : Int) + 1) := ⟨t1, rfl, s7 _ _ p1⟩
    have q2 : PrAt (upd H6 t3 (.tup [.int (0 + (i : Int) + 1), .int (0 + (i : Int))])) (.ref t2) (0 + (i : Int), 0 + (i : Int) + 1) := ⟨t2, rfl, s7 _ _ p2⟩
    have q3 : PrAt (upd H6 t3 (.tup [.int (0 + (i : Int) + 1), .int (0 + (i : Int))])) (.ref t3) (0 + (i : Int) + 1, 0 + (i : Int)) := ⟨t3, rfl, upd_same⟩
    refine ⟨same_updN nl3 (s2.trans (sA.trans s7)) _, l3, ys ++ [.ref t1, .ref t2] ++ [.ref t3], ps ++ [(0 + (i : Int), 0 + (i : Int) + 1), (0 + (i : Int), 0 + (i : Int) + 1)] ++ [(0 + (i : Int) + 1, 0 + (i : Int))], _, nl3, upd_same, Prs.updL hl7 (prs_app (prs_app pr7 (.cons q1 (.cons q2 .nil))) (.cons q3 .nil)), fun q hq => ?_, by simp, by simp; omega, rfl⟩
    simp only [List.mem_append, List.mem_cons, List.not_mem_nil, or_false] at hq
    rcases hq with (hq | rfl | rfl) | rfl
    · exact sm q hq
    · exact s2m _ _ (by omega) (by omega) (by omega) (by omega)
    · exact s2m _ _ (by omega) (by omega) (by omega) (by omega)
    · exact s2m _ _ (by omega) (by omega) (by omega) (by omega)
  · rintro σ H2 ⟨s2, l, ys, ps, o4, nl, hl, pr, sm, yl, yl2, rfl⟩
    have pl := Paired.length pr
    have m0 := Int.emod_nonneg odd (show ((ys.length : Nat) : Int) ≠ 0 by omega)
    have m1 := Int.emod_lt_of_pos odd (show (0 : Int) < (ys.length : Nat) by omega)
    obtain ⟨v, hv⟩ : ∃ v, ys[(odd % (ys.length : Nat)).toNat]? = some v := ⟨_, List.getElem?_eq_getElem (by omega)⟩
    obtain ⟨q, hq, pv⟩ := paired_get pr hv
    have hat := atI_nat hv
    rw [show (((odd % (ys.length : Nat)).toNat : Nat) : Int) = odd % (ys.length : Nat) by omega] at hat
    exact ⟨_, rfl, _, rfl, _, rfl, l, ys, rfl, .inl (SqL.of hl), _, _, rfl, rfl, by omega, l, _, _, _, rfl, rfl, SqL.of hl, hat, k v q H2 s2 pv (sm q (List.mem_of_getElem? hq))⟩
end
end My

set_option Elab.async false
set_option linter.all false
set_option maxRecDepth 100000
set_option maxHeartbeats 1000000
namespace My
open PySem L2 MA Srt PySem.Spec
/-- what may be shown -/
structure Kx (n e : Nat) (d : PyData) : Prop where
  sh : d.showable = true
  dp : d.depth ≤ e
  lv : d.leavesShort 40 = true
  bk : d.bulk ≤ n
theorem Kx.mono {n e n' e' : Nat} {d : PyData} (h : Kx n e d) (h1 : n ≤ n') (h2 : e ≤ e') : Kx n' e' d := ⟨h.sh, Nat.le_trans h.dp h2, h.lv, Nat.le_trans h.bk h1⟩
theorem Kx.ln {n e : Nat} {d : PyData} (h : Kx n e d) (l : n ≤ 100000) : d.shown.length ≤ sizeLine := by
  have a := PyData.shown_le_bulk 40 (by decide) d h.lv
  have b := h.bk
  have : (40 + 2) * d.bulk ≤ 42 * 100000 := Nat.mul_le_mul (by omega) (by omega)
  rw [sizeLine_eq]
  omega
theorem kx_all {n e : Nat} : ∀ {ds : List PyData}, (∀ d ∈ ds, Kx n e d) → PyData.showableAll ds = true ∧ PyData.depthAll ds ≤ e ∧ PyData.leavesShortAll 40 ds = true ∧ PyData.bulkAll ds ≤ ds.length * (n + 1)
  | [], _ => ⟨rfl, Nat.zero_le _, rfl, Nat.zero_le _⟩
  | d :: ds, h => by
    obtain ⟨h1, h2, h3, h4⟩ := kx_all (fun d hd => h d (List.mem_cons_of_mem _ hd)) (ds := ds)
    have hd := h d List.mem_cons_self
    have a := hd.sh
    have b := hd.dp
    have c := hd.lv
    have f := hd.bk
    refine ⟨by simp [PyData.showableAll, a, h1], by simp only [PyData.depthAll]; exact Nat.max_le.mpr ⟨b, h2⟩, by simp [PyData.leavesShortAll, c, h3], ?_⟩
    simp only [PyData.bulkAll, List.length_cons, Nat.add_mul]
    omega
theorem kx_tup {n e m : Nat} {ds : List PyData} (h : ∀ d ∈ ds, Kx n e d) (hm2 : ds.length * (n + 1) + 1 ≤ m) : Kx m (e + 1) (.tuple ds) := by
  obtain ⟨h1, h2, h3, h4⟩ := kx_all h
  exact ⟨by simpa [PyData.showable] using h1, by simp only [PyData.depth]; omega, by simpa [PyData.leavesShort] using h3, by simp only [PyData.bulk]; omega⟩
theorem kx_list {n e m : Nat} {ds : List PyData} (h : ∀ d ∈ ds, Kx n e d) (hm2 : ds.length * (n + 1) + 1 ≤ m) : Kx m (e + 1) (.list ds) := by
  obtain ⟨h1, h2, h3, h4⟩ := kx_all h
  exact ⟨by simpa [PyData.showable] using h1, by simp only [PyData.depth]; omega, by simpa [PyData.leavesShort] using h3, by simp only [PyData.bulk]; omega⟩
theorem kx_int {i : Int} (h : i.natAbs ≤ 1000) : Kx 0 0 (.int i) := by
  have s := sm_int (show I18 i by show i.natAbs < _; omega) 0
  exact ⟨s.sh, by simp [PyData.depth], s.lv, s.bk⟩
theorem kx_none : Kx 0 0 .none := ⟨rfl, Nat.zero_le _, rfl, Nat.zero_le _⟩
theorem kx_bool (b : Bool) : Kx 0 0 (.bool b) := ⟨rfl, Nat.zero_le _, rfl, Nat.zero_le _⟩
theorem kx_str {x : String} (h : x.length ≤ 20) : Kx 20 0 (.str (Str.ofString x)) := by
  have s := sm_str h
  exact ⟨s.sh, Nat.zero_le _, s.lv, s.bk⟩
theorem kx_text {i : Int} (h : i.natAbs ≤ 1000) : Kx 20 0 (.str (toString i : String)) := by
  have s := sm_text (i := i) (show I18 i by show i.natAbs < _; omega)
  exact ⟨s.sh, Nat.zero_le _, s.lv, s.bk⟩
theorem kx_kv {n e : Nat} : ∀ {ps : List (PyData × PyData)}, (∀ p ∈ ps, Kx n e p.1 ∧ Kx n e p.2) → PyData.showableKv ps = true ∧ PyData.depthKv ps ≤ e ∧ PyData.leavesShortKv 40 ps = true ∧ PyData.bulkKv ps ≤ ps.length * (2 * n + 4)
  | [], _ => ⟨rfl, Nat.zero_le _, rfl, Nat.zero_le _⟩
  | (k, v) :: ps, h => by
    obtain ⟨h1, h2, h3, h4⟩ := kx_kv (fun d hd => h d (List.mem_cons_of_mem _ hd)) (ps := ps)
    obtain ⟨hk, hv⟩ : Kx n e k ∧ Kx n e v := h (k, v) List.mem_cons_self
    have a := hk.sh
    have b := hk.dp
    have c := hk.lv
    have f := hk.bk
    have a' := hv.sh
    have b' := hv.dp
    have c' := hv.lv
    have f' := hv.bk
    refine ⟨by simp [PyData.showableKv, a, a', h1], by simp only [PyData.depthKv]; omega, by simp [PyData.leavesShortKv, c, c', h3], ?_⟩
    simp only [PyData.bulkKv, List.length_cons, Nat.add_mul]
    omega
theorem kx_dict {n e m : Nat} {ps : List (PyData × PyData)} (h : ∀ p ∈ ps, Kx n e p.1 ∧ Kx n e p.2) (hm2 : ps.length * (2 * n + 4) + 1 ≤ m) : Kx m (e + 1) (.dict ps) := by
  obtain ⟨h1, h2, h3, h4⟩ := kx_kv h
  exact ⟨by simpa [PyData.showable] using h1, by simp only [PyData.depth]; omega, by simpa [PyData.leavesShort] using h3, by simp only [PyData.bulk]; omega⟩
theorem kx_dp {q : Int × Int} (h : Sm2 q) : Kx 10 1 (dp q) := by
  obtain ⟨h1, h2, h3, h4⟩ := h
  refine kx_tup (n := 0) (e := 0) (fun d hd => ?_) (by simp)
  simp only [List.mem_cons, List.not_mem_nil, or_false] at hd
  rcases hd with rfl | rfl
  · exact kx_int (by omega)
  · exact kx_int (by omega)
theorem pickX {H : Hp} {n e : Nat} {vs : List V} (h : ∀ v ∈ vs, ∃ d, DataT H v d ∧ Kx n e d) {i : Int} (h0 : 0 ≤ i) (h1 : i < vs.length) : ∃ v d, atI vs i = some v ∧ DataT H v d ∧ Kx n e d := by
  obtain ⟨j, rfl⟩ : ∃ j : Nat, i = (j : Int) := ⟨i.toNat, by omega⟩
  have hj : j < vs.length := by omega
  obtain ⟨d, h2, h3⟩ := h _ (List.getElem_mem hj)
  exact ⟨_, d, atI_nat (List.getElem?_eq_getElem hj), h2, h3⟩
theorem pickV {H : Hp} {n e : Nat} {vs : List V} (h : ∀ v ∈ vs, ∃ d, DataV H v d ∧ Kx n e d) {i : Int} (h0 : 0 ≤ i) (h1 : i < vs.length) : ∃ v d, atI vs i = some v ∧ DataV H v d ∧ Kx n e d := by
  obtain ⟨j, rfl⟩ : ∃ j : Nat, i = (j : Int) := ⟨i.toNat, by omega⟩
  have hj : j < vs.length := by omega
  obtain ⟨d, h2, h3⟩ := h _ (List.getElem_mem hj)
  exact ⟨_, d, atI_nat (List.getElem?_eq_getElem hj), h2, h3⟩
section
variable {P : Program} {w : World} {K : PySem.W.Frag} {mg : Str → Option Value} {base : Heap}
def spOdd : Sp := fun vs H Q _ => ∃ (t : Addr) (i j odd : Int), vs = [.ref t, .int odd] ∧ H t = some (.tup [.int i, .int j]) ∧ 0 ≤ i ∧ i ≤ 10 ∧ 0 ≤ j ∧ j ≤ 10 ∧ 0 ≤ odd ∧ odd < 16 ∧ ∀ (v : V) (d : PyData) (H' : Hp), Same H H' → DataV H' v d → Kx 100 3 d → Q v H'
theorem ok_odd (T : Txt2 mg) (F : FunAt K mg "_law_odd_move" ["_law_move", "_law_odd"] s_l_odd_move) : Cal P w K mg base "_law_odd_move" ["_law_move", "_law_odd"] 1 spOdd := by
  have S := sc_l_odd_move
  refine F.cal sc_l_odd_move (fun vs H Q E h => ?_) (fun f cdv A outer s H vs Q E hr h => ?_)
  · obtain ⟨t, i, j, odd, rfl, _⟩ := h; rfl
  obtain ⟨t, i, j, odd, rfl, ht, i0, i1, j0, j1, o0, o1, k⟩ := h
  have hlog : i.natAbs.log2 < 1920 := log_int (show I18 i by show i.natAbs < _; omega)
  refine ⟨_, (@pss_cons _ _ _ _ _ (@ps_asg _ _ _ _ _ _ (pv 0) (@pg_tup _ _ _ _ _ _ (by rfl) (@pgs_cons _ _ _ _ _ (@pg_name _ _ (3) _ (by exact S.nd) (by rfl) (by first | exact Or.inl rfl | exact Or.inr rfl) (by first|rfl|decide|exact .inl rfl|exact .inr rfl|(intros; rfl))) (@pgs_cons _ _ _ _ _ (@pg_name _ _ (4) _ (by exact S.nd) (by rfl) (by first | exact Or.inl rfl | exact Or.inr rfl) (by first|rfl|decide|exact .inl rfl|exact .inr rfl|(intros; rfl))) pgs_nil (by first|rfl|decide|exact .inl rfl|exact .inr rfl|(intros; rfl))) (by first|rfl|decide|exact .inl rfl|exact .inr rfl|(intros; rfl))) (by first|rfl|decide|exact .inl rfl|exact .inr rfl|(intros; rfl)) (by first|rfl|decide|exact .inl rfl|exact .inr rfl|(intros; rfl))) (by first|rfl|decide|exact .inl rfl|exact .inr rfl|(intros; rfl)) (by first|rfl|decide|exact .inl rfl|exact .inr rfl|(intros; rfl)) (by first|rfl|decide|exact .inl rfl|exact .inr rfl|(intros; rfl))) (@pss_cons _ _ _ _ _ (@ps_set _ _ (2) _ _ _ _ (by exact S.nd) (by rfl) (by first | exact Or.inl rfl | exact Or.inr rfl) (@pe_lst _ _ _ _ (@pa_consN _ _ _ _ _ (@pe_tup _ _ _ _ _ (@pa_consN _ _ _ _ _ (pv 4) (@pa_consN _ _ _ _ _ (pv 3) pa_nil (by first|rfl|decide|exact .inl rfl|exact .inr rfl|(intros; rfl))) (by first|rfl|decide|exact .inl rfl|exact .inr rfl|(intros; rfl)))) (@pa_consN _ _ _ _ _ (@pe_tup _ _ _ _ _ (@pa_consN _ _ _ _ _ (@pe_op _ _ _ _ _ _ _ _ op_sub (pv 3) pe_int) (@pa_consN _ _ _ _ _ (pv 4) pa_nil (by first|rfl|decide|exact .inl rfl|exact .inr rfl|(intros; rfl))) (by first|rfl|decide|exact .inl rfl|exact .inr rfl|(intros; rfl)))) (@pa_consN _ _ _ _ _ (@pe_tup _ _ _ _ _ (@pa_consN _ _ _ _ _ (pv 3) (@pa_consN _ _ _ _ _ (@pe_op _ _ _ _ _ _ _ _ op_sub (pv 4) pe_int) pa_nil (by first|rfl|decide|exact .inl rfl|exact .inr rfl|(intros; rfl))) (by first|rfl|decide|exact .inl rfl|exact .inr rfl|(intros; rfl)))) (@pa_consN _ _ _ _ _ (@pe_tup _ _ _ _ _ (@pa_consN _ _ _ _ _ (pv 3) (@pa_consN _ _ _ _ _ (@pe_op _ _ _ _ _ _ _ _ op_add (pv 4) pe_int) pa_nil (by first|rfl|decide|exact .inl rfl|exact .inr rfl|(intros; rfl))) (by first|rfl|decide|exact .inl rfl|exact .inr rfl|(intros; rfl)))) (@pa_consN _ _ _ _ _ (@pe_tup _ _ _ _ _ (@pa_consN _ _ _ _ _ (@pe_callTy _ _ _ _ _ _ _ _ _ call_bool1 (by rfl) (by exact T.z_bool) (by exact bt_bool) (@pa_consN _ _ _ _ _ (pv 3) pa_nil (by first|rfl|decide|exact .inl rfl|exact .inr rfl|(intros; rfl))) (by first|rfl|decide|exact .inl rfl|exact .inr rfl|(intros; rfl)) (by first|rfl|decide|exact .inl rfl|exact .inr rfl|(intros; rfl)) (by first|rfl|decide|exact .inl rfl|exact .inr rfl|(intros; rfl)) (by first|rfl|decide|exact .inl rfl|exact .inr rfl|(intros; rfl))) (@pa_consN _ _ _ _ _ (@pe_callTy _ _ _ _ _ _ _ _ _ call_bool1 (by rfl) (by exact T.z_bool) (by exact bt_bool) (@pa_consN _ _ _ _ _ (pv 4) pa_nil (by first|rfl|decide|exact .inl rfl|exact .inr rfl|(intros; rfl))) (by first|rfl|decide|exact .inl rfl|exact .inr rfl|(intros; rfl)) (by first|rfl|decide|exact .inl rfl|exact .inr rfl|(intros; rfl)) (by first|rfl|decide|exact .inl rfl|exact .inr rfl|(intros; rfl)) (by first|rfl|decide|exact .inl rfl|exact .inr rfl|(intros; rfl))) pa_nil (by first|rfl|decide|exact .inl rfl|exact .inr rfl|(intros; rfl))) (by first|rfl|decide|exact .inl rfl|exact .inr rfl|(intros; rfl)))) (@pa_consN _ _ _ _ _ (@pe_tup _ _ _ _ _ (@pa_consN _ _ _ _ _ (pv 3) (@pa_consN _ _ _ _ _ pe_non pa_nil (by first|rfl|decide|exact .inl rfl|exact .inr rfl|(intros; rfl))) (by first|rfl|decide|exact .inl rfl|exact .inr rfl|(intros; rfl)))) (@pa_consN _ _ _ _ _ (@pe_tup _ _ _ _ _ (@pa_consN _ _ _ _ _ (@pe_callTy _ _ _ _ _ _ _ _ _ call_str_int (by rfl) (by exact T.z_str) (by exact bt_str) (@pa_consN _ _ _ _ _ (pv 3) pa_nil (by first|rfl|decide|exact .inl rfl|exact .inr rfl|(intros; rfl))) (by first|rfl|decide|exact .inl rfl|exact .inr rfl|(intros; rfl)) (by first|rfl|decide|exact .inl rfl|exact .inr rfl|(intros; rfl)) (by first|rfl|decide|exact .inl rfl|exact .inr rfl|(intros; rfl)) (by first|rfl|decide|exact .inl rfl|exact .inr rfl|(intros; rfl))) (@pa_consN _ _ _ _ _ (pv 4) pa_nil (by first|rfl|decide|exact .inl rfl|exact .inr rfl|(intros; rfl))) (by first|rfl|decide|exact .inl rfl|exact .inr rfl|(intros; rfl)))) pa_nil (by first|rfl|decide|exact .inl rfl|exact .inr rfl|(intros; rfl))) (by first|rfl|decide|exact .inl rfl|exact .inr rfl|(intros; rfl))) (by first|rfl|decide|exact .inl rfl|exact .inr rfl|(intros; rfl))) (by first|rfl|decide|exact .inl rfl|exact .inr rfl|(intros; rfl))) (by first|rfl|decide|exact .inl rfl|exact .inr rfl|(intros; rfl))) (by first|rfl|decide|exact .inl rfl|exact .inr rfl|(intros; rfl))) (by first|rfl|decide|exact .inl rfl|exact .inr rfl|(intros; rfl)))) (by first|rfl|decide|exact .inl rfl|exact .inr rfl|(intros; rfl)) (by first|rfl|decide|exact .inl rfl|exact .inr rfl|(intros; rfl))) (@pss_cons _ _ _ _ _ (@ps_set _ _ (2) _ _ _ _ (by exact S.nd) (by rfl) (by first | exact Or.inl rfl | exact Or.inr rfl) (@pe_op _ _ _ _ _ _ _ _ op_cat (pv 2) (@pe_lst _ _ _ _ (@pa_consN _ _ _ _ _ (@pe_tup _ _ _ _ _ (@pa_consN _ _ _ _ _ (pv 3) pa_nil (by first|rfl|decide|exact .inl rfl|exact .inr rfl|(intros; rfl)))) (@pa_consN _ _ _ _ _ (@pe_tup _ _ _ _ _ (@pa_consN _ _ _ _ _ (pv 3) (@pa_consN _ _ _ _ _ (pv 4) (@pa_consN _ _ _ _ _ pe_int pa_nil (by first|rfl|decide|exact .inl rfl|exact .inr rfl|(intros; rfl))) (by first|rfl|decide|exact .inl rfl|exact .inr rfl|(intros; rfl))) (by first|rfl|decide|exact .inl rfl|exact .inr rfl|(intros; rfl)))) (@pa_consN _ _ _ _ _ (@pe_lst _ _ _ _ (@pa_consN _ _ _ _ _ (pv 3) (@pa_consN _ _ _ _ _ (pv 4) pa_nil (by first|rfl|decide|exact .inl rfl|exact .inr rfl|(intros; rfl))) (by first|rfl|decide|exact .inl rfl|exact .inr rfl|(intros; rfl)))) (@pa_consN _ _ _ _ _ pe_non (@pa_consN _ _ _ _ _ (pv 3) (@pa_consN _ _ _ _ _ (@pe_disp _ _ _ _ _ (@pps_cons _ _ _ _ _ _ _ _ _ (pv 3) (pv 4) pps_nil) (by rfl) (by rfl) (by simp) (by decide)) (@pa_consN _ _ _ _ _ (@pe_tup _ _ _ _ _ (@pa_consN _ _ _ _ _ (@pe_tup _ _ _ _ _ (@pa_consN _ _ _ _ _ (pv 3) (@pa_consN _ _ _ _ _ (pv 4) pa_nil (by first|rfl|decide|exact .inl rfl|exact .inr rfl|(intros; rfl))) (by first|rfl|decide|exact .inl rfl|exact .inr rfl|(intros; rfl)))) pa_nil (by first|rfl|decide|exact .inl rfl|exact .inr rfl|(intros; rfl)))) (@pa_consN _ _ _ _ _ (@pe_tup _ _ _ _ _ (@pa_consN _ _ _ _ _ (pv 3) (@pa_consN _ _ _ _ _ (@pe_un _ _ _ _ _ _ un_neg pe_int) pa_nil (by first|rfl|decide|exact .inl rfl|exact .inr rfl|(intros; rfl))) (by first|rfl|decide|exact .inl rfl|exact .inr rfl|(intros; rfl)))) (@pa_consN _ _ _ _ _ (@pe_tup _ _ _ _ _ (@pa_consN _ _ _ _ _ pe_int (@pa_consN _ _ _ _ _ (pv 4) pa_nil (by first|rfl|decide|exact .inl rfl|exact .inr rfl|(intros; rfl))) (by first|rfl|decide|exact .inl rfl|exact .inr rfl|(intros; rfl)))) pa_nil (by first|rfl|decide|exact .inl rfl|exact .inr rfl|(intros; rfl))) (by first|rfl|decide|exact .inl rfl|exact .inr rfl|(intros; rfl))) (by first|rfl|decide|exact .inl rfl|exact .inr rfl|(intros; rfl))) (by first|rfl|decide|exact .inl rfl|exact .inr rfl|(intros; rfl))) (by first|rfl|decide|exact .inl rfl|exact .inr rfl|(intros; rfl))) (by first|rfl|decide|exact .inl rfl|exact .inr rfl|(intros; rfl))) (by first|rfl|decide|exact .inl rfl|exact .inr rfl|(intros; rfl))) (by first|rfl|decide|exact .inl rfl|exact .inr rfl|(intros; rfl))) (by first|rfl|decide|exact .inl rfl|exact .inr rfl|(intros; rfl))))) (by first|rfl|decide|exact .inl rfl|exact .inr rfl|(intros; rfl)) (by first|rfl|decide|exact .inl rfl|exact .inr rfl|(intros; rfl))) (@pss_one _ _ _ (@ps_ret _ _ _ _ (@pe_ix _ _ _ _ _ _ _ ix_list (pv 2) (pv 1) (by exact (fun _ _ => rfl)))))))), ?_⟩
  refine ⟨_, rfl, t, _, rfl, SqT.of ht, rfl, _, _, rfl, _, _, rfl, rfl, ?_⟩
  refine ⟨_, rfl, _, rfl, lz 2 rfl, fun t1 ht1 => ?_⟩
  have s_H1 := same_new ht1 (.tup [.int j, .int i])
  have g_t1 : upd H t1 (.tup [.int j, .int i]) t1 = some (.tup [.int j, .int i]) := upd_same
  generalize upd H t1 (.tup [.int j, .int i]) = H1 at s_H1 g_t1 ⊢
  refine ⟨_, rfl, _, _, rfl, rfl, _, rfl, lz 2 rfl, fun t2 ht2 => ?_⟩
  have s_H2 := same_new ht2 (.tup [.int (i - 6), .int j])
  have g_t2 : upd H1 t2 (.tup [.int (i - 6), .int j]) t2 = some (.tup [.int (i - 6), .int j]) := upd_same
  generalize upd H1 t2 (.tup [.int (i - 6), .int j]) = H2 at s_H2 g_t2 ⊢
  refine ⟨_, rfl, _, rfl, _, _, rfl, rfl, lz 2 rfl, fun t3 ht3 => ?_⟩
  have s_H3 := same_new ht3 (.tup [.int i, .int (j - 6)])
  have g_t3 : upd H2 t3 (.tup [.int i, .int (j - 6)]) t3 = some (.tup [.int i, .int (j - 6)]) := upd_same
  generalize upd H2 t3 (.tup [.int i, .int (j - 6)]) = H3 at s_H3 g_t3 ⊢
  refine ⟨_, rfl, _, rfl, _, _, rfl, rfl, lz 2 rfl, fun t4 ht4 => ?_⟩
  have s_H4 := same_new ht4 (.tup [.int i, .int (j + 6)])
  have g_t4 : upd H3 t4 (.tup [.int i, .int (j + 6)]) t4 = some (.tup [.int i, .int (j + 6)]) := upd_same
  generalize upd H3 t4 (.tup [.int i, .int (j + 6)]) = H4 at s_H4 g_t4 ⊢
  refine ⟨_, rfl, .inl ⟨_, rfl, _, rfl, .inl ⟨_, rfl, lz 2 rfl, fun t5 ht5 => ?_⟩⟩⟩
  have s_H5 := same_new ht5 (.tup [.bl (i != 0), .bl (j != 0)])
  have g_t5 : upd H4 t5 (.tup [.bl (i != 0), .bl (j != 0)]) t5 = some (.tup [.bl (i != 0), .bl (j != 0)]) := upd_same
  generalize upd H4 t5 (.tup [.bl (i != 0), .bl (j != 0)]) = H5 at s_H5 g_t5 ⊢
  refine ⟨_, rfl, lz 2 rfl, fun t6 ht6 => ?_⟩
  have s_H6 := same_new ht6 (.tup [.int i, .non])
  have g_t6 : upd H5 t6 (.tup [.int i, .non]) t6 = some (.tup [.int i, .non]) := upd_same
  generalize upd H5 t6 (.tup [.int i, .non]) = H6 at s_H6 g_t6 ⊢
  refine ⟨_, rfl, _, rfl, hlog, _, rfl, lz 2 rfl, fun t7 ht7 => ?_⟩
  have s_H7 := same_new ht7 (.tup [.str (toString i : String), .int j])
  have g_t7 : upd H6 t7 (.tup [.str (toString i : String), .int j]) t7 = some (.tup [.str (toString i : String), .int j]) := upd_same
  generalize upd H6 t7 (.tup [.str (toString i : String), .int j]) = H7 at s_H7 g_t7 ⊢
  refine ⟨lz 7 rfl, fun l1 hl1 => ?_⟩
  have s_H8 := same_new hl1 (.lst [.ref t1, .ref t2, .ref t3, .ref t4, .ref t5, .ref t6, .ref t7])
  have g_l1 : upd H7 l1 (.lst [.ref t1, .ref t2, .ref t3, .ref t4, .ref t5, .ref t6, .ref t7]) l1 = some (.lst [.ref t1, .ref t2, .ref t3, .ref t4, .ref t5, .ref t6, .ref t7]) := upd_same
  generalize upd H7 l1 (.lst [.ref t1, .ref t2, .ref t3, .ref t4, .ref t5, .ref t6, .ref t7]) = H8 at s_H8 g_l1 ⊢
  refine ⟨_, rfl, _, rfl, lz 1 rfl, fun u1 hu1 => ?_⟩
  have s_H9 := same_new hu1 (.tup [.int i])
  have g_u1 : upd H8 u1 (.tup [.int i]) u1 = some (.tup [.int i]) := upd_same
  generalize upd H8 u1 (.tup [.int i]) = H9 at s_H9 g_u1 ⊢
  refine ⟨_, rfl, _, rfl, lz 3 rfl, fun u2 hu2 => ?_⟩
  have s_H10 := same_new hu2 (.tup [.int i, .int j, .int 0])
  have g_u2 : upd H9 u2 (.tup [.int i, .int j, .int 0]) u2 = some (.tup [.int i, .int j, .int 0]) := upd_same
  generalize upd H9 u2 (.tup [.int i, .int j, .int 0]) = H10 at s_H10 g_u2 ⊢
  refine ⟨_, rfl, _, rfl, lz 2 rfl, fun u3 hu3 => ?_⟩
  have s_H11 := same_new hu3 (.lst [.int i, .int j])
  have g_u3 : upd H10 u3 (.lst [.int i, .int j]) u3 = some (.lst [.int i, .int j]) := upd_same
  generalize upd H10 u3 (.lst [.int i, .int j]) = H11 at s_H11 g_u3 ⊢
  refine ⟨_, rfl, fun u4 hu4 => ⟨_, rfl, _, rfl, upd_same, [(.inl i, .int j)], rfl, by simp, ?_⟩⟩
  rw [show mergeK [] [((.inl i : Key), V.int j)] = [((.inl i : Key), V.int j)] from rfl, upd_upd]
  have s_H12 := same_new hu4 (.dK [(.inl i, .int j)])
  have g_u4 : upd H11 u4 (.dK [(.inl i, .int j)]) u4 = some (.dK [(.inl i, .int j)]) := upd_same
  generalize upd H11 u4 (.dK [(.inl i, .int j)]) = H12 at s_H12 g_u4 ⊢
  refine ⟨_, rfl, _, rfl, lz 2 rfl, fun u5 hu5 => ?_⟩
  have s_H13 := same_new hu5 (.tup [.int i, .int j])
  have g_u5 : upd H12 u5 (.tup [.int i, .int j]) u5 = some (.tup [.int i, .int j]) := upd_same
  generalize upd H12 u5 (.tup [.int i, .int j]) = H13 at s_H13 g_u5 ⊢
  refine ⟨lz 1 rfl, fun u6 hu6 => ?_⟩
  have s_H14 := same_new hu6 (.tup [.ref u5])
  have g_u6 : upd H13 u6 (.tup [.ref u5]) u6 = some (.tup [.ref u5]) := upd_same
  generalize upd H13 u6 (.tup [.ref u5]) = H14 at s_H14 g_u6 ⊢
  refine ⟨_, rfl, _, rfl, lz 2 rfl, fun u7 hu7 => ?_⟩
  have s_H15 := same_new hu7 (.tup [.int i, .int (-1)])
  have g_u7 : upd H14 u7 (.tup [.int i, .int (-1)]) u7 = some (.tup [.int i, .int (-1)]) := upd_same
  generalize upd H14 u7 (.tup [.int i, .int (-1)]) = H15 at s_H15 g_u7 ⊢
  refine ⟨_, rfl, lz 2 rfl, fun u8 hu8 => ?_⟩
  have s_H16 := same_new hu8 (.tup [.int 0, .int j])
  have g_u8 : upd H15 u8 (.tup [.int 0, .int j]) u8 = some (.tup [.int 0, .int j]) := upd_same
  generalize upd H15 u8 (.tup [.int 0, .int j]) = H16 at s_H16 g_u8 ⊢
  refine ⟨lz 9 rfl, fun l2 hl2 => ?_⟩
  have s_H17 := same_new hl2 (.lst [.ref u1, .ref u2, .ref u3, .non, .int i, .ref u4, .ref u6, .ref u7, .ref u8])
  have g_l2 : upd H16 l2 (.lst [.ref u1, .ref u2, .ref u3, .non, .int i, .ref u4, .ref u6, .ref u7, .ref u8]) l2 = some (.lst [.ref u1, .ref u2, .ref u3, .non, .int i, .ref u4, .ref u6, .ref u7, .ref u8]) := upd_same
  generalize upd H16 l2 (.lst [.ref u1, .ref u2, .ref u3, .non, .int i, .ref u4, .ref u6, .ref u7, .ref u8]) = H17 at s_H17 g_l2 ⊢
  have g_l1 := (s_H9.trans (s_H10.trans (s_H11.trans (s_H12.trans (s_H13.trans (s_H14.trans (s_H15.trans (s_H16.trans s_H17)))))))) _ _ g_l1
  refine ⟨l1, l2, _, _, rfl, rfl, g_l1, g_l2, lz 16 rfl, fun l3 hl3 => ?_⟩
  have s_H18 := same_new hl3 (.lst ([.ref t1, .ref t2, .ref t3, .ref t4, .ref t5, .ref t6, .ref t7] ++ [.ref u1, .ref u2, .ref u3, .non, .int i, .ref u4, .ref u6, .ref u7, .ref u8]))
  have g_l3 : upd H17 l3 (.lst ([.ref t1, .ref t2, .ref t3, .ref t4, .ref t5, .ref t6, .ref t7] ++ [.ref u1, .ref u2, .ref u3, .non, .int i, .ref u4, .ref u6, .ref u7, .ref u8])) l3 = some (.lst ([.ref t1, .ref t2, .ref t3, .ref t4, .ref t5, .ref t6, .ref t7] ++ [.ref u1, .ref u2, .ref u3, .non, .int i, .ref u4, .ref u6, .ref u7, .ref u8])) := upd_same
  generalize upd H17 l3 (.lst ([.ref t1, .ref t2, .ref t3, .ref t4, .ref t5, .ref t6, .ref t7] ++ [.ref u1, .ref u2, .ref u3, .non, .int i, .ref u4, .ref u6, .ref u7, .ref u8])) = H18 at s_H18 g_l3 ⊢
  have g_t1 := (s_H2.trans (s_H3.trans (s_H4.trans (s_H5.trans (s_H6.trans (s_H7.trans (s_H8.trans (s_H9.trans (s_H10.trans (s_H11.trans (s_H12.trans (s_H13.trans (s_H14.trans (s_H15.trans (s_H16.trans (s_H17.trans s_H18)))))))))))))))) _ _ g_t1
  have g_t2 := (s_H3.trans (s_H4.trans (s_H5.trans (s_H6.trans (s_H7.trans (s_H8.trans (s_H9.trans (s_H10.trans (s_H11.trans (s_H12.trans (s_H13.trans (s_H14.trans (s_H15.trans (s_H16.trans (s_H17.trans s_H18))))))))))))))) _ _ g_t2
  have g_t3 := (s_H4.trans (s_H5.trans (s_H6.trans (s_H7.trans (s_H8.trans (s_H9.trans (s_H10.trans (s_H11.trans (s_H12.trans (s_H13.trans (s_H14.trans (s_H15.trans (s_H16.trans (s_H17.trans s_H18)))))))))))))) _ _ g_t3
  have g_t4 := (s_H5.trans (s_H6.trans (s_H7.trans (s_H8.trans (s_H9.trans (s_H10.trans (s_H11.trans (s_H12.trans (s_H13.trans (s_H14.trans (s_H15.trans (s_H16.trans (s_H17.trans s_H18))))))))))))) _ _ g_t4
  have g_t5 := (s_H6.trans (s_H7.trans (s_H8.trans (s_H9.trans (s_H10.trans (s_H11.trans (s_H12.trans (s_H13.trans (s_H14.trans (s_H15.trans (s_H16.trans (s_H17.trans s_H18)))))))))))) _ _ g_t5
  have g_t6 := (s_H7.trans (s_H8.trans (s_H9.trans (s_H10.trans (s_H11.trans (s_H12.trans (s_H13.trans (s_H14.trans (s_H15.trans (s_H16.trans (s_H17.trans s_H18))))))))))) _ _ g_t6
  have g_t7 := (s_H8.trans (s_H9.trans (s_H10.trans (s_H11.trans (s_H12.trans (s_H13.trans (s_H14.trans (s_H15.trans (s_H16.trans (s_H17.trans s_H18)))))))))) _ _ g_t7
  have g_u1 := (s_H10.trans (s_H11.trans (s_H12.trans (s_H13.trans (s_H14.trans (s_H15.trans (s_H16.trans (s_H17.trans s_H18)))))))) _ _ g_u1
  have g_u2 := (s_H11.trans (s_H12.trans (s_H13.trans (s_H14.trans (s_H15.trans (s_H16.trans (s_H17.trans s_H18))))))) _ _ g_u2
  have g_u3 := (s_H12.trans (s_H13.trans (s_H14.trans (s_H15.trans (s_H16.trans (s_H17.trans s_H18)))))) _ _ g_u3
  have g_u4 := (s_H13.trans (s_H14.trans (s_H15.trans (s_H16.trans (s_H17.trans s_H18))))) _ _ g_u4
  have g_u5 := (s_H14.trans (s_H15.trans (s_H16.trans (s_H17.trans s_H18)))) _ _ g_u5
  have g_u6 := (s_H15.trans (s_H16.trans (s_H17.trans s_H18))) _ _ g_u6
  have g_u7 := (s_H16.trans (s_H17.trans s_H18)) _ _ g_u7
  have g_u8 := (s_H17.trans s_H18) _ _ g_u8
  have sA : Same H H18 := s_H1.trans (s_H2.trans (s_H3.trans (s_H4.trans (s_H5.trans (s_H6.trans (s_H7.trans (s_H8.trans (s_H9.trans (s_H10.trans (s_H11.trans (s_H12.trans (s_H13.trans (s_H14.trans (s_H15.trans (s_H16.trans (s_H17.trans s_H18))))))))))))))))
  have kI : ∀ x : Int, x.natAbs ≤ 100 → Kx 20 0 (.int x) := fun x h => (kx_int (by omega)).mono (by decide) (by decide)
  have kN : Kx 20 0 .none := kx_none.mono (by decide) (by decide)
  have k2 : ∀ a b : PyData, Kx 20 0 a → Kx 20 0 b → Kx 100 3 (.tuple [a, b]) := fun a b ha hb => (kx_tup (n := 20) (e := 0) (m := 100) (by simpa using ⟨ha, hb⟩) (by simp)).mono (by decide) (by decide)
  have all : ∀ v ∈ ([.ref t1, .ref t2, .ref t3, .ref t4, .ref t5, .ref t6, .ref t7] ++ [.ref u1, .ref u2, .ref u3, .non, .int i, .ref u4, .ref u6, .ref u7, .ref u8] : List V), ∃ d, DataV H18 v d ∧ Kx 100 3 d := by
    intro v hv
    simp only [List.cons_append, List.nil_append, List.mem_cons, List.not_mem_nil, or_false] at hv
    rcases hv with rfl | rfl | rfl | rfl | rfl | rfl | rfl | rfl | rfl | rfl | rfl | rfl | rfl | rfl | rfl | rfl
    · exact ⟨_, .tup g_t1 (.cons (.int _) (.cons (.int _) .nil)), k2 _ _ (kI _ (by omega)) (kI _ (by omega))⟩
    · exact ⟨_, .tup g_t2 (.cons (.int _) (.cons (.int _) .nil)), k2 _ _ (kI _ (by omega)) (kI _ (by omega))⟩
    · exact ⟨_, .tup g_t3 (.cons (.int _) (.cons (.int _) .nil)), k2 _ _ (kI _ (by omega)) (kI _ (by omega))⟩
    · exact ⟨_, .tup g_t4 (.cons (.int _) (.cons (.int _) .nil)), k2 _ _ (kI _ (by omega)) (kI _ (by omega))⟩
    · exact ⟨_, .tup g_t5 (.cons (.bl _) (.cons (.bl _) .nil)), k2 _ _ ((kx_bool _).mono (by decide) (by decide)) ((kx_bool _).mono (by decide) (by decide))⟩
    · exact ⟨_, .tup g_t6 (.cons (.int _) (.cons .non .nil)), k2 _ _ (kI _ (by omega)) kN⟩
    · exact ⟨_, .tup g_t7 (.cons (.str _) (.cons (.int _) .nil)), k2 _ _ (kx_text (by omega)) (kI _ (by omega))⟩
    · exact ⟨_, .tup g_u1 (.cons (.int _) .nil), (kx_tup (n := 20) (e := 0) (m := 100) (by simpa using kI _ (by omega)) (by simp)).mono (by decide) (by decide)⟩
    · exact ⟨_, .tup g_u2 (.cons (.int _) (.cons (.int _) (.cons (.int _) .nil))), (kx_tup (n := 20) (e := 0) (m := 100) (by simpa using ⟨kI _ (by omega), kI _ (by omega), kI _ (by decide)⟩) (by simp)).mono (by decide) (by decide)⟩
    · exact ⟨_, .lst g_u3 (.cons (.int _) (.cons (.int _) .nil)), (kx_list (n := 20) (e := 0) (m := 100) (by simpa using ⟨kI _ (by omega), kI _ (by omega)⟩) (by simp)).mono (by decide) (by decide)⟩
    · exact ⟨_, .non, kN.mono (by decide) (by decide)⟩
    · exact ⟨_, .int _, (kI _ (by omega)).mono (by decide) (by decide)⟩
    · exact ⟨_, .dict (ps := [(.int i, .int j)]) g_u4 (.cons (.int _) .nil) (.cons (.int _) .nil), (kx_dict (n := 20) (e := 0) (m := 100) (by simpa using ⟨kI _ (by omega), kI _ (by omega)⟩) (by simp)).mono (by decide) (by decide)⟩
    · exact ⟨_, .tup g_u6 (.cons (.tup g_u5 (.cons (.int _) (.cons (.int _) .nil))) .nil), (kx_tup (n := 50) (e := 1) (m := 100) (by simpa using (kx_tup (n := 20) (e := 0) (m := 50) (by simpa using ⟨kI _ (by omega), kI _ (by omega)⟩) (by simp) : Kx 50 1 (.tuple [.int i, .int j]))) (by simp)).mono (by decide) (by decide)⟩
    · exact ⟨_, .tup g_u7 (.cons (.int _) (.cons (.int _) .nil)), k2 _ _ (kI _ (by omega)) (kI _ (by decide))⟩
    · exact ⟨_, .tup g_u8 (.cons (.int _) (.cons (.int _) .nil)), k2 _ _ (kI _ (by decide)) (kI _ (by omega))⟩
  obtain ⟨v, d, hat, hd, kd⟩ := pickV all o0 (by simpa using o1)
  exact ⟨_, rfl, _, rfl, l3, _, _, _, rfl, rfl, SqL.of g_l3, hat, k v d H18 sA hd kd⟩
end
end My

set_option Elab.async false
set_option linter.all false
set_option maxRecDepth 100000
set_option maxHeartbeats 1000000
namespace My
open PySem L2 MA Srt PySem.Spec
/-- a row of small things -/
def Rw (H : Hp) (vs : List V) : Prop := ∀ v ∈ vs, ∃ d, DataV H v d ∧ Kx 100 3 d
theorem Rw.same {H H' : Hp} {vs : List V} (h : Rw H vs) (s : Same H H') : Rw H' vs := fun v hv => let ⟨d, h1, h2⟩ := h v hv; ⟨d, h1.same s, h2⟩
theorem Rw.app {H : Hp} {vs us : List V} (h : Rw H vs) (h' : Rw H us) : Rw H (vs ++ us) := fun v hv => (List.mem_append.mp hv).elim (h v) (h' v)
theorem Rw.cut {H : Hp} {vs : List V} (h : Rw H vs) (lo hi : Option Int) : Rw H (cutV vs lo hi) := fun v hv => h v (List.mem_of_mem_drop (List.mem_of_mem_take hv))
theorem Rw.one {H : Hp} {v : V} {d : PyData} (h : DataV H v d) (k : Kx 100 3 d) : Rw H [v] := fun u hu => by rw [List.mem_singleton.mp hu]; exact ⟨d, h, k⟩
theorem Rw.data {H : Hp} : ∀ {vs : List V}, Rw H vs → ∃ ds, DataL H vs ds ∧ ds.length = vs.length ∧ ∀ d ∈ ds, Kx 100 3 d
  | [], _ => ⟨[], .nil, rfl, fun d hd => by simp at hd⟩
  | v :: vs, h => by
    obtain ⟨ds, h1, h2, h3⟩ := Rw.data (fun u hu => h u (List.mem_cons_of_mem _ hu)) (vs := vs)
    obtain ⟨d, h4, h5⟩ := h v List.mem_cons_self
    refine ⟨d :: ds, .cons h4 h1, by simp [h2], fun e he => ?_⟩
    rcases List.mem_cons.mp he with rfl | z
    · exact h5
    · exact h3 e z
theorem Rw.lst {H : Hp} {vs : List V} {l : Addr} (h : Rw H vs) (hl : H l = some (.lst vs)) (few : vs.length ≤ 40) : ∃ d, DataV H (.ref l) d ∧ Kx 5000 4 d := by
  obtain ⟨ds, h1, h2, h3⟩ := h.data
  exact ⟨_, .lst hl h1, kx_list h3 (by rw [h2]; omega)⟩
theorem Rw.tup {H : Hp} {vs : List V} {l : Addr} (h : Rw H vs) (hl : H l = some (.tup vs)) (few : vs.length ≤ 40) : ∃ d, DataV H (.ref l) d ∧ Kx 5000 4 d := by
  obtain ⟨ds, h1, h2, h3⟩ := h.data
  exact ⟨_, .tup hl h1, kx_tup h3 (by rw [h2]; omega)⟩
theorem Rw.prs {H : Hp} {zs : List V} {ps : List (Int × Int)} (h : Prs H zs ps) (sm : ∀ q ∈ ps, Sm2 q) : Rw H zs := by
  intro v hv
  obtain ⟨i, hi, rfl⟩ := List.getElem_of_mem hv
  obtain ⟨q, hq, b, e, hb⟩ := paired_get h (List.getElem?_eq_getElem hi)
  rw [e]
  exact ⟨dp q, .tup hb (.cons (.int _) (.cons (.int _) .nil)), (kx_dp (sm q (List.mem_of_getElem? hq))).mono (by decide) (by decide)⟩
/-- rows of a dict whose keys are pairs -/
theorem putK_mem {kvs : List (List Key × V)} {k : List Key} {v : V} {p : List Key × V} (h : p ∈ putK kvs k v) : (∃ q ∈ kvs, p = q) ∨ p.1 = k ∧ p.2 = v := by
  unfold putK at h
  split at h
  · obtain ⟨q, hq, e⟩ := List.mem_map.mp h
    split at e
    · rename_i z
      subst e
      exact .inr ⟨z, rfl⟩
    · exact .inl ⟨q, hq, e.symm⟩
  · rcases List.mem_append.mp h with z | z
    · exact .inl ⟨p, z, rfl⟩
    · rw [List.mem_singleton.mp z]; exact .inr ⟨rfl, rfl⟩
theorem merge_mem {G : List Key × V → Prop} : ∀ (more kvs : List (List Key × V)), (∀ p ∈ kvs, G p) → (∀ p ∈ more, G p) → ∀ p ∈ mergeT kvs more, G p
  | [], kvs, h, _ => h
  | q :: more, kvs, h, h' => by
    show ∀ p ∈ mergeT (putK kvs q.1 q.2) more, G p
    refine merge_mem more _ (fun p hp => ?_) fun p hp => h' p (List.mem_cons_of_mem _ hp)
    rcases putK_mem hp with ⟨r, hr, rfl⟩ | ⟨e1, e2⟩
    · exact h _ hr
    · have : p = q := by obtain ⟨a, b⟩ := p; obtain ⟨c, d⟩ := q; simp at e1 e2; rw [e1, e2]
      rw [this]; exact h' q List.mem_cons_self
def OneK (p : List Key × V) : Prop := ∃ q : Int × Int, p = ([.inl q.1, .inl q.2], .int 1) ∧ Sm2 q
theorem dictT_of {H : Hp} {a : Addr} {kvs : List (List Key × V)} (ha : H a = some (.dT kvs)) (h : ∀ p ∈ kvs, OneK p) (few : kvs.length ≤ 40) : ∃ d, DataT H (.ref a) d ∧ Kx 5000 4 d := by
  have key : ∀ kvs : List (List Key × V), (∀ p ∈ kvs, OneK p) → ∃ ps : List (PyData × PyData), ps.map (·.1) = kvs.map (fun p => .tuple (p.1.map kD)) ∧ DataL H (kvs.map (·.2)) (ps.map (·.2)) ∧ ps.length = kvs.length ∧ ∀ p ∈ ps, Kx 10 1 p.1 ∧ Kx 10 1 p.2 := by
    intro kvs
    induction kvs with
    | nil => exact fun _ => ⟨[], rfl, .nil, rfl, fun p hp => by simp at hp⟩
    | cons p kvs ih =>
      intro h
      obtain ⟨ps, h1, h2, h3, h4⟩ := ih fun q hq => h q (List.mem_cons_of_mem _ hq)
      obtain ⟨q, rfl, sm⟩ := h p List.mem_cons_self
      refine ⟨(dp q, .int 1) :: ps, by simp [h1, kD, dp], .cons (.int 1) h2, by simp [h3], fun r hr => ?_⟩
      rcases List.mem_cons.mp hr with rfl | z
      · exact ⟨kx_dp sm, (kx_int (by decide)).mono (by decide) (by decide)⟩
      · exact h4 r z
  obtain ⟨ps, h1, h2, h3, h4⟩ := key kvs h
  exact ⟨.dict ps, .inr ⟨a, kvs, ps, rfl, rfl, ha, h1, h2⟩, (kx_dict (n := 10) (e := 1) (m := 5000) h4 (by omega)).mono (by decide) (by decide)⟩
theorem joinH {C R : Hp → Prop} {G : Prop} (main : (∀ h, C h → R h) → G) (key : ∀ h, C h → R h) : G := main key
section
variable {P : Program} {w : World} {K : PySem.W.Frag} {mg : Str → Option Value} {base : Heap}
def spThing : Sp := fun vs H Q _ => ∃ (p lf ll : Addr) (zs ys : List V) (ps : List (Int × Int)) (ls : List (List Int)) (other : List Int) (m : Nat), vs = [.ref p, .ref lf, .ref ll] ∧ Pen H p m ∧ m < 60000 ∧ H lf = some (.lst zs) ∧ H ll = some (.lst ys) ∧ Prs H zs ps ∧ Lds H ys ls ∧ Wk other ps ls ∧ 1 ≤ other.length ∧ other.length ≤ 10 ∧ ps.length ≤ 8 ∧ ∀ v d H', DataT H' v d → Kx 20000 6 d → Pen H' p (m + 4) → SameX p H H' → Q v H'
theorem ok_thing (T : Txt2 mg) (C_l_draw : Cal P w K mg base "_law_draw" ["_law_pen_here", "_law_many"] 1 spDraw) (C_l_idle : Cal P w K mg base "_law_idle" ["_law_load_here", "_law_odd"] 1 spIdle) (C_l_odd_move : Cal P w K mg base "_law_odd_move" ["_law_move", "_law_odd"] 1 spOdd) (F : FunAt K mg "_law_thing" ["_law_pen_here", "_law_found", "_law_loads"] s_l_thing) : Cal P w K mg base "_law_thing" ["_law_pen_here", "_law_found", "_law_loads"] 2 spThing := by
  have S := sc_l_thing
  refine F.cal sc_l_thing (fun vs H Q E h => ?_) (fun f cdv A outer s H vs Q E hr h => ?_)
  · obtain ⟨p, lf, ll, zs, ys, ps, ls, other, m, rfl, _⟩ := h; rfl
  obtain ⟨p, lf, ll, zs, ys, ps, ls, other, m, rfl, pen, hm, hf, hl, pr, ld, wk, l1, l10, few, k⟩ := h
  have hu := hr.units0
  have hu3 := hu3_of hr
  refine ⟨_, (@pss_cons _ _ _ _ _ (@ps_set _ _ (3) _ _ _ _ (by exact S.nd) (by rfl) (by first | exact Or.inl rfl | exact Or.inr rfl) (@cc _ _ _ _ _ _ _ _ _ _ (by exact C_l_draw) (by exact (hr.mono (by decide))) (@pa_consN _ _ _ _ _ (pv 0) (@pa_consN _ _ _ _ _ pe_int pa_nil (by first|rfl|decide|exact .inl rfl|exact .inr rfl|(intros; rfl))) (by first|rfl|decide|exact .inl rfl|exact .inr rfl|(intros; rfl))) (by first|rfl|decide|exact .inl rfl|exact .inr rfl|(intros; rfl)) (by first|rfl|decide|exact .inl rfl|exact .inr rfl|(intros; rfl)) (by first|rfl|decide|exact .inl rfl|exact .inr rfl|(intros; rfl)) (by first|rfl|decide|exact .inl rfl|exact .inr rfl|(intros; rfl))) (by first|rfl|decide|exact .inl rfl|exact .inr rfl|(intros; rfl)) (by first|rfl|decide|exact .inl rfl|exact .inr rfl|(intros; rfl))) (@pss_cons _ _ _ _ _ (@ps_set _ _ (4) _ _ _ _ (by exact S.nd) (by rfl) (by first | exact Or.inl rfl | exact Or.inr rfl) (@cc _ _ _ _ _ _ _ _ _ _ (by exact C_l_draw) (by exact (hr.mono (by decide))) (@pa_consN _ _ _ _ _ (pv 0) (@pa_consN _ _ _ _ _ pe_int pa_nil (by first|rfl|decide|exact .inl rfl|exact .inr rfl|(intros; rfl))) (by first|rfl|decide|exact .inl rfl|exact .inr rfl|(intros; rfl))) (by first|rfl|decide|exact .inl rfl|exact .inr rfl|(intros; rfl)) (by first|rfl|decide|exact .inl rfl|exact .inr rfl|(intros; rfl)) (by first|rfl|decide|exact .inl rfl|exact .inr rfl|(intros; rfl)) (by first|rfl|decide|exact .inl rfl|exact .inr rfl|(intros; rfl))) (by first|rfl|decide|exact .inl rfl|exact .inr rfl|(intros; rfl)) (by first|rfl|decide|exact .inl rfl|exact .inr rfl|(intros; rfl))) (@pss_cons _ _ _ _ _ (@ps_set _ _ (5) _ _ _ _ (by exact S.nd) (by rfl) (by first | exact Or.inl rfl | exact Or.inr rfl) (@cc _ _ _ _ _ _ _ _ _ _ (by exact C_l_draw) (by exact (hr.mono (by decide))) (@pa_consN _ _ _ _ _ (pv 0) (@pa_consN _ _ _ _ _ (@pe_callB _ _ _ _ _ _ _ _ _ (call_max2 (by rfl)) (by rfl) (by exact T.z_max) (by exact bt_max) (@pa_consN _ _ _ _ _ pe_int (@pa_consN _ _ _ _ _ (@pe_callB _ _ _ _ _ _ _ _ _ call_len_seq (by rfl) (by exact T.z_len) (by exact bt_len) (@pa_consN _ _ _ _ _ (pv 1) pa_nil (by first|rfl|decide|exact .inl rfl|exact .inr rfl|(intros; rfl))) (by first|rfl|decide|exact .inl rfl|exact .inr rfl|(intros; rfl)) (by first|rfl|decide|exact .inl rfl|exact .inr rfl|(intros; rfl)) (by first|rfl|decide|exact .inl rfl|exact .inr rfl|(intros; rfl)) (by first|rfl|decide|exact .inl rfl|exact .inr rfl|(intros; rfl))) pa_nil (by first|rfl|decide|exact .inl rfl|exact .inr rfl|(intros; rfl))) (by first|rfl|decide|exact .inl rfl|exact .inr rfl|(intros; rfl))) (by first|rfl|decide|exact .inl rfl|exact .inr rfl|(intros; rfl)) (by first|rfl|decide|exact .inl rfl|exact .inr rfl|(intros; rfl)) (by first|rfl|decide|exact .inl rfl|exact .inr rfl|(intros; rfl)) (by first|rfl|decide|exact .inl rfl|exact .inr rfl|(intros; rfl))) pa_nil (by first|rfl|decide|exact .inl rfl|exact .inr rfl|(intros; rfl))) (by first|rfl|decide|exact .inl rfl|exact .inr rfl|(intros; rfl))) (by first|rfl|decide|exact .inl rfl|exact .inr rfl|(intros; rfl)) (by first|rfl|decide|exact .inl rfl|exact .inr rfl|(intros; rfl)) (by first|rfl|decide|exact .inl rfl|exact .inr rfl|(intros; rfl)) (by first|rfl|decide|exact .inl rfl|exact .inr rfl|(intros; rfl))) (by first|rfl|decide|exact .inl rfl|exact .inr rfl|(intros; rfl)) (by first|rfl|decide|exact .inl rfl|exact .inr rfl|(intros; rfl))) (@pss_cons _ _ _ _ _ (@ps_set _ _ (6) _ _ _ _ (by exact S.nd) (by rfl) (by first | exact Or.inl rfl | exact Or.inr rfl) (@cc _ _ _ _ _ _ _ _ _ _ (by exact C_l_draw) (by exact (hr.mono (by decide))) (@pa_consN _ _ _ _ _ (pv 0) (@pa_consN _ _ _ _ _ (@pe_callB _ _ _ _ _ _ _ _ _ call_len_seq (by rfl) (by exact T.z_len) (by exact bt_len) (@pa_consN _ _ _ _ _ (@pe_ix _ _ _ _ _ _ _ ix_list (pv 2) pe_int (by exact (fun _ _ => rfl))) pa_nil (by first|rfl|decide|exact .inl rfl|exact .inr rfl|(intros; rfl))) (by first|rfl|decide|exact .inl rfl|exact .inr rfl|(intros; rfl)) (by first|rfl|decide|exact .inl rfl|exact .inr rfl|(intros; rfl)) (by first|rfl|decide|exact .inl rfl|exact .inr rfl|(intros; rfl)) (by first|rfl|decide|exact .inl rfl|exact .inr rfl|(intros; rfl))) pa_nil (by first|rfl|decide|exact .inl rfl|exact .inr rfl|(intros; rfl))) (by first|rfl|decide|exact .inl rfl|exact .inr rfl|(intros; rfl))) (by first|rfl|decide|exact .inl rfl|exact .inr rfl|(intros; rfl)) (by first|rfl|decide|exact .inl rfl|exact .inr rfl|(intros; rfl)) (by first|rfl|decide|exact .inl rfl|exact .inr rfl|(intros; rfl)) (by first|rfl|decide|exact .inl rfl|exact .inr rfl|(intros; rfl))) (by first|rfl|decide|exact .inl rfl|exact .inr rfl|(intros; rfl)) (by first|rfl|decide|exact .inl rfl|exact .inr rfl|(intros; rfl))) (@pss_cons _ _ _ _ _ (@ps_if _ _ _ _ _ _ _ _ (@pt_cmpR _ _ _ _ _ _ _ _ op_eq (pv 3) pe_int (by exact (nomark _))) (@pss_one _ _ _ (@ps_ret _ _ _ _ (@pe_op _ _ _ _ _ _ _ _ op_cat (@pe_slice _ _ _ _ _ _ _ _ _ _ sl_list (pv 1) po_none (@po_some _ _ _ (pv 5))) (@pe_slice _ _ _ _ _ _ _ _ _ _ sl_list (pv 1) (@po_some _ _ _ (@pe_op _ _ _ _ _ _ _ _ op_add (pv 5) pe_int)) po_none)))) pss_nil) (@pss_cons _ _ _ _ _ (@ps_if _ _ _ _ _ _ _ _ (@pt_cmpR _ _ _ _ _ _ _ _ op_eq (pv 3) pe_int (by exact (nomark _))) (@pss_one _ _ _ (@ps_ret _ _ _ _ (@pe_op _ _ _ _ _ _ _ _ op_cat (@pe_op _ _ _ _ _ _ _ _ op_cat (@pe_slice _ _ _ _ _ _ _ _ _ _ sl_list (pv 1) po_none (@po_some _ _ _ (pv 5))) (@pe_slice _ _ _ _ _ _ _ _ _ _ sl_list (pv 1) (@po_some _ _ _ (pv 5)) (@po_some _ _ _ (@pe_op _ _ _ _ _ _ _ _ op_add (pv 5) pe_int)))) (@pe_slice _ _ _ _ _ _ _ _ _ _ sl_list (pv 1) (@po_some _ _ _ (pv 5)) po_none)))) pss_nil) (@pss_cons _ _ _ _ _ (@ps_if _ _ _ _ _ _ _ _ (@pt_cmpR _ _ _ _ _ _ _ _ op_eq (pv 3) pe_int (by exact (nomark _))) (@pss_one _ _ _ (@ps_ret _ _ _ _ (@pe_op _ _ _ _ _ _ _ _ op_cat (@pe_op _ _ _ _ _ _ _ _ op_cat (@pe_slice _ _ _ _ _ _ _ _ _ _ sl_list (pv 1) po_none (@po_some _ _ _ (pv 5))) (@pe_lst _ _ _ _ (@pa_consN _ _ _ _ _ (@cc _ _ _ _ _ _ _ _ _ _ (by exact C_l_idle) (by exact (hr.mono (by decide))) (@pa_consN _ _ _ _ _ (@pe_ix _ _ _ _ _ _ _ ix_list (pv 2) (pv 5) (by exact (fun _ _ => rfl))) (@pa_consN _ _ _ _ _ (pv 4) pa_nil (by first|rfl|decide|exact .inl rfl|exact .inr rfl|(intros; rfl))) (by first|rfl|decide|exact .inl rfl|exact .inr rfl|(intros; rfl))) (by first|rfl|decide|exact .inl rfl|exact .inr rfl|(intros; rfl)) (by first|rfl|decide|exact .inl rfl|exact .inr rfl|(intros; rfl)) (by first|rfl|decide|exact .inl rfl|exact .inr rfl|(intros; rfl)) (by first|rfl|decide|exact .inl rfl|exact .inr rfl|(intros; rfl))) pa_nil (by first|rfl|decide|exact .inl rfl|exact .inr rfl|(intros; rfl))))) (@pe_slice _ _ _ _ _ _ _ _ _ _ sl_list (pv 1) (@po_some _ _ _ (pv 5)) po_none)))) pss_nil) (@pss_cons _ _ _ _ _ (@ps_if _ _ _ _ _ _ _ _ (@PW.pt _ _ _ (@pw_and _ _ _ _ _ _ _ (@pt_cmpR _ _ _ _ _ _ _ _ op_eq (pv 3) pe_int (by exact (nomark _))) (@pw_and1 _ _ _ _ (@pt_cmpR _ _ _ _ _ _ _ _ (op_neE hu) (pv 1) (@pe_lst _ _ _ _ pa_nil) (by exact (nomark _)))))) (@pss_one _ _ _ (@ps_ret _ _ _ _ (@pe_op _ _ _ _ _ _ _ _ op_cat (@pe_op _ _ _ _ _ _ _ _ op_cat (@pe_slice _ _ _ _ _ _ _ _ _ _ sl_list (pv 1) po_none (@po_some _ _ _ (pv 5))) (@pe_lst _ _ _ _ (@pa_consN _ _ _ _ _ (@cc _ _ _ _ _ _ _ _ _ _ (by exact C_l_odd_move) (by exact (hr.mono (by decide))) (@pa_consN _ _ _ _ _ (@pe_ix _ _ _ _ _ _ _ ix_list (pv 1) (pv 5) (by exact (fun _ _ => rfl))) (@pa_consN _ _ _ _ _ (pv 4) pa_nil (by first|rfl|decide|exact .inl rfl|exact .inr rfl|(intros; rfl))) (by first|rfl|decide|exact .inl rfl|exact .inr rfl|(intros; rfl))) (by first|rfl|decide|exact .inl rfl|exact .inr rfl|(intros; rfl)) (by first|rfl|decide|exact .inl rfl|exact .inr rfl|(intros; rfl)) (by first|rfl|decide|exact .inl rfl|exact .inr rfl|(intros; rfl)) (by first|rfl|decide|exact .inl rfl|exact .inr rfl|(intros; rfl))) pa_nil (by first|rfl|decide|exact .inl rfl|exact .inr rfl|(intros; rfl))))) (@pe_slice _ _ _ _ _ _ _ _ _ _ sl_list (pv 1) (@po_some _ _ _ (@pe_op _ _ _ _ _ _ _ _ op_add (pv 5) pe_int)) po_none)))) pss_nil) (@pss_cons _ _ _ _ _ (@ps_if _ _ _ _ _ _ _ _ (@pt_cmpR _ _ _ _ _ _ _ _ op_eq (pv 3) pe_int (by exact (nomark _))) (@pss_cons _ _ _ _ _ (@ps_set _ _ (7) _ _ _ _ (by exact S.nd) (by rfl) (by first | exact Or.inl rfl | exact Or.inr rfl) (@pe_lst _ _ _ _ (@pa_consN _ _ _ _ _ (@pe_tup _ _ _ _ _ (@pa_consN _ _ _ _ _ pe_int (@pa_consN _ _ _ _ _ (pv 6) pa_nil (by first|rfl|decide|exact .inl rfl|exact .inr rfl|(intros; rfl))) (by first|rfl|decide|exact .inl rfl|exact .inr rfl|(intros; rfl)))) (@pa_consN _ _ _ _ _ (@pe_tup _ _ _ _ _ (@pa_consN _ _ _ _ _ (pv 6) (@pa_consN _ _ _ _ _ pe_int pa_nil (by first|rfl|decide|exact .inl rfl|exact .inr rfl|(intros; rfl))) (by first|rfl|decide|exact .inl rfl|exact .inr rfl|(intros; rfl)))) (@pa_consN _ _ _ _ _ (@pe_tup _ _ _ _ _ (@pa_consN _ _ _ _ _ pe_int (@pa_consN _ _ _ _ _ pe_int pa_nil (by first|rfl|decide|exact .inl rfl|exact .inr rfl|(intros; rfl))) (by first|rfl|decide|exact .inl rfl|exact .inr rfl|(intros; rfl)))) (@pa_consN _ _ _ _ _ (@pe_lst _ _ _ _ pa_nil) (@pa_consN _ _ _ _ _ pe_non (@pa_consN _ _ _ _ _ (@pe_tup _ _ _ _ _ (@pa_consN _ _ _ _ _ pe_int (@pa_consN _ _ _ _ _ (@pe_callB _ _ _ _ _ _ _ _ _ call_len_seq (by rfl) (by exact T.z_len) (by exact bt_len) (@pa_consN _ _ _ _ _ (@pe_ix _ _ _ _ _ _ _ ix_list (pv 2) pe_int (by exact (fun _ _ => rfl))) pa_nil (by first|rfl|decide|exact .inl rfl|exact .inr rfl|(intros; rfl))) (by first|rfl|decide|exact .inl rfl|exact .inr rfl|(intros; rfl)) (by first|rfl|decide|exact .inl rfl|exact .inr rfl|(intros; rfl)) (by first|rfl|decide|exact .inl rfl|exact .inr rfl|(intros; rfl)) (by first|rfl|decide|exact .inl rfl|exact .inr rfl|(intros; rfl))) pa_nil (by first|rfl|decide|exact .inl rfl|exact .inr rfl|(intros; rfl))) (by first|rfl|decide|exact .inl rfl|exact .inr rfl|(intros; rfl)))) (@pa_consN _ _ _ _ _ (@pe_tup _ _ _ _ _ (@pa_consN _ _ _ _ _ pe_int (@pa_consN _ _ _ _ _ (@pe_un _ _ _ _ _ _ un_neg pe_int) pa_nil (by first|rfl|decide|exact .inl rfl|exact .inr rfl|(intros; rfl))) (by first|rfl|decide|exact .inl rfl|exact .inr rfl|(intros; rfl)))) (@pa_consN _ _ _ _ _ (@pe_tup _ _ _ _ _ pa_nil) pa_nil (by first|rfl|decide|exact .inl rfl|exact .inr rfl|(intros; rfl))) (by first|rfl|decide|exact .inl rfl|exact .inr rfl|(intros; rfl))) (by first|rfl|decide|exact .inl rfl|exact .inr rfl|(intros; rfl))) (by first|rfl|decide|exact .inl rfl|exact .inr rfl|(intros; rfl))) (by first|rfl|decide|exact .inl rfl|exact .inr rfl|(intros; rfl))) (by first|rfl|decide|exact .inl rfl|exact .inr rfl|(intros; rfl))) (by first|rfl|decide|exact .inl rfl|exact .inr rfl|(intros; rfl))) (by first|rfl|decide|exact .inl rfl|exact .inr rfl|(intros; rfl)))) (by first|rfl|decide|exact .inl rfl|exact .inr rfl|(intros; rfl)) (by first|rfl|decide|exact .inl rfl|exact .inr rfl|(intros; rfl))) (@pss_one _ _ _ (@ps_ret _ _ _ _ (@pe_op _ _ _ _ _ _ _ _ op_cat (pv 1) (@pe_lst _ _ _ _ (@pa_consN _ _ _ _ _ (@pe_ix _ _ _ _ _ _ _ ix_list (pv 7) (@pe_op _ _ _ _ _ _ _ _ op_mod (pv 4) pe_int) (by exact (fun _ _ => rfl))) pa_nil (by first|rfl|decide|exact .inl rfl|exact .inr rfl|(intros; rfl)))))))) pss_nil) (@pss_cons _ _ _ _ _ (@ps_if _ _ _ _ _ _ _ _ (@pt_cmpR _ _ _ _ _ _ _ _ op_eq (pv 3) pe_int (by exact (nomark _))) (@pss_one _ _ _ (@ps_ret _ _ _ _ (@pe_ix _ _ _ _ _ _ _ ix_list (@pe_lst _ _ _ _ (@pa_consN _ _ _ _ _ (@pe_callTy _ _ _ _ _ _ _ _ _ call_tuple_of (by rfl) (by exact T.z_tuple) (by exact bt_tuple) (@pa_consN _ _ _ _ _ (pv 1) pa_nil (by first|rfl|decide|exact .inl rfl|exact .inr rfl|(intros; rfl))) (by first|rfl|decide|exact .inl rfl|exact .inr rfl|(intros; rfl)) (by first|rfl|decide|exact .inl rfl|exact .inr rfl|(intros; rfl)) (by first|rfl|decide|exact .inl rfl|exact .inr rfl|(intros; rfl)) (by first|rfl|decide|exact .inl rfl|exact .inr rfl|(intros; rfl))) (@pa_consN _ _ _ _ _ (@pe_revL _ _ _ _ _ _ _ _ (pv 1)) (@pa_consN _ _ _ _ _ (@pe_lst _ _ _ _ (@pa_consN _ _ _ _ _ (pv 1) pa_nil (by first|rfl|decide|exact .inl rfl|exact .inr rfl|(intros; rfl)))) (@pa_consN _ _ _ _ _ (@pe_callTy _ _ _ _ _ _ _ _ _ (call_dictT (by rfl) hu3) (by rfl) (by exact T.z_dict) (by exact bt_dict) (@pa_consN _ _ _ _ _ (@pe_comp0 _ _ _ _ _ _ _ _ _ _ _ (["_law_move"]) (fun _ => [none]) (by rfl) (by exact (fun _ _ h => h)) (by decide +kernel) (by rfl) (by decide +kernel) (by decide +kernel) (by exact Sees.none1) (@pi_list _ _ _ _ (pv 1)) (fun _ _ _ _ _ => @pg_name _ _ (0) _ (by exact (show (["_law_move"] : List Str).Nodup by decide +kernel)) (by rfl) (by first | exact Or.inl rfl | exact Or.inr rfl) (by first|rfl|decide|exact .inl rfl|exact .inr rfl|(intros; rfl))) (fun _ _ _ _ _ => pts_nil) (fun _ _ _ _ _ => (@pe_tup _ _ _ _ _ (@pa_consN _ _ _ _ _ (pv 0) (@pa_consN _ _ _ _ _ pe_int pa_nil (by first|rfl|decide|exact .inl rfl|exact .inr rfl|(intros; rfl))) (by first|rfl|decide|exact .inl rfl|exact .inr rfl|(intros; rfl))))) (by first|rfl|decide|exact .inl rfl|exact .inr rfl|(intros; rfl))) pa_nil (by first|rfl|decide|exact .inl rfl|exact .inr rfl|(intros; rfl))) (by first|rfl|decide|exact .inl rfl|exact .inr rfl|(intros; rfl)) (by first|rfl|decide|exact .inl rfl|exact .inr rfl|(intros; rfl)) (by first|rfl|decide|exact .inl rfl|exact .inr rfl|(intros; rfl)) (by first|rfl|decide|exact .inl rfl|exact .inr rfl|(intros; rfl))) (@pa_consN _ _ _ _ _ (@pe_op _ _ _ _ _ _ _ _ op_cat (pv 1) (pv 1)) pa_nil (by first|rfl|decide|exact .inl rfl|exact .inr rfl|(intros; rfl))) (by first|rfl|decide|exact .inl rfl|exact .inr rfl|(intros; rfl))) (by first|rfl|decide|exact .inl rfl|exact .inr rfl|(intros; rfl))) (by first|rfl|decide|exact .inl rfl|exact .inr rfl|(intros; rfl))) (by first|rfl|decide|exact .inl rfl|exact .inr rfl|(intros; rfl)))) (@pe_op _ _ _ _ _ _ _ _ op_mod (pv 4) pe_int) (by exact (fun _ _ => rfl))))) pss_nil) (@pss_cons _ _ _ _ _ (@ps_set _ _ (7) _ _ _ _ (by exact S.nd) (by rfl) (by first | exact Or.inl rfl | exact Or.inr rfl) (@pe_lst _ _ _ _ (@pa_consN _ _ _ _ _ pe_non (@pa_consN _ _ _ _ _ pe_int (@pa_consN _ _ _ _ _ pe_bl (@pa_consN _ _ _ _ _ pe_str (@pa_consN _ _ _ _ _ pe_str (@pa_consN _ _ _ _ _ (@pe_tup _ _ _ _ _ pa_nil) (@pa_consN _ _ _ _ _ pe_dnewK (@pa_consN _ _ _ _ _ (@pe_lst _ _ _ _ (@pa_consN _ _ _ _ _ (@pe_lst _ _ _ _ pa_nil) pa_nil (by first|rfl|decide|exact .inl rfl|exact .inr rfl|(intros; rfl)))) (@pa_consN _ _ _ _ _ (@pe_lst _ _ _ _ (@pa_consN _ _ _ _ _ (@pe_tup _ _ _ _ _ pa_nil) pa_nil (by first|rfl|decide|exact .inl rfl|exact .inr rfl|(intros; rfl)))) (@pa_consN _ _ _ _ _ (@pe_lst _ _ _ _ (@pa_consN _ _ _ _ _ pe_non pa_nil (by first|rfl|decide|exact .inl rfl|exact .inr rfl|(intros; rfl)))) (@pa_consN _ _ _ _ _ (@pe_lst _ _ _ _ (@pa_consN _ _ _ _ _ (@pe_tup _ _ _ _ _ (@pa_consN _ _ _ _ _ pe_int (@pa_consN _ _ _ _ _ pe_int pa_nil (by first|rfl|decide|exact .inl rfl|exact .inr rfl|(intros; rfl))) (by first|rfl|decide|exact .inl rfl|exact .inr rfl|(intros; rfl)))) pa_nil (by first|rfl|decide|exact .inl rfl|exact .inr rfl|(intros; rfl)))) (@pa_consN _ _ _ _ _ (@pe_lst _ _ _ _ (@pa_consN _ _ _ _ _ (@pe_tup _ _ _ _ _ (@pa_consN _ _ _ _ _ pe_int (@pa_consN _ _ _ _ _ pe_int pa_nil (by first|rfl|decide|exact .inl rfl|exact .inr rfl|(intros; rfl))) (by first|rfl|decide|exact .inl rfl|exact .inr rfl|(intros; rfl)))) pa_nil (by first|rfl|decide|exact .inl rfl|exact .inr rfl|(intros; rfl)))) (@pa_consN _ _ _ _ _ (@pe_lst _ _ _ _ (@pa_consN _ _ _ _ _ (@pe_tup _ _ _ _ _ (@pa_consN _ _ _ _ _ pe_int (@pa_consN _ _ _ _ _ pe_int pa_nil (by first|rfl|decide|exact .inl rfl|exact .inr rfl|(intros; rfl))) (by first|rfl|decide|exact .inl rfl|exact .inr rfl|(intros; rfl)))) pa_nil (by first|rfl|decide|exact .inl rfl|exact .inr rfl|(intros; rfl)))) (@pa_consN _ _ _ _ _ pe_int pa_nil (by first|rfl|decide|exact .inl rfl|exact .inr rfl|(intros; rfl))) (by first|rfl|decide|exact .inl rfl|exact .inr rfl|(intros; rfl))) (by first|rfl|decide|exact .inl rfl|exact .inr rfl|(intros; rfl))) (by first|rfl|decide|exact .inl rfl|exact .inr rfl|(intros; rfl))) (by first|rfl|decide|exact .inl rfl|exact .inr rfl|(intros; rfl))) (by first|rfl|decide|exact .inl rfl|exact .inr rfl|(intros; rfl))) (by first|rfl|decide|exact .inl rfl|exact .inr rfl|(intros; rfl))) (by first|rfl|decide|exact .inl rfl|exact .inr rfl|(intros; rfl))) (by first|rfl|decide|exact .inl rfl|exact .inr rfl|(intros; rfl))) (by first|rfl|decide|exact .inl rfl|exact .inr rfl|(intros; rfl))) (by first|rfl|decide|exact .inl rfl|exact .inr rfl|(intros; rfl))) (by first|rfl|decide|exact .inl rfl|exact .inr rfl|(intros; rfl))) (by first|rfl|decide|exact .inl rfl|exact .inr rfl|(intros; rfl))) (by first|rfl|decide|exact .inl rfl|exact .inr rfl|(intros; rfl)))) (by first|rfl|decide|exact .inl rfl|exact .inr rfl|(intros; rfl)) (by first|rfl|decide|exact .inl rfl|exact .inr rfl|(intros; rfl))) (@pss_one _ _ _ (@ps_ret _ _ _ _ (@pe_ix _ _ _ _ _ _ _ ix_list (@pe_op _ _ _ _ _ _ _ _ op_cat (pv 7) (@pe_lst _ _ _ _ (@pa_consN _ _ _ _ _ (@pe_tup _ _ _ _ _ (@pa_consN _ _ _ _ _ (@pe_tup _ _ _ _ _ (@pa_consN _ _ _ _ _ pe_int (@pa_consN _ _ _ _ _ pe_int pa_nil (by first|rfl|decide|exact .inl rfl|exact .inr rfl|(intros; rfl))) (by first|rfl|decide|exact .inl rfl|exact .inr rfl|(intros; rfl)))) pa_nil (by first|rfl|decide|exact .inl rfl|exact .inr rfl|(intros; rfl)))) (@pa_consN _ _ _ _ _ (@pe_lst _ _ _ _ (@pa_consN _ _ _ _ _ pe_int pa_nil (by first|rfl|decide|exact .inl rfl|exact .inr rfl|(intros; rfl)))) pa_nil (by first|rfl|decide|exact .inl rfl|exact .inr rfl|(intros; rfl))) (by first|rfl|decide|exact .inl rfl|exact .inr rfl|(intros; rfl))))) (pv 4) (by exact (fun _ _ => rfl)))))))))))))))), ?_⟩
  refine ⟨_, rfl, p, _, m, rfl, pen, by omega, by decide, by decide, fun wy H1 w0 w6 p1 x1 => ?_⟩
  refine ⟨_, rfl, p, _, _, rfl, p1, by omega, by decide, by decide, fun od H2 o0 o16 p2 x2 => ?_⟩
  have x12 := x1.trans x2
  have zl : zs.length = ps.length := Paired.length pr
  have yl : ys.length = ps.length + 1 := by rw [Paired.length ld]; exact wk.len
  refine ⟨_, rfl, _, rfl, lf, zs, rfl, .inl (SqL.of (pen.keep x12 hf)), ?_⟩
  have el : (((zs.length : Nat) : Int)) = (ps.length : Int) := by rw [zl]
  refine ⟨_, _, rfl, p, _, _, rfl, p2, by omega, (by split <;> omega), (by split <;> omega), fun at' H3 a0 a1 p3 x3 => ?_⟩
  have x13 := x12.trans x3
  have a2 : at' ≤ 8 ∧ (ps ≠ [] → at' < ps.length) ∧ at' < (ls.length : Int) := by
    have hlen := wk.len
    split at a1
    · refine ⟨by omega, fun _ => by omega, by omega⟩
    · refine ⟨by omega, fun z => ?_, by omega⟩
      have : 0 < ps.length := List.length_pos_iff.mpr z
      omega
  clear a1
  obtain ⟨t0, ht0⟩ : ∃ t : Nat, at' = (t : Int) := ⟨at'.toNat, by omega⟩
  subst ht0
  obtain ⟨y0, hy0⟩ : ∃ y, ys[0]? = some y := ⟨_, List.getElem?_eq_getElem (by omega)⟩
  obtain ⟨n0, hn0, b0, rfl, hb0⟩ := paired_get ld hy0
  have al0 := wk.al _ (List.mem_of_getElem? hn0)
  have hl3 := pen.keep x13 hl
  refine ⟨_, rfl, _, rfl, ll, _, _, _, rfl, rfl, SqL.of hl3, atI_nat hy0, b0, _, rfl, .inr (SqT.of (pen.keep x13 hb0)), ?_⟩
  have en : (((iv n0).length : Nat) : Int) = (other.length : Int) := by rw [List.length_map, al0.1]
  rw [en]
  refine ⟨p, _, _, rfl, p3, by omega, by omega, by omega, fun rk H4 r0 r1 p4 x4 => ?_⟩
  have x14 := x13.trans x4
  have hf4 := pen.keep x14 hf
  have hl4 := pen.keep x14 hl
  have pr4 := prs_imp (tup_keep pen x14) pr
  have ld4 := Lds.imp (tup_keep pen x14) ld
  have hb4 := pen.keep x14 hb0
  have sm : ∀ q ∈ ps, Sm2 q := fun q hq => by
    obtain ⟨h1, h2, h3, h4⟩ := wk.pl q hq
    exact ⟨by omega, by omega, by omega, by omega⟩
  have rw4 := Rw.prs pr4 sm
  have zf : zs.length ≤ 8 := by omega
  have fin : ∀ (v : V) (d : PyData) (H' : Hp), DataT H' v d → Kx 20000 6 d → Same H4 H' → Q v H' := fun v d H' dv kd ss => k v d H' dv kd ((p4.same ss).mono (by omega)) (x14.trans (Same.x ss))
  have finL : ∀ (l : Addr) (vs : List V) (H' : Hp), H' l = some (.lst vs) → Rw H' vs → vs.length ≤ 40 → Same H4 H' → Q (.ref l) H' := fun l vs H' h1 h2 h3 ss => by
    obtain ⟨d, h4, h5⟩ := h2.lst h1 h3
    exact fin _ _ _ (.inl h4) (h5.mono (by decide) (by decide)) ss
  have cl : ∀ lo hi, (cutV zs lo hi).length ≤ 8 := fun lo hi => Nat.le_trans (cutV_length zs lo hi) zf
  -- 0
  refine ⟨_, rfl, rfl, _, rfl, ?_⟩
  refine ite2 (fun c => ?_) (fun c0 => ?_)
  · refine ⟨_, rfl, _, rfl, _, rfl, lf, zs, rfl, SqL.of hf4, fun c1 hc1 => ?_⟩
    have s_H5 := same_new hc1 (.lst (cutV zs none (some (t0 : Int))))
    have g_c1 : upd H4 c1 (.lst (cutV zs none (some (t0 : Int)))) c1 = some (.lst (cutV zs none (some (t0 : Int)))) := upd_same
    generalize upd H4 c1 (.lst (cutV zs none (some (t0 : Int)))) = H5 at s_H5 g_c1 ⊢
    have hf4 := (s_H5) _ _ hf4
    refine ⟨_, rfl, _, rfl, _, _, rfl, rfl, _, rfl, lf, zs, rfl, SqL.of hf4, fun c2 hc2 => ?_⟩
    have s_H6 := same_new hc2 (.lst (cutV zs (some ((t0 : Int) + 1)) none))
    have g_c2 : upd H5 c2 (.lst (cutV zs (some ((t0 : Int) + 1)) none)) c2 = some (.lst (cutV zs (some ((t0 : Int) + 1)) none)) := upd_same
    generalize upd H5 c2 (.lst (cutV zs (some ((t0 : Int) + 1)) none)) = H6 at s_H6 g_c2 ⊢
    have g_c1 := (s_H6) _ _ g_c1
    refine ⟨c1, c2, _, _, rfl, rfl, g_c1, g_c2, lzz (by have := cl none (some (t0 : Int)); have := cl (some ((t0 : Int) + 1)) none; omega), fun l hl => ?_⟩
    have s_H7 := same_new hl (.lst (cutV zs none (some (t0 : Int)) ++ cutV zs (some ((t0 : Int) + 1)) none))
    have g_l : upd H6 l (.lst (cutV zs none (some (t0 : Int)) ++ cutV zs (some ((t0 : Int) + 1)) none)) l = some (.lst (cutV zs none (some (t0 : Int)) ++ cutV zs (some ((t0 : Int) + 1)) none)) := upd_same
    generalize upd H6 l (.lst (cutV zs none (some (t0 : Int)) ++ cutV zs (some ((t0 : Int) + 1)) none)) = H7 at s_H7 g_l ⊢
    have sA : Same H4 H7 := s_H5.trans (s_H6.trans s_H7)
    have rw7 := rw4.same sA
    refine finL l _ H7 g_l ((rw7.cut _ _).app (rw7.cut _ _)) ?_ sA
    have := cl none (some (t0 : Int)); have := cl (some ((t0 : Int) + 1)) none; rw [List.length_append]; omega
  -- 1
  refine ⟨_, rfl, rfl, _, rfl, ?_⟩
  refine ite2 (fun c => ?_) (fun c1 => ?_)
  · refine ⟨_, rfl, _, rfl, _, rfl, lf, zs, rfl, SqL.of hf4, fun c1 hc1 => ?_⟩
    have s_H5 := same_new hc1 (.lst (cutV zs none (some (t0 : Int))))
    have g_c1 : upd H4 c1 (.lst (cutV zs none (some (t0 : Int)))) c1 = some (.lst (cutV zs none (some (t0 : Int)))) := upd_same
    generalize upd H4 c1 (.lst (cutV zs none (some (t0 : Int)))) = H5 at s_H5 g_c1 ⊢
    have hf4 := (s_H5) _ _ hf4
    refine ⟨_, rfl, _, rfl, _, rfl, _, rfl, _, _, rfl, rfl, _, rfl, lf, zs, rfl, SqL.of hf4, fun c2 hc2 => ?_⟩
    have s_H6 := same_new hc2 (.lst (cutV zs (some (t0 : Int)) (some ((t0 : Int) + 1))))
    have g_c2 : upd H5 c2 (.lst (cutV zs (some (t0 : Int)) (some ((t0 : Int) + 1)))) c2 = some (.lst (cutV zs (some (t0 : Int)) (some ((t0 : Int) + 1)))) := upd_same
    generalize upd H5 c2 (.lst (cutV zs (some (t0 : Int)) (some ((t0 : Int) + 1)))) = H6 at s_H6 g_c2 ⊢
    have g_c1 := (s_H6) _ _ g_c1
    have hf4 := (s_H6) _ _ hf4
    have e1 := cl none (some (t0 : Int)); have e2 := cl (some (t0 : Int)) (some ((t0 : Int) + 1)); have e3 := cl (some (t0 : Int)) none
    refine ⟨c1, c2, _, _, rfl, rfl, g_c1, g_c2, lzz (by omega), fun l hl => ?_⟩
    have s_H7 := same_new hl (.lst (cutV zs none (some (t0 : Int)) ++ cutV zs (some (t0 : Int)) (some ((t0 : Int) + 1))))
    have g_l : upd H6 l (.lst (cutV zs none (some (t0 : Int)) ++ cutV zs (some (t0 : Int)) (some ((t0 : Int) + 1)))) l = some (.lst (cutV zs none (some (t0 : Int)) ++ cutV zs (some (t0 : Int)) (some ((t0 : Int) + 1)))) := upd_same
    generalize upd H6 l (.lst (cutV zs none (some (t0 : Int)) ++ cutV zs (some (t0 : Int)) (some ((t0 : Int) + 1)))) = H7 at s_H7 g_l ⊢
    have hf4 := (s_H7) _ _ hf4
    refine ⟨_, rfl, _, rfl, _, rfl, lf, zs, rfl, SqL.of hf4, fun c3 hc3 => ?_⟩
    have s_H8 := same_new hc3 (.lst (cutV zs (some (t0 : Int)) none))
    have g_c3 : upd H7 c3 (.lst (cutV zs (some (t0 : Int)) none)) c3 = some (.lst (cutV zs (some (t0 : Int)) none)) := upd_same
    generalize upd H7 c3 (.lst (cutV zs (some (t0 : Int)) none)) = H8 at s_H8 g_c3 ⊢
    have g_l := (s_H8) _ _ g_l
    refine ⟨l, c3, _, _, rfl, rfl, g_l, g_c3, lzz (by rw [List.length_append]; omega), fun l2 hl2 => ?_⟩
    have s_H9 := same_new hl2 (.lst (cutV zs none (some (t0 : Int)) ++ cutV zs (some (t0 : Int)) (some ((t0 : Int) + 1)) ++ cutV zs (some (t0 : Int)) none))
    have g_l2 : upd H8 l2 (.lst (cutV zs none (some (t0 : Int)) ++ cutV zs (some (t0 : Int)) (some ((t0 : Int) + 1)) ++ cutV zs (some (t0 : Int)) none)) l2 = some (.lst (cutV zs none (some (t0 : Int)) ++ cutV zs (some (t0 : Int)) (some ((t0 : Int) + 1)) ++ cutV zs (some (t0 : Int)) none)) := upd_same
    generalize upd H8 l2 (.lst (cutV zs none (some (t0 : Int)) ++ cutV zs (some (t0 : Int)) (some ((t0 : Int) + 1)) ++ cutV zs (some (t0 : Int)) none)) = H9 at s_H9 g_l2 ⊢
    have sA : Same H4 H9 := s_H5.trans (s_H6.trans (s_H7.trans (s_H8.trans s_H9)))
    have rw7 := rw4.same sA
    refine finL l2 _ H9 g_l2 (((rw7.cut _ _).app (rw7.cut _ _)).app (rw7.cut _ _)) ?_ sA
    rw [List.length_append, List.length_append]; omega
  -- 2
  refine ⟨_, rfl, rfl, _, rfl, ?_⟩
  refine ite2 (fun c => ?_) (fun c2 => ?_)
  · refine ⟨_, rfl, _, rfl, _, rfl, lf, zs, rfl, SqL.of hf4, fun c1 hc1 => ?_⟩
    have s_H5 := same_new hc1 (.lst (cutV zs none (some (t0 : Int))))
    have g_c1 : upd H4 c1 (.lst (cutV zs none (some (t0 : Int)))) c1 = some (.lst (cutV zs none (some (t0 : Int)))) := upd_same
    generalize upd H4 c1 (.lst (cutV zs none (some (t0 : Int)))) = H5 at s_H5 g_c1 ⊢
    have hf4 := (s_H5) _ _ hf4
    have hl4 := (s_H5) _ _ hl4
    have ld5 := Lds.imp (fun b ys e => s_H5 _ _ e) ld4
    obtain ⟨yt, hyt⟩ : ∃ y, ys[t0]? = some y := ⟨_, List.getElem?_eq_getElem (by have := wk.len; omega)⟩
    obtain ⟨nt, hnt, bt, rfl, hbt⟩ := paired_get ld5 hyt
    have alt := wk.al _ (List.mem_of_getElem? hnt)
    refine ⟨_, rfl, _, rfl, ll, _, _, _, rfl, rfl, SqL.of hl4, atI_nat hyt, _, rfl, bt, nt, od, rfl, hbt, by have := alt.1; omega, by have := alt.1; omega, o0, fun v q H6 s6 hv smq => ?_⟩
    refine ⟨lz 1 rfl, fun c2 hc2 => ?_⟩
    have s_H7 := same_new hc2 (.lst [v])
    have g_c2 : upd H6 c2 (.lst [v]) c2 = some (.lst [v]) := upd_same
    generalize upd H6 c2 (.lst [v]) = H7 at s_H7 g_c2 ⊢
    have g_c1 := (s6.trans s_H7) _ _ g_c1
    have e1 := cl none (some (t0 : Int)); have e3 := cl (some (t0 : Int)) none
    refine ⟨c1, c2, _, _, rfl, rfl, g_c1, g_c2, lzz (by simp; omega), fun l hl => ?_⟩
    have s_H8 := same_new hl (.lst (cutV zs none (some (t0 : Int)) ++ [v]))
    have g_l : upd H7 l (.lst (cutV zs none (some (t0 : Int)) ++ [v])) l = some (.lst (cutV zs none (some (t0 : Int)) ++ [v])) := upd_same
    generalize upd H7 l (.lst (cutV zs none (some (t0 : Int)) ++ [v])) = H8 at s_H8 g_l ⊢
    have hf4 := (s6.trans (s_H7.trans s_H8)) _ _ hf4
    refine ⟨_, rfl, _, rfl, _, rfl, lf, zs, rfl, SqL.of hf4, fun c3 hc3 => ?_⟩
    have s_H9 := same_new hc3 (.lst (cutV zs (some (t0 : Int)) none))
    have g_c3 : upd H8 c3 (.lst (cutV zs (some (t0 : Int)) none)) c3 = some (.lst (cutV zs (some (t0 : Int)) none)) := upd_same
    generalize upd H8 c3 (.lst (cutV zs (some (t0 : Int)) none)) = H9 at s_H9 g_c3 ⊢
    have g_l := (s_H9) _ _ g_l
    refine ⟨l, c3, _, _, rfl, rfl, g_l, g_c3, lzz (by simp; omega), fun l2 hl2 => ?_⟩
    have s_H10 := same_new hl2 (.lst (cutV zs none (some (t0 : Int)) ++ [v] ++ cutV zs (some (t0 : Int)) none))
    have g_l2 : upd H9 l2 (.lst (cutV zs none (some (t0 : Int)) ++ [v] ++ cutV zs (some (t0 : Int)) none)) l2 = some (.lst (cutV zs none (some (t0 : Int)) ++ [v] ++ cutV zs (some (t0 : Int)) none)) := upd_same
    generalize upd H9 l2 (.lst (cutV zs none (some (t0 : Int)) ++ [v] ++ cutV zs (some (t0 : Int)) none)) = H10 at s_H10 g_l2 ⊢
    have sA : Same H4 H10 := s_H5.trans (s6.trans (s_H7.trans (s_H8.trans (s_H9.trans s_H10))))
    have sB : Same H6 H10 := s_H7.trans (s_H8.trans (s_H9.trans s_H10))
    have rw7 := rw4.same sA
    obtain ⟨b, rfl, hb⟩ := hv
    refine finL l2 _ H10 g_l2 (((rw7.cut _ _).app (Rw.one (.tup (sB _ _ hb) (.cons (.int _) (.cons (.int _) .nil))) ((kx_dp smq).mono (by decide) (by decide)))).app (rw7.cut _ _)) ?_ sA
    rw [List.length_append, List.length_append]; simp; omega
  -- 3
  apply joinH (C := fun h => Same H4 h)
  case main =>
    intro key
    refine ⟨_, rfl, rfl, _, rfl, ?_⟩
    refine ite2 (fun c => ?_) (fun c => iteF (key H4 (Same.refl _)))
    refine ⟨_, rfl, lz 0 rfl, fun le hle => ?_⟩
    have s_H5 := same_new hle (.lst [])
    have g_le : upd H4 le (.lst []) le = some (.lst []) := upd_same
    generalize upd H4 le (.lst []) = H5 at s_H5 g_le ⊢
    have hf4 := (s_H5) _ _ hf4
    refine ⟨lf, le, zs, rfl, rfl, hf4, g_le, _, rfl, ite2 (fun cz => ?_) (fun _ => key H5 s_H5)⟩
    have zne : zs ≠ [] := of_decide_eq_true cz
    have pne : ps ≠ [] := fun z => zne (List.length_eq_zero_iff.mp (by rw [zl, z]; rfl))
    have tl : t0 < zs.length := by have := a2.2.1 pne; omega
    refine ⟨_, rfl, _, rfl, _, rfl, lf, zs, rfl, SqL.of hf4, fun c1 hc1 => ?_⟩
    have s_H6 := same_new hc1 (.lst (cutV zs none (some (t0 : Int))))
    have g_c1 : upd H5 c1 (.lst (cutV zs none (some (t0 : Int)))) c1 = some (.lst (cutV zs none (some (t0 : Int)))) := upd_same
    generalize upd H5 c1 (.lst (cutV zs none (some (t0 : Int)))) = H6 at s_H6 g_c1 ⊢
    have hf4 := (s_H6) _ _ hf4
    have s46 : Same H4 H6 := s_H5.trans s_H6
    obtain ⟨vt, hvt⟩ : ∃ y, zs[t0]? = some y := ⟨_, List.getElem?_eq_getElem tl⟩
    obtain ⟨qt, hqt, bt, rfl, hbt⟩ := paired_get (prs_imp (fun b ys e => s46 _ _ e) pr4) hvt
    obtain ⟨q1, q2, q3, q4⟩ := wk.pl _ (List.mem_of_getElem? hqt)
    refine ⟨_, rfl, _, rfl, lf, _, _, _, rfl, rfl, SqL.of hf4, atI_nat hvt, _, rfl, bt, qt.1, qt.2, od, rfl, hbt, q1, by omega, q3, by omega, o0, o16, fun v d H7 s7 hv kd => ?_⟩
    refine ⟨lz 1 rfl, fun c2 hc2 => ?_⟩
    have s_H8 := same_new hc2 (.lst [v])
    have g_c2 : upd H7 c2 (.lst [v]) c2 = some (.lst [v]) := upd_same
    generalize upd H7 c2 (.lst [v]) = H8 at s_H8 g_c2 ⊢
    have g_c1 := (s7.trans s_H8) _ _ g_c1
    have hf4 := (s7.trans s_H8) _ _ hf4
    have e1 := cl none (some (t0 : Int)); have e3 := cl (some ((t0 : Int) + 1)) none
    refine ⟨c1, c2, _, _, rfl, rfl, g_c1, g_c2, lzz (by simp; omega), fun l hl => ?_⟩
    have s_H9 := same_new hl (.lst (cutV zs none (some (t0 : Int)) ++ [v]))
    have g_l : upd H8 l (.lst (cutV zs none (some (t0 : Int)) ++ [v])) l = some (.lst (cutV zs none (some (t0 : Int)) ++ [v])) := upd_same
    generalize upd H8 l (.lst (cutV zs none (some (t0 : Int)) ++ [v])) = H9 at s_H9 g_l ⊢
    have hf4 := (s_H9) _ _ hf4
    refine ⟨_, rfl, _, rfl, _, _, rfl, rfl, _, rfl, lf, zs, rfl, SqL.of hf4, fun c3 hc3 => ?_⟩
    have s_H10 := same_new hc3 (.lst (cutV zs (some ((t0 : Int) + 1)) none))
    have g_c3 : upd H9 c3 (.lst (cutV zs (some ((t0 : Int) + 1)) none)) c3 = some (.lst (cutV zs (some ((t0 : Int) + 1)) none)) := upd_same
    generalize upd H9 c3 (.lst (cutV zs (some ((t0 : Int) + 1)) none)) = H10 at s_H10 g_c3 ⊢
    have g_l := (s_H10) _ _ g_l
    refine ⟨l, c3, _, _, rfl, rfl, g_l, g_c3, lzz (by rw [List.length_append]; simp; omega), fun l2 hl2 => ?_⟩
    have s_H11 := same_new hl2 (.lst (cutV zs none (some (t0 : Int)) ++ [v] ++ cutV zs (some ((t0 : Int) + 1)) none))
    have g_l2 : upd H10 l2 (.lst (cutV zs none (some (t0 : Int)) ++ [v] ++ cutV zs (some ((t0 : Int) + 1)) none)) l2 = some (.lst (cutV zs none (some (t0 : Int)) ++ [v] ++ cutV zs (some ((t0 : Int) + 1)) none)) := upd_same
    generalize upd H10 l2 (.lst (cutV zs none (some (t0 : Int)) ++ [v] ++ cutV zs (some ((t0 : Int) + 1)) none)) = H11 at s_H11 g_l2 ⊢
    have sA : Same H4 H11 := s_H5.trans (s_H6.trans (s7.trans (s_H8.trans (s_H9.trans (s_H10.trans s_H11)))))
    have sB : Same H7 H11 := s_H8.trans (s_H9.trans (s_H10.trans s_H11))
    have rw7 := rw4.same sA
    refine finL l2 _ H11 g_l2 (((rw7.cut _ _).app (Rw.one (hv.same sB) kd)).app (rw7.cut _ _)) ?_ sA
    rw [List.length_append, List.length_append]; simp; omega
  intro J0 s_J0
  have hf4 := (s_J0) _ _ hf4
  have hl4 := (s_J0) _ _ hl4
  have hb4 := (s_J0) _ _ hb4
  -- 4
  have kI : ∀ x : Int, x.natAbs ≤ 100 → Kx 20 0 (.int x) := fun x h => (kx_int (by omega)).mono (by decide) (by decide)
  have kP : ∀ {H' : Hp} {a : Addr} {x y : Int}, H' a = some (.tup [.int x, .int y]) → x.natAbs ≤ 100 → y.natAbs ≤ 100 → ∃ d, DataV H' (.ref a) d ∧ Kx 100 3 d := fun {H' a x y} h h1 h2 => ⟨_, .tup h (.cons (.int _) (.cons (.int _) .nil)), (kx_tup (n := 20) (e := 0) (m := 100) (by simpa using ⟨kI _ h1, kI _ h2⟩) (by simp)).mono (by decide) (by decide)⟩
  refine ⟨_, rfl, rfl, _, rfl, ?_⟩
  refine ite2 (fun c => ?_) (fun c4 => ?_)
  · refine ⟨_, rfl, lz 2 rfl, fun t1 ht1 => ?_⟩
    have s_J1 := same_new ht1 (.tup [.int 0, .int rk])
    have g_t1 : upd J0 t1 (.tup [.int 0, .int rk]) t1 = some (.tup [.int 0, .int rk]) := upd_same
    generalize upd J0 t1 (.tup [.int 0, .int rk]) = J1 at s_J1 g_t1 ⊢
    refine ⟨_, rfl, lz 2 rfl, fun t2 ht2 => ?_⟩
    have s_J2 := same_new ht2 (.tup [.int rk, .int 0])
    have g_t2 : upd J1 t2 (.tup [.int rk, .int 0]) t2 = some (.tup [.int rk, .int 0]) := upd_same
    generalize upd J1 t2 (.tup [.int rk, .int 0]) = J2 at s_J2 g_t2 ⊢
    refine ⟨lz 2 rfl, fun t3 ht3 => ?_⟩
    have s_J3 := same_new ht3 (.tup [.int 0, .int 0])
    have g_t3 : upd J2 t3 (.tup [.int 0, .int 0]) t3 = some (.tup [.int 0, .int 0]) := upd_same
    generalize upd J2 t3 (.tup [.int 0, .int 0]) = J3 at s_J3 g_t3 ⊢
    refine ⟨lz 0 rfl, fun t4 ht4 => ?_⟩
    have s_J4 := same_new ht4 (.lst [])
    have g_t4 : upd J3 t4 (.lst []) t4 = some (.lst []) := upd_same
    generalize upd J3 t4 (.lst []) = J4 at s_J4 g_t4 ⊢
    have hl4 := (s_J1.trans (s_J2.trans (s_J3.trans s_J4))) _ _ hl4
    have hb4 := (s_J1.trans (s_J2.trans (s_J3.trans s_J4))) _ _ hb4
    refine ⟨_, rfl, ll, _, _, _, rfl, rfl, SqL.of hl4, atI_nat hy0, b0, _, rfl, .inr (SqT.of hb4), ?_⟩
    rw [en]
    refine ⟨lz 2 rfl, fun t5 ht5 => ?_⟩
    have s_J5 := same_new ht5 (.tup [.int 0, .int (other.length : Int)])
    have g_t5 : upd J4 t5 (.tup [.int 0, .int (other.length : Int)]) t5 = some (.tup [.int 0, .int (other.length : Int)]) := upd_same
    generalize upd J4 t5 (.tup [.int 0, .int (other.length : Int)]) = J5 at s_J5 g_t5 ⊢
    refine ⟨_, rfl, lz 2 rfl, fun t6 ht6 => ?_⟩
    have s_J6 := same_new ht6 (.tup [.int 0, .int (-1)])
    have g_t6 : upd J5 t6 (.tup [.int 0, .int (-1)]) t6 = some (.tup [.int 0, .int (-1)]) := upd_same
    generalize upd J5 t6 (.tup [.int 0, .int (-1)]) = J6 at s_J6 g_t6 ⊢
    refine ⟨lz 0 rfl, fun t7 ht7 => ?_⟩
    have s_J7 := same_new ht7 (.tup [])
    have g_t7 : upd J6 t7 (.tup []) t7 = some (.tup []) := upd_same
    generalize upd J6 t7 (.tup []) = J7 at s_J7 g_t7 ⊢
    refine ⟨lz 8 rfl, fun l hl => ?_⟩
    have s_J8 := same_new hl (.lst [.ref t1, .ref t2, .ref t3, .ref t4, .non, .ref t5, .ref t6, .ref t7])
    have g_l : upd J7 l (.lst [.ref t1, .ref t2, .ref t3, .ref t4, .non, .ref t5, .ref t6, .ref t7]) l = some (.lst [.ref t1, .ref t2, .ref t3, .ref t4, .non, .ref t5, .ref t6, .ref t7]) := upd_same
    generalize upd J7 l (.lst [.ref t1, .ref t2, .ref t3, .ref t4, .non, .ref t5, .ref t6, .ref t7]) = J8 at s_J8 g_l ⊢
    have g_t1 := (s_J2.trans (s_J3.trans (s_J4.trans (s_J5.trans (s_J6.trans (s_J7.trans s_J8)))))) _ _ g_t1
    have g_t2 := (s_J3.trans (s_J4.trans (s_J5.trans (s_J6.trans (s_J7.trans s_J8))))) _ _ g_t2
    have g_t3 := (s_J4.trans (s_J5.trans (s_J6.trans (s_J7.trans s_J8)))) _ _ g_t3
    have g_t4 := (s_J5.trans (s_J6.trans (s_J7.trans s_J8))) _ _ g_t4
    have g_t5 := (s_J6.trans (s_J7.trans s_J8)) _ _ g_t5
    have g_t6 := (s_J7.trans s_J8) _ _ g_t6
    have g_t7 := (s_J8) _ _ g_t7
    have hf4 := (s_J1.trans (s_J2.trans (s_J3.trans (s_J4.trans (s_J5.trans (s_J6.trans (s_J7.trans s_J8))))))) _ _ hf4
    have all : Rw J8 [.ref t1, .ref t2, .ref t3, .ref t4, .non, .ref t5, .ref t6, .ref t7] := by
      intro v hv
      simp only [List.mem_cons, List.not_mem_nil, or_false] at hv
      rcases hv with rfl | rfl | rfl | rfl | rfl | rfl | rfl | rfl
      · exact kP g_t1 (by decide) (by omega)
      · exact kP g_t2 (by omega) (by decide)
      · exact kP g_t3 (by decide) (by decide)
      · exact ⟨_, .lst g_t4 .nil, (kx_list (n := 20) (e := 0) (m := 100) (by simp) (by simp)).mono (by decide) (by decide)⟩
      · exact ⟨_, .non, kx_none.mono (by decide) (by decide)⟩
      · exact kP g_t5 (by decide) (by omega)
      · exact kP g_t6 (by decide) (by decide)
      · exact ⟨_, .tup g_t7 .nil, (kx_tup (n := 20) (e := 0) (m := 100) (by simp) (by simp)).mono (by decide) (by decide)⟩
    obtain ⟨v, d, hat, hd, kd⟩ := pickV all (i := od % 8) (Int.emod_nonneg _ (by decide)) (by simpa using Int.emod_lt_of_pos od (show (0 : Int) < 8 by decide))
    refine ⟨_, rfl, _, rfl, _, rfl, _, _, rfl, rfl, (show (0 : Int) < 8 by decide), l, _, _, _, rfl, rfl, SqL.of g_l, hat, lz 1 rfl, fun c1 hc1 => ?_⟩
    have s_J9 := same_new hc1 (.lst [v])
    have g_c1 : upd J8 c1 (.lst [v]) c1 = some (.lst [v]) := upd_same
    generalize upd J8 c1 (.lst [v]) = J9 at s_J9 g_c1 ⊢
    have hf4 := (s_J9) _ _ hf4
    refine ⟨lf, c1, _, _, rfl, rfl, hf4, g_c1, lzz (by simp; omega), fun l2 hl2 => ?_⟩
    have s_J10 := same_new hl2 (.lst (zs ++ [v]))
    have g_l2 : upd J9 l2 (.lst (zs ++ [v])) l2 = some (.lst (zs ++ [v])) := upd_same
    generalize upd J9 l2 (.lst (zs ++ [v])) = J10 at s_J10 g_l2 ⊢
    have sA : Same H4 J10 := s_J0.trans (s_J1.trans (s_J2.trans (s_J3.trans (s_J4.trans (s_J5.trans (s_J6.trans (s_J7.trans (s_J8.trans (s_J9.trans s_J10)))))))))
    have sB : Same J8 J10 := s_J9.trans s_J10
    exact finL l2 _ J10 g_l2 ((rw4.same sA).app (Rw.one (hd.same sB) kd)) (by simp; omega) sA
  -- 5
  refine ⟨_, rfl, rfl, _, rfl, ?_⟩
  refine ite2 (fun c => ?_) (fun c5 => ?_)
  · refine ⟨_, rfl, lf, zs, rfl, .inl ⟨SqL.of hf4, fun t1 ht1 => ?_⟩⟩
    have s_J1 := same_new ht1 (.tup zs)
    have g_t1 : upd J0 t1 (.tup zs) t1 = some (.tup zs) := upd_same
    generalize upd J0 t1 (.tup zs) = J1 at s_J1 g_t1 ⊢
    have hf4 := (s_J1) _ _ hf4
    refine ⟨_, rfl, lf, zs, rfl, SqL.of hf4, fun t2 ht2 => ?_⟩
    have s_J2 := same_new ht2 (.lst zs.reverse)
    have g_t2 : upd J1 t2 (.lst zs.reverse) t2 = some (.lst zs.reverse) := upd_same
    generalize upd J1 t2 (.lst zs.reverse) = J2 at s_J2 g_t2 ⊢
    refine ⟨_, rfl, lz 1 rfl, fun t3 ht3 => ?_⟩
    have s_J3 := same_new ht3 (.lst [.ref lf])
    have g_t3 : upd J2 t3 (.lst [.ref lf]) t3 = some (.lst [.ref lf]) := upd_same
    generalize upd J2 t3 (.lst [.ref lf]) = J3 at s_J3 g_t3 ⊢
    have hf4 := (s_J2.trans s_J3) _ _ hf4
    have s43 : Same H4 J3 := s_J0.trans (s_J1.trans (s_J2.trans s_J3))
    have pr3 := prs_imp (fun b ys e => s43 _ _ e) pr4
    refine ⟨_, rfl, lf, rfl, ⟨_, SqL.of hf4⟩, comp_Y (yields_lst (xs := zs)) (fun acc i us σ' H' => Same J3 H' ∧ (∃ o1, σ' = [o1]) ∧ ∃ kvs, RowsT H' us kvs ∧ (∀ p ∈ kvs, OneK p) ∧ us.length = i) (by omega) ?_ ?_ ?_ ?_⟩
    · exact fun acc hacc => ⟨same_new hacc _, ⟨_, rfl⟩, [], .nil, fun p hp => by simp at hp, rfl⟩
    · rintro acc i us σ' H' hacc ⟨s3, _⟩
      exact s3 _ _ hf4
    · rintro acc i us σ' H' x H3' hacc hi hlen ⟨s3, ⟨o1, rfl⟩, kvs, rows, ok, ul⟩ hH' ⟨rfl, hx'⟩ Q1 Q2 h1 h2'
      obtain ⟨q, hq, b, rfl, hb⟩ := paired_get pr3 hx'
      refine gN_ (tT_ (iteT ⟨_, rfl, lz 2 rfl, fun u hu' => ?_⟩))
      have s5 := same_new hu' (.tup [.ref b, .int 1])
      have smq := sm q (List.mem_of_getElem? hq)
      refine h1 _ _ _ (s5 _ _ hH') ⟨same_updN hacc (s3.trans s5) _, ⟨_, rfl⟩, kvs ++ [([.inl q.1, .inl q.2], .int 1)], ?_, fun p hp => ?_, by simp [ul]⟩
      · have kk : ∀ c ws, H3' c = some (.tup ws) → upd (upd H3' u (.tup [.ref b, .int 1])) acc (.lst (us ++ [.ref u])) c = some (.tup ws) := fun c ws e => tup_upd (s5 _ _ hH') _ _ (s5 _ _ e)
        have ku : upd (upd H3' u (.tup [.ref b, .int 1])) acc (.lst (us ++ [.ref u])) u = some (.tup [.ref b, .int 1]) := tup_upd (s5 _ _ hH') _ _ upd_same
        exact Paired.snoc (Paired.mapP rows fun _ _ ⟨a, b, e1, e2, e3⟩ => ⟨a, b, e1, kk _ _ e2, kk _ _ e3⟩) ⟨u, b, rfl, ku, kk _ _ (s3 _ _ hb)⟩
      · rcases List.mem_append.mp hp with z | z
        · exact ok p z
        · rw [List.mem_singleton.mp z]; exact ⟨q, rfl, smq⟩
    rintro acc us σ' J4 hacc ⟨s34, _, kvs, rows, ok, ul⟩ hH' _
    have ml := length_mergeT kvs []
    have kl := Paired.length rows
    refine ⟨acc, us, kvs, rfl, hH', rows, by omega, fun t4 ht4 => ?_⟩
    have s_J5 := same_new ht4 (.dT (mergeT [] kvs))
    have g_t4 : upd J4 t4 (.dT (mergeT [] kvs)) t4 = some (.dT (mergeT [] kvs)) := upd_same
    generalize upd J4 t4 (.dT (mergeT [] kvs)) = J5 at s_J5 g_t4 ⊢
    have hf4 := (s34.trans s_J5) _ _ hf4
    refine ⟨_, rfl, _, rfl, lf, lf, _, _, rfl, rfl, hf4, hf4, lzz (by omega), fun t5 ht5 => ?_⟩
    have s_J6 := same_new ht5 (.lst (zs ++ zs))
    have g_t5 : upd J5 t5 (.lst (zs ++ zs)) t5 = some (.lst (zs ++ zs)) := upd_same
    generalize upd J5 t5 (.lst (zs ++ zs)) = J6 at s_J6 g_t5 ⊢
    refine ⟨lz 5 rfl, fun l hl => ?_⟩
    have s_J7 := same_new hl (.lst [.ref t1, .ref t2, .ref t3, .ref t4, .ref t5])
    have g_l : upd J6 l (.lst [.ref t1, .ref t2, .ref t3, .ref t4, .ref t5]) l = some (.lst [.ref t1, .ref t2, .ref t3, .ref t4, .ref t5]) := upd_same
    generalize upd J6 l (.lst [.ref t1, .ref t2, .ref t3, .ref t4, .ref t5]) = J7 at s_J7 g_l ⊢
    have g_t1 := (s_J2.trans (s_J3.trans (s34.trans (s_J5.trans (s_J6.trans s_J7))))) _ _ g_t1
    have g_t2 := (s_J3.trans (s34.trans (s_J5.trans (s_J6.trans s_J7)))) _ _ g_t2
    have g_t3 := (s34.trans (s_J5.trans (s_J6.trans s_J7))) _ _ g_t3
    have g_t4 := (s_J6.trans s_J7) _ _ g_t4
    have g_t5 := (s_J7) _ _ g_t5
    have hf4 := (s_J6.trans s_J7) _ _ hf4
    have sA : Same H4 J7 := s_J0.trans (s_J1.trans (s_J2.trans (s_J3.trans (s34.trans (s_J5.trans (s_J6.trans s_J7))))))
    have rw7 := rw4.same sA
    have all : ∀ v ∈ ([.ref t1, .ref t2, .ref t3, .ref t4, .ref t5] : List V), ∃ d, DataT J7 v d ∧ Kx 20000 6 d := by
      intro v hv
      simp only [List.mem_cons, List.not_mem_nil, or_false] at hv
      rcases hv with rfl | rfl | rfl | rfl | rfl
      · obtain ⟨d, h1, h2⟩ := rw7.tup g_t1 (by omega)
        exact ⟨d, .inl h1, h2.mono (by decide) (by decide)⟩
      · obtain ⟨d, h1, h2⟩ := Rw.lst (H := J7) (vs := zs.reverse) (fun v hv => rw7 v (List.mem_reverse.mp hv)) g_t2 (by simp; omega)
        exact ⟨d, .inl h1, h2.mono (by decide) (by decide)⟩
      · obtain ⟨d, h1, h2⟩ := rw7.lst hf4 (by omega)
        exact ⟨_, .inl (.lst g_t3 (.cons h1 .nil)), (kx_list (n := 5000) (e := 4) (m := 6000) (by simpa using h2) (by simp)).mono (by decide) (by decide)⟩
      · obtain ⟨d, h1, h2⟩ := dictT_of g_t4 (merge_mem kvs [] (fun p hp => by simp at hp) ok) (by simp at ml; omega)
        exact ⟨d, h1, h2.mono (by decide) (by decide)⟩
      · obtain ⟨d, h1, h2⟩ := (rw7.app rw7).lst g_t5 (by simp; omega)
        exact ⟨d, .inl h1, h2.mono (by decide) (by decide)⟩
    obtain ⟨v, d, hat, hd, kd⟩ := pickX all (i := od % 5) (Int.emod_nonneg _ (by decide)) (by simpa using Int.emod_lt_of_pos od (show (0 : Int) < 5 by decide))
    exact ⟨_, rfl, _, _, rfl, rfl, (show (0 : Int) < 5 by decide), l, _, _, _, rfl, rfl, SqL.of g_l, hat, fin v d J7 hd kd sA⟩
  -- 6
  refine ⟨lz 0 rfl, fun e1 he1 => ?_⟩
  have s_J1 := same_new he1 (.tup [])
  have g_e1 : upd J0 e1 (.tup []) e1 = some (.tup []) := upd_same
  generalize upd J0 e1 (.tup []) = J1 at s_J1 g_e1 ⊢
  intro e2 he2
  have s_J2 := same_new he2 (.dK [])
  have g_e2 : upd J1 e2 (.dK []) e2 = some (.dK []) := upd_same
  generalize upd J1 e2 (.dK []) = J2 at s_J2 g_e2 ⊢
  refine ⟨lz 0 rfl, fun e3 he3 => ?_⟩
  have s_J3 := same_new he3 (.lst [])
  have g_e3 : upd J2 e3 (.lst []) e3 = some (.lst []) := upd_same
  generalize upd J2 e3 (.lst []) = J3 at s_J3 g_e3 ⊢
  refine ⟨lz 1 rfl, fun e4 he4 => ?_⟩
  have s_J4 := same_new he4 (.lst [.ref e3])
  have g_e4 : upd J3 e4 (.lst [.ref e3]) e4 = some (.lst [.ref e3]) := upd_same
  generalize upd J3 e4 (.lst [.ref e3]) = J4 at s_J4 g_e4 ⊢
  refine ⟨lz 0 rfl, fun e5 he5 => ?_⟩
  have s_J5 := same_new he5 (.tup [])
  have g_e5 : upd J4 e5 (.tup []) e5 = some (.tup []) := upd_same
  generalize upd J4 e5 (.tup []) = J5 at s_J5 g_e5 ⊢
  refine ⟨lz 1 rfl, fun e6 he6 => ?_⟩
  have s_J6 := same_new he6 (.lst [.ref e5])
  have g_e6 : upd J5 e6 (.lst [.ref e5]) e6 = some (.lst [.ref e5]) := upd_same
  generalize upd J5 e6 (.lst [.ref e5]) = J6 at s_J6 g_e6 ⊢
  refine ⟨lz 1 rfl, fun e7 he7 => ?_⟩
  have s_J7 := same_new he7 (.lst [.non])
  have g_e7 : upd J6 e7 (.lst [.non]) e7 = some (.lst [.non]) := upd_same
  generalize upd J6 e7 (.lst [.non]) = J7 at s_J7 g_e7 ⊢
  refine ⟨lz 2 rfl, fun e8 he8 => ?_⟩
  have s_J8 := same_new he8 (.tup [.int 0, .int 1])
  have g_e8 : upd J7 e8 (.tup [.int 0, .int 1]) e8 = some (.tup [.int 0, .int 1]) := upd_same
  generalize upd J7 e8 (.tup [.int 0, .int 1]) = J8 at s_J8 g_e8 ⊢
  refine ⟨lz 1 rfl, fun e9 he9 => ?_⟩
  have s_J9 := same_new he9 (.lst [.ref e8])
  have g_e9 : upd J8 e9 (.lst [.ref e8]) e9 = some (.lst [.ref e8]) := upd_same
  generalize upd J8 e9 (.lst [.ref e8]) = J9 at s_J9 g_e9 ⊢
  refine ⟨lz 2 rfl, fun e10 he10 => ?_⟩
  have s_J10 := same_new he10 (.tup [.int 0, .int 0])
  have g_e10 : upd J9 e10 (.tup [.int 0, .int 0]) e10 = some (.tup [.int 0, .int 0]) := upd_same
  generalize upd J9 e10 (.tup [.int 0, .int 0]) = J10 at s_J10 g_e10 ⊢
  refine ⟨lz 1 rfl, fun e11 he11 => ?_⟩
  have s_J11 := same_new he11 (.lst [.ref e10])
  have g_e11 : upd J10 e11 (.lst [.ref e10]) e11 = some (.lst [.ref e10]) := upd_same
  generalize upd J10 e11 (.lst [.ref e10]) = J11 at s_J11 g_e11 ⊢
  refine ⟨lz 2 rfl, fun e12 he12 => ?_⟩
  have s_J12 := same_new he12 (.tup [.int 1, .int 0])
  have g_e12 : upd J11 e12 (.tup [.int 1, .int 0]) e12 = some (.tup [.int 1, .int 0]) := upd_same
  generalize upd J11 e12 (.tup [.int 1, .int 0]) = J12 at s_J12 g_e12 ⊢
  refine ⟨lz 1 rfl, fun e13 he13 => ?_⟩
  have s_J13 := same_new he13 (.lst [.ref e12])
  have g_e13 : upd J12 e13 (.lst [.ref e12]) e13 = some (.lst [.ref e12]) := upd_same
  generalize upd J12 e13 (.lst [.ref e12]) = J13 at s_J13 g_e13 ⊢
  refine ⟨lz 14 rfl, fun l1 hl1 => ?_⟩
  have s_J14 := same_new hl1 (.lst [.non, .int 7, .bl true, .str "", .str "0 1", .ref e1, .ref e2, .ref e4, .ref e6, .ref e7, .ref e9, .ref e11, .ref e13, .int 0])
  have g_l1 : upd J13 l1 (.lst [.non, .int 7, .bl true, .str "", .str "0 1", .ref e1, .ref e2, .ref e4, .ref e6, .ref e7, .ref e9, .ref e11, .ref e13, .int 0]) l1 = some (.lst [.non, .int 7, .bl true, .str "", .str "0 1", .ref e1, .ref e2, .ref e4, .ref e6, .ref e7, .ref e9, .ref e11, .ref e13, .int 0]) := upd_same
  generalize upd J13 l1 (.lst [.non, .int 7, .bl true, .str "", .str "0 1", .ref e1, .ref e2, .ref e4, .ref e6, .ref e7, .ref e9, .ref e11, .ref e13, .int 0]) = J14 at s_J14 g_l1 ⊢
  refine ⟨_, rfl, lz 2 rfl, fun e14 he14 => ?_⟩
  have s_J15 := same_new he14 (.tup [.int 0, .int 1])
  have g_e14 : upd J14 e14 (.tup [.int 0, .int 1]) e14 = some (.tup [.int 0, .int 1]) := upd_same
  generalize upd J14 e14 (.tup [.int 0, .int 1]) = J15 at s_J15 g_e14 ⊢
  refine ⟨lz 1 rfl, fun e15 he15 => ?_⟩
  have s_J16 := same_new he15 (.tup [.ref e14])
  have g_e15 : upd J15 e15 (.tup [.ref e14]) e15 = some (.tup [.ref e14]) := upd_same
  generalize upd J15 e15 (.tup [.ref e14]) = J16 at s_J16 g_e15 ⊢
  refine ⟨lz 1 rfl, fun e16 he16 => ?_⟩
  have s_J17 := same_new he16 (.lst [.int 0])
  have g_e16 : upd J16 e16 (.lst [.int 0]) e16 = some (.lst [.int 0]) := upd_same
  generalize upd J16 e16 (.lst [.int 0]) = J17 at s_J17 g_e16 ⊢
  refine ⟨lz 2 rfl, fun l2 hl2 => ?_⟩
  have s_J18 := same_new hl2 (.lst [.ref e15, .ref e16])
  have g_l2 : upd J17 l2 (.lst [.ref e15, .ref e16]) l2 = some (.lst [.ref e15, .ref e16]) := upd_same
  generalize upd J17 l2 (.lst [.ref e15, .ref e16]) = J18 at s_J18 g_l2 ⊢
  have g_l1 := (s_J15.trans (s_J16.trans (s_J17.trans s_J18))) _ _ g_l1
  refine ⟨l1, l2, _, _, rfl, rfl, g_l1, g_l2, lz 16 rfl, fun l hl => ?_⟩
  have s_J19 := same_new hl (.lst ([.non, .int 7, .bl true, .str "", .str "0 1", .ref e1, .ref e2, .ref e4, .ref e6, .ref e7, .ref e9, .ref e11, .ref e13, .int 0] ++ [.ref e15, .ref e16]))
  have g_l : upd J18 l (.lst ([.non, .int 7, .bl true, .str "", .str "0 1", .ref e1, .ref e2, .ref e4, .ref e6, .ref e7, .ref e9, .ref e11, .ref e13, .int 0] ++ [.ref e15, .ref e16])) l = some (.lst ([.non, .int 7, .bl true, .str "", .str "0 1", .ref e1, .ref e2, .ref e4, .ref e6, .ref e7, .ref e9, .ref e11, .ref e13, .int 0] ++ [.ref e15, .ref e16])) := upd_same
  generalize upd J18 l (.lst ([.non, .int 7, .bl true, .str "", .str "0 1", .ref e1, .ref e2, .ref e4, .ref e6, .ref e7, .ref e9, .ref e11, .ref e13, .int 0] ++ [.ref e15, .ref e16])) = J19 at s_J19 g_l ⊢
  have g_e1 := (s_J2.trans (s_J3.trans (s_J4.trans (s_J5.trans (s_J6.trans (s_J7.trans (s_J8.trans (s_J9.trans (s_J10.trans (s_J11.trans (s_J12.trans (s_J13.trans (s_J14.trans (s_J15.trans (s_J16.trans (s_J17.trans (s_J18.trans s_J19))))))))))))))))) _ _ g_e1
  have g_e2 := (s_J3.trans (s_J4.trans (s_J5.trans (s_J6.trans (s_J7.trans (s_J8.trans (s_J9.trans (s_J10.trans (s_J11.trans (s_J12.trans (s_J13.trans (s_J14.trans (s_J15.trans (s_J16.trans (s_J17.trans (s_J18.trans s_J19)))))))))))))))) _ _ g_e2
  have g_e3 := (s_J4.trans (s_J5.trans (s_J6.trans (s_J7.trans (s_J8.trans (s_J9.trans (s_J10.trans (s_J11.trans (s_J12.trans (s_J13.trans (s_J14.trans (s_J15.trans (s_J16.trans (s_J17.trans (s_J18.trans s_J19))))))))))))))) _ _ g_e3
  have g_e4 := (s_J5.trans (s_J6.trans (s_J7.trans (s_J8.trans (s_J9.trans (s_J10.trans (s_J11.trans (s_J12.trans (s_J13.trans (s_J14.trans (s_J15.trans (s_J16.trans (s_J17.trans (s_J18.trans s_J19)))))))))))))) _ _ g_e4
  have g_e5 := (s_J6.trans (s_J7.trans (s_J8.trans (s_J9.trans (s_J10.trans (s_J11.trans (s_J12.trans (s_J13.trans (s_J14.trans (s_J15.trans (s_J16.trans (s_J17.trans (s_J18.trans s_J19))))))))))))) _ _ g_e5
  have g_e6 := (s_J7.trans (s_J8.trans (s_J9.trans (s_J10.trans (s_J11.trans (s_J12.trans (s_J13.trans (s_J14.trans (s_J15.trans (s_J16.trans (s_J17.trans (s_J18.trans s_J19)))))))))))) _ _ g_e6
  have g_e7 := (s_J8.trans (s_J9.trans (s_J10.trans (s_J11.trans (s_J12.trans (s_J13.trans (s_J14.trans (s_J15.trans (s_J16.trans (s_J17.trans (s_J18.trans s_J19))))))))))) _ _ g_e7
  have g_e8 := (s_J9.trans (s_J10.trans (s_J11.trans (s_J12.trans (s_J13.trans (s_J14.trans (s_J15.trans (s_J16.trans (s_J17.trans (s_J18.trans s_J19)))))))))) _ _ g_e8
  have g_e9 := (s_J10.trans (s_J11.trans (s_J12.trans (s_J13.trans (s_J14.trans (s_J15.trans (s_J16.trans (s_J17.trans (s_J18.trans s_J19))))))))) _ _ g_e9
  have g_e10 := (s_J11.trans (s_J12.trans (s_J13.trans (s_J14.trans (s_J15.trans (s_J16.trans (s_J17.trans (s_J18.trans s_J19)))))))) _ _ g_e10
  have g_e11 := (s_J12.trans (s_J13.trans (s_J14.trans (s_J15.trans (s_J16.trans (s_J17.trans (s_J18.trans s_J19))))))) _ _ g_e11
  have g_e12 := (s_J13.trans (s_J14.trans (s_J15.trans (s_J16.trans (s_J17.trans (s_J18.trans s_J19)))))) _ _ g_e12
  have g_e13 := (s_J14.trans (s_J15.trans (s_J16.trans (s_J17.trans (s_J18.trans s_J19))))) _ _ g_e13
  have g_e14 := (s_J16.trans (s_J17.trans (s_J18.trans s_J19))) _ _ g_e14
  have g_e15 := (s_J17.trans (s_J18.trans s_J19)) _ _ g_e15
  have g_e16 := (s_J18.trans s_J19) _ _ g_e16
  have sA : Same H4 J19 := s_J0.trans (s_J1.trans (s_J2.trans (s_J3.trans (s_J4.trans (s_J5.trans (s_J6.trans (s_J7.trans (s_J8.trans (s_J9.trans (s_J10.trans (s_J11.trans (s_J12.trans (s_J13.trans (s_J14.trans (s_J15.trans (s_J16.trans (s_J17.trans (s_J18.trans s_J19))))))))))))))))))
  have k1 : ∀ {H' : Hp} {a : Addr} {v : V} {d : PyData}, H' a = some (.lst [v]) → DataV H' v d → Kx 100 3 d → ∃ d, DataT H' (.ref a) d ∧ Kx 20000 6 d := fun {H' a v d} h h1 h2 => ⟨_, .inl (.lst h (.cons h1 .nil)), (kx_list (n := 100) (e := 3) (m := 200) (by simpa using h2) (by simp)).mono (by decide) (by decide)⟩
  have all : ∀ v ∈ ([.non, .int 7, .bl true, .str "", .str "0 1", .ref e1, .ref e2, .ref e4, .ref e6, .ref e7, .ref e9, .ref e11, .ref e13, .int 0] ++ [.ref e15, .ref e16] : List V), ∃ d, DataT J19 v d ∧ Kx 20000 6 d := by
    intro v hv
    simp only [List.cons_append, List.nil_append, List.mem_cons, List.not_mem_nil, or_false] at hv
    rcases hv with rfl | rfl | rfl | rfl | rfl | rfl | rfl | rfl | rfl | rfl | rfl | rfl | rfl | rfl | rfl | rfl
    · exact ⟨_, .inl .non, kx_none.mono (by decide) (by decide)⟩
    · exact ⟨_, .inl (.int _), (kx_int (by decide)).mono (by decide) (by decide)⟩
    · exact ⟨_, .inl (.bl _), (kx_bool _).mono (by decide) (by decide)⟩
    · exact ⟨_, .inl (.str _), (kx_str (x := "") (by decide)).mono (by decide) (by decide)⟩
    · exact ⟨_, .inl (.str _), (kx_str (x := "0 1") (by decide)).mono (by decide) (by decide)⟩
    · exact ⟨_, .inl (.tup g_e1 .nil), (kx_tup (n := 20) (e := 0) (m := 100) (by simp) (by simp)).mono (by decide) (by decide)⟩
    · exact ⟨_, .inl (.dict (ps := []) g_e2 .nil .nil), (kx_dict (n := 20) (e := 0) (m := 100) (by simp) (by simp)).mono (by decide) (by decide)⟩
    · exact k1 g_e4 (.lst g_e3 .nil) ((kx_list (n := 20) (e := 0) (m := 100) (by simp) (by simp)).mono (by decide) (by decide))
    · exact k1 g_e6 (.tup g_e5 .nil) ((kx_tup (n := 20) (e := 0) (m := 100) (by simp) (by simp)).mono (by decide) (by decide))
    · exact k1 g_e7 .non (kx_none.mono (by decide) (by decide))
    · obtain ⟨d, h1, h2⟩ := kP g_e8 (by decide) (by decide)
      exact k1 g_e9 h1 h2
    · obtain ⟨d, h1, h2⟩ := kP g_e10 (by decide) (by decide)
      exact k1 g_e11 h1 h2
    · obtain ⟨d, h1, h2⟩ := kP g_e12 (by decide) (by decide)
      exact k1 g_e13 h1 h2
    · exact ⟨_, .inl (.int _), (kx_int (by decide)).mono (by decide) (by decide)⟩
    · obtain ⟨d, h1, h2⟩ := kP g_e14 (by decide) (by decide)
      exact ⟨_, .inl (.tup g_e15 (.cons h1 .nil)), (kx_tup (n := 100) (e := 3) (m := 200) (by simpa using h2) (by simp)).mono (by decide) (by decide)⟩
    · exact k1 g_e16 (.int _) ((kx_int (by decide)).mono (by decide) (by decide))
  obtain ⟨v, d, hat, hd, kd⟩ := pickX all o0 (by simpa using o16)
  exact ⟨_, rfl, l, _, _, _, rfl, rfl, SqL.of g_l, hat, fin v d J19 hd kd sA⟩
end
end My

set_option Elab.async false
set_option linter.all false
set_option maxRecDepth 100000
set_option maxHeartbeats 1000000
namespace L2
open PySem PySem.Spec PyProof.Rows MA
/-- == of a list and the empty list -/
theorem op_eqEL {X : Cx} (hu : X.A.units < cLine) : OpR X (compareOp .Eq) (fun x y H Q => ∃ p q xs, x = .ref p ∧ y = .ref q ∧ H p = some (.lst xs) ∧ H q = some (.lst []) ∧ Q (.bl (decide (xs = []))) H) := by
  intro pins s σ H x y v u Q I rx ry h
  obtain ⟨p, q, xs, rfl, rfl, h1, h2, k⟩ := h
  cases rx
  cases ry
  obtain ⟨us, r1, t1, z1⟩ := I.list (SqL.of h1)
  obtain ⟨ws, r2, t2, z2⟩ := I.list (SqL.of h2)
  cases r2
  by_cases e : xs = []
  · subst e
    cases r1
    refine SeqAt.eq_listAt (e := fun _ => true) t1.isList t2.isList rfl hu (fun j a b => absurd a (by simp)) (fin_bl I k ?_)
    simp
  · have hl := r1.length
    refine SeqAt.eq_list_lengthsAt t1.isList t2.isList (by simp; intro z; rw [z] at hl; simp at hl; exact e hl) hu (fin_bl I k ?_)
    simp [e]
end L2
namespace My
open PySem L2 MA Srt PySem.Spec
theorem Alike.symm {a b : List Int} (h : Alike a b) : Alike b a := ⟨h.1.symm, h.2.symm⟩
section
variable {P : Program} {w : World} {K : PySem.W.Frag} {mg : Str → Option Value} {base : Heap}
theorem ok_law (T : Txt2 mg) (C_l_pen : Cal P w K mg base "_law_pen" ["_law_script"] 1 (spPen K)) (C_l_draw : Cal P w K mg base "_law_draw" ["_law_pen_here", "_law_many"] 1 spDraw) (C_l_load : Cal P w K mg base "_law_load" ["_law_pen_here", "_law_most"] 2 spLoad) (C_l_walk : Cal P w K mg base "_law_walk" ["_law_pen_here", "_law_other_here"] 2 spWalk)
    (C_lets_moves : Cal P w K mg base "lets_moves" ["one", "other", "thing"] 4 spLetsD) (C_l_leads : Cal P w K mg base "_law_leads" ["_law_one", "_law_other_here", "_law_thing_here"] 2 spLeadsD) (C_l_tells : Cal P w K mg base "_law_tells" ["_law_found", "_law_due"] 1 spTells) (C_l_thing : Cal P w K mg base "_law_thing" ["_law_pen_here", "_law_found", "_law_loads"] 2 spThing) (C_l_long_right : Cal P w K mg base "_law_long_right" ["_law_pen_here"] 5 spLong)
    {f : Addr} {fd : FuncData} (F : Fun K "law" "law" s_law f fd) : FnOk P w K mg base CX0 6 f fd ["_law_script"] (spLaw K) := by
  have S := sc_law
  refine F.ok sc_law (fun vs H Q E h => ?_) (fun cdv A outer s H vs Q E hr h => ?_)
  · obtain ⟨a, ns, rfl, _⟩ := h; rfl
  obtain ⟨a, ns, rfl, hS, h63, k⟩ := h
  have hu := hr.units0
  refine ⟨_, (@pss_cons _ _ _ _ _ (@ps_set _ _ (1) _ _ _ _ (by exact S.nd) (by rfl) (by first | exact Or.inl rfl | exact Or.inr rfl) (@cc _ _ _ _ _ _ _ _ _ _ (by exact C_l_pen) (by exact (hr.mono (by decide))) (@pa_consN _ _ _ _ _ (pv 0) pa_nil (by first|rfl|decide|exact .inl rfl|exact .inr rfl|(intros; rfl))) (by first|rfl|decide|exact .inl rfl|exact .inr rfl|(intros; rfl)) (by first|rfl|decide|exact .inl rfl|exact .inr rfl|(intros; rfl)) (by first|rfl|decide|exact .inl rfl|exact .inr rfl|(intros; rfl)) (by first|rfl|decide|exact .inl rfl|exact .inr rfl|(intros; rfl))) (by first|rfl|decide|exact .inl rfl|exact .inr rfl|(intros; rfl)) (by first|rfl|decide|exact .inl rfl|exact .inr rfl|(intros; rfl))) (@pss_cons _ _ _ _ _ (@ps_if _ _ _ _ _ _ _ _ (@pt_not _ _ _ _ (@pt_val _ _ _ (@cc _ _ _ _ _ _ _ _ _ _ (by exact C_l_long_right) (by exact (hr.mono (by decide))) (@pa_consN _ _ _ _ _ (pv 1) pa_nil (by first|rfl|decide|exact .inl rfl|exact .inr rfl|(intros; rfl))) (by first|rfl|decide|exact .inl rfl|exact .inr rfl|(intros; rfl)) (by first|rfl|decide|exact .inl rfl|exact .inr rfl|(intros; rfl)) (by first|rfl|decide|exact .inl rfl|exact .inr rfl|(intros; rfl)) (by first|rfl|decide|exact .inl rfl|exact .inr rfl|(intros; rfl))) (by first|rfl|decide|exact .inl rfl|exact .inr rfl|(intros; rfl)))) (@pss_one _ _ _ (@ps_ret _ _ _ _ pe_bl)) pss_nil) (@pss_cons _ _ _ _ _ (@ps_for _ _ _ _ _ _ _ _ (by exact PassesOwn.never) (by rfl) (@pi_range1 _ _ _ _ _ _ (by rfl) (by exact T.z_range) (@pa_consN _ _ _ _ _ pe_int pa_nil (by first|rfl|decide|exact .inl rfl|exact .inr rfl|(intros; rfl))) (by first|rfl|decide|exact .inl rfl|exact .inr rfl|(intros; rfl))) (@pg_name _ _ (2) _ (by exact S.nd) (by rfl) (by first | exact Or.inl rfl | exact Or.inr rfl) (by first|rfl|decide|exact .inl rfl|exact .inr rfl|(intros; rfl))) (@pss_cons _ _ _ _ _ (@ps_set _ _ (3) _ _ _ _ (by exact S.nd) (by rfl) (by first | exact Or.inl rfl | exact Or.inr rfl) (@cc _ _ _ _ _ _ _ _ _ _ (by exact C_l_load) (by exact (hr.mono (by decide))) (@pa_consN _ _ _ _ _ (pv 1) (@pa_consN _ _ _ _ _ pe_int pa_nil (by first|rfl|decide|exact .inl rfl|exact .inr rfl|(intros; rfl))) (by first|rfl|decide|exact .inl rfl|exact .inr rfl|(intros; rfl))) (by first|rfl|decide|exact .inl rfl|exact .inr rfl|(intros; rfl)) (by first|rfl|decide|exact .inl rfl|exact .inr rfl|(intros; rfl)) (by first|rfl|decide|exact .inl rfl|exact .inr rfl|(intros; rfl)) (by first|rfl|decide|exact .inl rfl|exact .inr rfl|(intros; rfl))) (by first|rfl|decide|exact .inl rfl|exact .inr rfl|(intros; rfl)) (by first|rfl|decide|exact .inl rfl|exact .inr rfl|(intros; rfl))) (@pss_cons _ _ _ _ _ (@ps_asg _ _ _ _ _ _ (@cc _ _ _ _ _ _ _ _ _ _ (by exact C_l_walk) (by exact (hr.mono (by decide))) (@pa_consN _ _ _ _ _ (pv 1) (@pa_consN _ _ _ _ _ (pv 3) pa_nil (by first|rfl|decide|exact .inl rfl|exact .inr rfl|(intros; rfl))) (by first|rfl|decide|exact .inl rfl|exact .inr rfl|(intros; rfl))) (by first|rfl|decide|exact .inl rfl|exact .inr rfl|(intros; rfl)) (by first|rfl|decide|exact .inl rfl|exact .inr rfl|(intros; rfl)) (by first|rfl|decide|exact .inl rfl|exact .inr rfl|(intros; rfl)) (by first|rfl|decide|exact .inl rfl|exact .inr rfl|(intros; rfl))) (@pg_tup _ _ _ _ _ _ (by rfl) (@pgs_cons _ _ _ _ _ (@pg_name _ _ (9) _ (by exact S.nd) (by rfl) (by first | exact Or.inl rfl | exact Or.inr rfl) (by first|rfl|decide|exact .inl rfl|exact .inr rfl|(intros; rfl))) (@pgs_cons _ _ _ _ _ (@pg_name _ _ (10) _ (by exact S.nd) (by rfl) (by first | exact Or.inl rfl | exact Or.inr rfl) (by first|rfl|decide|exact .inl rfl|exact .inr rfl|(intros; rfl))) pgs_nil (by first|rfl|decide|exact .inl rfl|exact .inr rfl|(intros; rfl))) (by first|rfl|decide|exact .inl rfl|exact .inr rfl|(intros; rfl))) (by first|rfl|decide|exact .inl rfl|exact .inr rfl|(intros; rfl)) (by first|rfl|decide|exact .inl rfl|exact .inr rfl|(intros; rfl))) (by first|rfl|decide|exact .inl rfl|exact .inr rfl|(intros; rfl)) (by first|rfl|decide|exact .inl rfl|exact .inr rfl|(intros; rfl)) (by first|rfl|decide|exact .inl rfl|exact .inr rfl|(intros; rfl))) (@pss_cons _ _ _ _ _ (@ps_set _ _ (4) _ _ _ _ (by exact S.nd) (by rfl) (by first | exact Or.inl rfl | exact Or.inr rfl) (@pe_ix _ _ _ _ _ _ _ ix_list (pv 10) (@pe_un _ _ _ _ _ _ un_neg pe_int) (by exact (fun _ _ => rfl))) (by first|rfl|decide|exact .inl rfl|exact .inr rfl|(intros; rfl)) (by first|rfl|decide|exact .inl rfl|exact .inr rfl|(intros; rfl))) (@pss_cons _ _ _ _ _ (@ps_if _ _ _ _ _ _ _ _ (@pt_cmpR _ _ _ _ _ _ _ _ op_isnotB (@cc _ _ _ _ _ _ _ _ _ _ (by exact C_lets_moves) (by exact (hr.mono (by decide))) (@pa_consN _ _ _ _ _ (pv 4) (@pa_consN _ _ _ _ _ (pv 3) (@pa_consN _ _ _ _ _ (pv 9) pa_nil (by first|rfl|decide|exact .inl rfl|exact .inr rfl|(intros; rfl))) (by first|rfl|decide|exact .inl rfl|exact .inr rfl|(intros; rfl))) (by first|rfl|decide|exact .inl rfl|exact .inr rfl|(intros; rfl))) (by first|rfl|decide|exact .inl rfl|exact .inr rfl|(intros; rfl)) (by first|rfl|decide|exact .inl rfl|exact .inr rfl|(intros; rfl)) (by first|rfl|decide|exact .inl rfl|exact .inr rfl|(intros; rfl)) (by first|rfl|decide|exact .inl rfl|exact .inr rfl|(intros; rfl))) pe_bl (by exact (nomark _))) (@pss_one _ _ _ (@ps_ret _ _ _ _ pe_bl)) pss_nil) (@pss_cons _ _ _ _ _ (@ps_if _ _ _ _ _ _ _ _ (@pt_not _ _ _ _ (@pt_val _ _ _ (@cc _ _ _ _ _ _ _ _ _ _ (by exact C_l_tells) (by exact (hr.mono (by decide))) (@pa_consN _ _ _ _ _ (@cc _ _ _ _ _ _ _ _ _ _ (by exact C_lets_moves) (by exact (hr.mono (by decide))) (@pa_consN _ _ _ _ _ (pv 3) (@pa_consN _ _ _ _ _ (pv 4) (@pa_consN _ _ _ _ _ (pv 9) pa_nil (by first|rfl|decide|exact .inl rfl|exact .inr rfl|(intros; rfl))) (by first|rfl|decide|exact .inl rfl|exact .inr rfl|(intros; rfl))) (by first|rfl|decide|exact .inl rfl|exact .inr rfl|(intros; rfl))) (by first|rfl|decide|exact .inl rfl|exact .inr rfl|(intros; rfl)) (by first|rfl|decide|exact .inl rfl|exact .inr rfl|(intros; rfl)) (by first|rfl|decide|exact .inl rfl|exact .inr rfl|(intros; rfl)) (by first|rfl|decide|exact .inl rfl|exact .inr rfl|(intros; rfl))) (@pa_consN _ _ _ _ _ (@pe_cmpR _ _ _ _ _ _ _ _ (op_eqEL hu) (pv 9) (@pe_lst _ _ _ _ pa_nil) (by exact (nomark _))) pa_nil (by first|rfl|decide|exact .inl rfl|exact .inr rfl|(intros; rfl))) (by first|rfl|decide|exact .inl rfl|exact .inr rfl|(intros; rfl))) (by first|rfl|decide|exact .inl rfl|exact .inr rfl|(intros; rfl)) (by first|rfl|decide|exact .inl rfl|exact .inr rfl|(intros; rfl)) (by first|rfl|decide|exact .inl rfl|exact .inr rfl|(intros; rfl)) (by first|rfl|decide|exact .inl rfl|exact .inr rfl|(intros; rfl))) (by first|rfl|decide|exact .inl rfl|exact .inr rfl|(intros; rfl)))) (@pss_one _ _ _ (@ps_ret _ _ _ _ pe_bl)) pss_nil) (@pss_cons _ _ _ _ _ (@ps_set _ _ (5) _ _ _ _ (by exact S.nd) (by rfl) (by first | exact Or.inl rfl | exact Or.inr rfl) (@cc _ _ _ _ _ _ _ _ _ _ (by exact C_l_thing) (by exact (hr.mono (by decide))) (@pa_consN _ _ _ _ _ (pv 1) (@pa_consN _ _ _ _ _ (pv 9) (@pa_consN _ _ _ _ _ (pv 10) pa_nil (by first|rfl|decide|exact .inl rfl|exact .inr rfl|(intros; rfl))) (by first|rfl|decide|exact .inl rfl|exact .inr rfl|(intros; rfl))) (by first|rfl|decide|exact .inl rfl|exact .inr rfl|(intros; rfl))) (by first|rfl|decide|exact .inl rfl|exact .inr rfl|(intros; rfl)) (by first|rfl|decide|exact .inl rfl|exact .inr rfl|(intros; rfl)) (by first|rfl|decide|exact .inl rfl|exact .inr rfl|(intros; rfl)) (by first|rfl|decide|exact .inl rfl|exact .inr rfl|(intros; rfl))) (by first|rfl|decide|exact .inl rfl|exact .inr rfl|(intros; rfl)) (by first|rfl|decide|exact .inl rfl|exact .inr rfl|(intros; rfl))) (@pss_cons _ _ _ _ _ (@ps_set _ _ (6) _ _ _ _ (by exact S.nd) (by rfl) (by first | exact Or.inl rfl | exact Or.inr rfl) (@pe_callB _ _ _ _ _ _ _ _ _ (call_reprT hr) (by rfl) (by exact T.z_repr) (by exact bt_repr) (@pa_consN _ _ _ _ _ (pv 5) pa_nil (by first|rfl|decide|exact .inl rfl|exact .inr rfl|(intros; rfl))) (by first|rfl|decide|exact .inl rfl|exact .inr rfl|(intros; rfl)) (by first|rfl|decide|exact .inl rfl|exact .inr rfl|(intros; rfl)) (by first|rfl|decide|exact .inl rfl|exact .inr rfl|(intros; rfl)) (by first|rfl|decide|exact .inl rfl|exact .inr rfl|(intros; rfl))) (by first|rfl|decide|exact .inl rfl|exact .inr rfl|(intros; rfl)) (by first|rfl|decide|exact .inl rfl|exact .inr rfl|(intros; rfl))) (@pss_cons _ _ _ _ _ (@ps_set _ _ (7) _ _ _ _ (by exact S.nd) (by rfl) (by first | exact Or.inl rfl | exact Or.inr rfl) (@cc _ _ _ _ _ _ _ _ _ _ (by exact C_l_leads) (by exact (hr.mono (by decide))) (@pa_consN _ _ _ _ _ (pv 4) (@pa_consN _ _ _ _ _ (pv 3) (@pa_consN _ _ _ _ _ (pv 5) pa_nil (by first|rfl|decide|exact .inl rfl|exact .inr rfl|(intros; rfl))) (by first|rfl|decide|exact .inl rfl|exact .inr rfl|(intros; rfl))) (by first|rfl|decide|exact .inl rfl|exact .inr rfl|(intros; rfl))) (by first|rfl|decide|exact .inl rfl|exact .inr rfl|(intros; rfl)) (by first|rfl|decide|exact .inl rfl|exact .inr rfl|(intros; rfl)) (by first|rfl|decide|exact .inl rfl|exact .inr rfl|(intros; rfl)) (by first|rfl|decide|exact .inl rfl|exact .inr rfl|(intros; rfl))) (by first|rfl|decide|exact .inl rfl|exact .inr rfl|(intros; rfl)) (by first|rfl|decide|exact .inl rfl|exact .inr rfl|(intros; rfl))) (@pss_cons _ _ _ _ _ (@ps_if _ _ _ _ _ _ _ _ (@PW.pt _ _ _ (@pw_or _ _ _ _ _ _ _ (@pt_not _ _ _ _ (@pt_val _ _ _ (@cc _ _ _ _ _ _ _ _ _ _ (by exact C_l_tells) (by exact (hr.mono (by decide))) (@pa_consN _ _ _ _ _ (@cc _ _ _ _ _ _ _ _ _ _ (by exact C_lets_moves) (by exact (hr.mono (by decide))) (@pa_consN _ _ _ _ _ (pv 4) (@pa_consN _ _ _ _ _ (pv 3) (@pa_consN _ _ _ _ _ (pv 5) pa_nil (by first|rfl|decide|exact .inl rfl|exact .inr rfl|(intros; rfl))) (by first|rfl|decide|exact .inl rfl|exact .inr rfl|(intros; rfl))) (by first|rfl|decide|exact .inl rfl|exact .inr rfl|(intros; rfl))) (by first|rfl|decide|exact .inl rfl|exact .inr rfl|(intros; rfl)) (by first|rfl|decide|exact .inl rfl|exact .inr rfl|(intros; rfl)) (by first|rfl|decide|exact .inl rfl|exact .inr rfl|(intros; rfl)) (by first|rfl|decide|exact .inl rfl|exact .inr rfl|(intros; rfl))) (@pa_consN _ _ _ _ _ (pv 7) pa_nil (by first|rfl|decide|exact .inl rfl|exact .inr rfl|(intros; rfl))) (by first|rfl|decide|exact .inl rfl|exact .inr rfl|(intros; rfl))) (by first|rfl|decide|exact .inl rfl|exact .inr rfl|(intros; rfl)) (by first|rfl|decide|exact .inl rfl|exact .inr rfl|(intros; rfl)) (by first|rfl|decide|exact .inl rfl|exact .inr rfl|(intros; rfl)) (by first|rfl|decide|exact .inl rfl|exact .inr rfl|(intros; rfl))) (by first|rfl|decide|exact .inl rfl|exact .inr rfl|(intros; rfl)))) (@pw_or1 _ _ _ _ (@pt_cmpR _ _ _ _ _ _ _ _ op_ne (@pe_callB _ _ _ _ _ _ _ _ _ (call_reprT hr) (by rfl) (by exact T.z_repr) (by exact bt_repr) (@pa_consN _ _ _ _ _ (pv 5) pa_nil (by first|rfl|decide|exact .inl rfl|exact .inr rfl|(intros; rfl))) (by first|rfl|decide|exact .inl rfl|exact .inr rfl|(intros; rfl)) (by first|rfl|decide|exact .inl rfl|exact .inr rfl|(intros; rfl)) (by first|rfl|decide|exact .inl rfl|exact .inr rfl|(intros; rfl)) (by first|rfl|decide|exact .inl rfl|exact .inr rfl|(intros; rfl))) (pv 6) (by exact (nomark _)))))) (@pss_one _ _ _ (@ps_ret _ _ _ _ pe_bl)) pss_nil) (@pss_cons _ _ _ _ _ (@ps_set _ _ (8) _ _ _ _ (by exact S.nd) (by rfl) (by first | exact Or.inl rfl | exact Or.inr rfl) (@pe_ix _ _ _ _ _ _ _ ix_list (pv 10) (@cc _ _ _ _ _ _ _ _ _ _ (by exact C_l_draw) (by exact (hr.mono (by decide))) (@pa_consN _ _ _ _ _ (pv 1) (@pa_consN _ _ _ _ _ (@pe_callB _ _ _ _ _ _ _ _ _ call_len_seq (by rfl) (by exact T.z_len) (by exact bt_len) (@pa_consN _ _ _ _ _ (pv 10) pa_nil (by first|rfl|decide|exact .inl rfl|exact .inr rfl|(intros; rfl))) (by first|rfl|decide|exact .inl rfl|exact .inr rfl|(intros; rfl)) (by first|rfl|decide|exact .inl rfl|exact .inr rfl|(intros; rfl)) (by first|rfl|decide|exact .inl rfl|exact .inr rfl|(intros; rfl)) (by first|rfl|decide|exact .inl rfl|exact .inr rfl|(intros; rfl))) pa_nil (by first|rfl|decide|exact .inl rfl|exact .inr rfl|(intros; rfl))) (by first|rfl|decide|exact .inl rfl|exact .inr rfl|(intros; rfl))) (by first|rfl|decide|exact .inl rfl|exact .inr rfl|(intros; rfl)) (by first|rfl|decide|exact .inl rfl|exact .inr rfl|(intros; rfl)) (by first|rfl|decide|exact .inl rfl|exact .inr rfl|(intros; rfl)) (by first|rfl|decide|exact .inl rfl|exact .inr rfl|(intros; rfl))) (by exact (fun _ _ => rfl))) (by first|rfl|decide|exact .inl rfl|exact .inr rfl|(intros; rfl)) (by first|rfl|decide|exact .inl rfl|exact .inr rfl|(intros; rfl))) (@pss_one _ _ _ (@ps_if _ _ _ _ _ _ _ _ (@pt_not _ _ _ _ (@pt_val _ _ _ (@cc _ _ _ _ _ _ _ _ _ _ (by exact C_l_tells) (by exact (hr.mono (by decide))) (@pa_consN _ _ _ _ _ (@cc _ _ _ _ _ _ _ _ _ _ (by exact C_lets_moves) (by exact (hr.mono (by decide))) (@pa_consN _ _ _ _ _ (pv 8) (@pa_consN _ _ _ _ _ (pv 3) (@pa_consN _ _ _ _ _ (pv 9) pa_nil (by first|rfl|decide|exact .inl rfl|exact .inr rfl|(intros; rfl))) (by first|rfl|decide|exact .inl rfl|exact .inr rfl|(intros; rfl))) (by first|rfl|decide|exact .inl rfl|exact .inr rfl|(intros; rfl))) (by first|rfl|decide|exact .inl rfl|exact .inr rfl|(intros; rfl)) (by first|rfl|decide|exact .inl rfl|exact .inr rfl|(intros; rfl)) (by first|rfl|decide|exact .inl rfl|exact .inr rfl|(intros; rfl)) (by first|rfl|decide|exact .inl rfl|exact .inr rfl|(intros; rfl))) (@pa_consN _ _ _ _ _ (@cc _ _ _ _ _ _ _ _ _ _ (by exact C_l_leads) (by exact (hr.mono (by decide))) (@pa_consN _ _ _ _ _ (pv 8) (@pa_consN _ _ _ _ _ (pv 3) (@pa_consN _ _ _ _ _ (pv 9) pa_nil (by first|rfl|decide|exact .inl rfl|exact .inr rfl|(intros; rfl))) (by first|rfl|decide|exact .inl rfl|exact .inr rfl|(intros; rfl))) (by first|rfl|decide|exact .inl rfl|exact .inr rfl|(intros; rfl))) (by first|rfl|decide|exact .inl rfl|exact .inr rfl|(intros; rfl)) (by first|rfl|decide|exact .inl rfl|exact .inr rfl|(intros; rfl)) (by first|rfl|decide|exact .inl rfl|exact .inr rfl|(intros; rfl)) (by first|rfl|decide|exact .inl rfl|exact .inr rfl|(intros; rfl))) pa_nil (by first|rfl|decide|exact .inl rfl|exact .inr rfl|(intros; rfl))) (by first|rfl|decide|exact .inl rfl|exact .inr rfl|(intros; rfl))) (by first|rfl|decide|exact .inl rfl|exact .inr rfl|(intros; rfl)) (by first|rfl|decide|exact .inl rfl|exact .inr rfl|(intros; rfl)) (by first|rfl|decide|exact .inl rfl|exact .inr rfl|(intros; rfl)) (by first|rfl|decide|exact .inl rfl|exact .inr rfl|(intros; rfl))) (by first|rfl|decide|exact .inl rfl|exact .inr rfl|(intros; rfl)))) (@pss_one _ _ _ (@ps_ret _ _ _ _ pe_bl)) pss_nil)))))))))))) (by first|rfl|decide|exact .inl rfl|exact .inr rfl|(intros; rfl))) (@pss_one _ _ _ (@ps_ret _ _ _ _ pe_bl))))), ?_⟩
  refine ⟨_, rfl, a, ns, rfl, hS, fun p H0 s0 pen0 => ?_⟩
  refine ⟨_, rfl, p, _, rfl, pen0, by decide, fun H1 pen1 x1 => ⟨_, rfl, iteF ?_⟩⟩
  refine ⟨12, rfl, by decide, by decide, for_range (n := 12) (fun i σ H2 => (∃ o2 o3 o4 o5 o6 o7 o8 o9 o10, σ = [some (.ref a), some (.ref p), o2, o3, o4, o5, o6, o7, o8, o9, o10]) ∧ Pen H2 p (2002 + 30 * i)) ⟨⟨_, _, _, _, _, _, _, _, _, rfl⟩, pen1⟩ ?_ ?_⟩
  · rintro i σ H2 hi ⟨⟨o2, o3, o4, o5, o6, o7, o8, o9, o10, rfl⟩, pen⟩
    refine ⟨_, rfl, p, _, 40, rfl, by decide, by decide, pen, by omega, fun b1 n1 H3 h1 ld pen3 x3 => ?_⟩
    obtain ⟨l1, l6, _, _⟩ := ld
    refine ⟨_, rfl, _, rfl, p, b1, _, n1, rfl, pen3, by omega, h1, by omega, fun t lf ll zs ys ps ls H4 ht hf hl pr lds wk few pen4 x4 => ?_⟩
    refine ⟨t, _, rfl, SqT.of ht, rfl, _, _, rfl, _, _, rfl, rfl, ?_⟩
    have h14 := pen3.keep x4 h1
    obtain ⟨one, e1, _⟩ := wk.last
    have al1 := wk.al one (List.mem_of_getElem? e1)
    have zl : zs.length = ps.length := Paired.length pr
    have yl : ys.length = ps.length + 1 := by rw [Paired.length lds]; exact wk.len
    obtain ⟨y1, hy1⟩ : ∃ y, ys[ps.length]? = some y := ⟨_, List.getElem?_eq_getElem (by omega)⟩
    obtain ⟨one', e1', bo, rfl, hbo⟩ := paired_get lds hy1
    rw [e1] at e1'
    cases e1'
    have last : atI ys (-1) = some (.ref bo) := by
      rcases List.eq_nil_or_concat ys with z | ⟨ys', q, z⟩
      · rw [z] at yl; simp at yl
      · rw [List.concat_eq_append] at z
        subst z
        rw [atI_last]
        have : ys'.length = ps.length := by simpa using yl
        rw [← this] at hy1
        simpa using hy1
    refine ⟨_, rfl, _, rfl, ll, _, _, _, rfl, rfl, SqL.of hl, last, ?_⟩
    have dl : DataL H4 zs (ps.map dp) := Prs.data pr
    have dv : DataV H4 (.ref lf) (.list (ps.map dp)) := .lst hf dl
    refine ⟨_, rfl, _, rfl, _, rfl, bo, b1, .ref lf, one, n1, _, rfl, hbo, h14, by omega, al1, .inl dv, fun H5 s5 => ?_⟩
    rw [wk.forth e1]
    refine ⟨_, _, rfl, rfl, _, rfl, iteF ?_⟩
    refine ⟨_, rfl, _, rfl, _, rfl, b1, bo, .ref lf, n1, one, _, rfl, s5 _ _ h14, s5 _ _ hbo, by rw [al1.1]; omega, al1.symm, .inl (dv.same s5), fun H6 s6 => ?_⟩
    rw [wk.back e1]
    refine ⟨_, rfl, lz 0 rfl, fun le hle => ?_⟩
    have s_H7 := same_new hle (.lst [])
    have g_le : upd H6 le (.lst []) le = some (.lst []) := upd_same
    generalize upd H6 le (.lst []) = H7 at s_H7 g_le ⊢
    have s47 : Same H4 H7 := s5.trans (s6.trans s_H7)
    refine ⟨lf, le, zs, rfl, rfl, s47 _ _ hf, g_le, ?_⟩
    have ez : decide (zs = []) = decide (ps = []) := by
      have : zs = [] ↔ ps = [] := by rw [← List.length_eq_zero_iff, zl, List.length_eq_zero_iff]
      simp [this]
    rw [ez]
    refine ⟨_, rfl, _, rfl, iteF ?_⟩
    have k7 : ∀ b ys, H4 b = some (.tup ys) → H7 b = some (.tup ys) := fun b ys e => s47 _ _ e
    have pen7 := pen4.same s47
    have hl7 := s47 _ _ hl
    have hf7 := s47 _ _ hf
    refine ⟨_, rfl, _, rfl, _, rfl, p, lf, ll, zs, ys, ps, ls, n1, _, rfl, pen7, by omega, hf7, hl7, prs_imp k7 pr, Lds.imp k7 lds, wk, l1, by omega, few, fun v d H8 dvt kd pen8 x8 => ?_⟩
    have kx : d.showable = true ∧ d.depth ≤ 20 ∧ d.shown.length ≤ sizeLine := ⟨kd.sh, Nat.le_trans kd.dp (by decide), kd.ln (by decide)⟩
    obtain ⟨sh, ht'⟩ : ∃ x, x = d.shown := ⟨_, rfl⟩
    rw [← ht'] at kx
    have hbo8 := pen7.keep x8 (k7 _ _ hbo)
    have h18 := pen7.keep x8 (k7 _ _ h14)
    refine ⟨_, rfl, v, d, rfl, dvt, kx.1, kx.2.1, ht' ▸ kx.2.2, ?_⟩
    rw [← ht']
    refine ⟨_, rfl, _, rfl, _, rfl, bo, b1, v, one, n1, d, rfl, hbo8, h18, by omega, dvt, fun H9 s9 => ?_⟩
    refine ⟨_, rfl, _, rfl, _, rfl, bo, b1, v, one, n1, d, rfl, s9 _ _ hbo8, s9 _ _ h18, by omega, al1, DataT.same dvt s9, fun H10 s10 => ?_⟩
    refine ⟨_, rfl, _, rfl, _, rfl, iteF ?_⟩
    have s810 := s9.trans s10
    refine ⟨_, rfl, v, d, rfl, DataT.same dvt s810, kx.1, kx.2.1, ht' ▸ kx.2.2, ?_⟩
    rw [← ht']
    refine ⟨_, rfl, rfl, _, rfl, iteNS rfl ?_⟩
    have pen10 := pen8.same s810
    have hl10 := s810 _ _ (pen7.keep x8 hl7)
    refine ⟨_, rfl, _, rfl, _, rfl, ll, ys, rfl, .inl (SqL.of hl10), p, _, _, rfl, pen10, by omega, by omega, by omega, fun r H11 r0 r1 pen11 x11 => ?_⟩
    obtain ⟨r', rfl⟩ : ∃ r' : Nat, r = (r' : Int) := ⟨r.toNat, by omega⟩
    obtain ⟨yr, hyr⟩ : ∃ y, ys[r']? = some y := ⟨_, List.getElem?_eq_getElem (by omega)⟩
    have x711 := x8.trans ((Same.x s810).trans x11)
    have k11 : ∀ b ys, H4 b = some (.tup ys) → H11 b = some (.tup ys) := fun b ys e => pen7.keep x711 (k7 _ _ e)
    have lds11 := Lds.imp k11 lds
    obtain ⟨nr, enr, br, rfl, hbr⟩ := paired_get lds11 hyr
    have alr := wk.al nr (List.mem_of_getElem? enr)
    have hl11 := pen7.keep x711 hl7
    have hf11 := pen7.keep x711 hf7
    have h111 := k11 _ _ h14
    have dv11 : DataV H11 (.ref lf) (.list (ps.map dp)) := .lst hf11 (Prs.data (prs_imp k11 pr))
    refine ⟨ll, _, _, _, rfl, rfl, SqL.of hl11, atI_nat hyr, ?_⟩
    refine ⟨_, rfl, _, rfl, _, rfl, br, b1, .ref lf, nr, n1, _, rfl, hbr, h111, by omega, alr, .inl dv11, fun H12 s12 => ?_⟩
    refine ⟨_, rfl, _, rfl, _, rfl, br, b1, .ref lf, nr, n1, _, rfl, s12 _ _ hbr, s12 _ _ h111, by omega, .inl (dv11.same s12), fun H13 s13 => ?_⟩
    refine ⟨_, rfl, _, rfl, iteF ?_⟩
    exact ⟨⟨_, _, _, _, _, _, _, _, _, rfl⟩, (pen11.same (s12.trans s13)).mono (by omega)⟩
  · rintro σ H2 ⟨⟨o2, o3, o4, o5, o6, o7, o8, o9, o10, rfl⟩, pen⟩
    exact k H2
end
end My

set_option Elab.async false
set_option linter.all false
set_option maxRecDepth 100000
set_option maxHeartbeats 4000000
namespace My
open PySem L2 MA
structure Funs (K : PySem.W.Frag) (mg : Str → Option Value) : Prop where
  f_is_whole : FunAt K mg "is_whole" ["thing"] s_is_whole
  f_is_two_places : FunAt K mg "is_two_places" ["thing", "many"] s_is_two_places
  f_falling : FunAt K mg "falling" ["numbers"] s_falling
  f_ask_alike : FunAt K mg "ask_alike" ["one", "other"] s_ask_alike
  f_can_move : FunAt K mg "can_move" ["load", "thing"] s_can_move
  f_moved : FunAt K mg "moved" ["load", "move"] s_moved
  f_lets_moves : FunAt K mg "lets_moves" ["one", "other", "thing"] s_lets_moves
  f_l_pen : FunAt K mg "_law_pen" ["_law_script"] s_l_pen
  f_l_draw : FunAt K mg "_law_draw" ["_law_pen_here", "_law_many"] s_l_draw
  f_l_is_whole : FunAt K mg "_law_is_whole" ["_law_thing_here"] s_l_is_whole
  f_l_tells : FunAt K mg "_law_tells" ["_law_found", "_law_due"] s_l_tells
  f_l_load : FunAt K mg "_law_load" ["_law_pen_here", "_law_most"] s_l_load
  f_l_moved : FunAt K mg "_law_moved" ["_law_load_here", "_law_i", "_law_j"] s_l_moved
  f_l_can : FunAt K mg "_law_can" ["_law_load_here"] s_l_can
  f_l_leads : FunAt K mg "_law_leads" ["_law_one", "_law_other_here", "_law_thing_here"] s_l_leads
  f_l_walk : FunAt K mg "_law_walk" ["_law_pen_here", "_law_other_here"] s_l_walk
  f_l_idle : FunAt K mg "_law_idle" ["_law_load_here", "_law_odd"] s_l_idle
  f_l_odd_move : FunAt K mg "_law_odd_move" ["_law_move", "_law_odd"] s_l_odd_move
  f_l_thing : FunAt K mg "_law_thing" ["_law_pen_here", "_law_found", "_law_loads"] s_l_thing
  f_l_little_steps : FunAt K mg "_law_little_steps" ["_law_pen_here", "_law_other_here"] s_l_little_steps
  f_l_long_right : FunAt K mg "_law_long_right" ["_law_pen_here"] s_l_long_right
theorem all_mk {l : PySem.W.OpenLaw} {w : World} {K : PySem.W.Frag} {h : Heap} {mg : Str → Option Value} {fa f3 : Addr} (X : K.In h) (G : h.Ns mainGlobals mg) (hfa : mg "law" = some (.ref fa))
    {od3 an3 : Option Addr} {sl3 : Array (Option Value)} {oc3 kV3 dc3 pm3 cd3 ct3 : Value} (T : Txt2 mg) (FA : Funs K mg)
    (a3 : PySem.W.nsIn K mainGlobals "law" = some (some (.ref f3))) (l3 : K.lookup f3 = some ⟨oc3, od3, .func (PySem.W.fnOf "law" "law" (defArgs s_law) (defBody s_law) (defScope s_law) .none kV3 dc3 pm3 an3 cd3 ct3), sl3⟩) (c3 : PySem.W.codeIn K cd3 "law" = true) (k3 : PySem.W.keepIn K (.ref f3) = true) :
    ∃ fd : FuncData, (∀ (s : Shared) (v : Value), BindsTo s fd ⟨[v], []⟩ [("_law_script", v)]) ∧ ∀ base : Heap, K.In base → base.Ns mainGlobals mg → FnOk l.prog w K mg base CX0 6 fa fd ["_law_script"] (spLaw K) := by
  have e := hfa.symm.trans (PySem.W.mg_of X G a3)
  cases e
  have F3 := fun_mk (st := s_law) l3 c3 k3
  refine ⟨PySem.W.fnOf "law" "law" (defArgs s_law) (defBody s_law) (defScope s_law) .none kV3 dc3 pm3 an3 cd3 ct3, fun s v => .of_eq rfl, fun base _ _ => ?_⟩
  have c_whole := ok_wholeV (P := l.prog) (w := w) (base := base) T FA.f_is_whole
  have c_two := ok_two T c_whole FA.f_is_two_places
  have c_falling := ok_falling (P := l.prog) (w := w) (base := base) T FA.f_falling
  have c_alike := ok_alike (P := l.prog) (w := w) (base := base) T FA.f_ask_alike
  have c_canD := ok_canD T c_two FA.f_can_move
  have c_moved := ok_moved T c_falling FA.f_moved
  have c_lets := ok_letsD T c_alike c_canD c_moved FA.f_lets_moves
  have c_pen := ok_pen (P := l.prog) (w := w) (base := base) FA.f_l_pen
  have c_draw := ok_draw (P := l.prog) (w := w) (base := base) T.toTxt FA.f_l_draw
  have c_lwhole := ok_lwholeV (P := l.prog) (w := w) (base := base) T FA.f_l_is_whole
  have c_tells := ok_tells (P := l.prog) (w := w) (base := base) T FA.f_l_tells
  have c_load := ok_load T c_draw FA.f_l_load
  have c_lmoved := ok_lmoved (P := l.prog) (w := w) (base := base) T FA.f_l_moved
  have c_can := ok_canX (P := l.prog) (w := w) (base := base) T FA.f_l_can
  have c_leads := ok_leads T c_lwhole c_can c_lmoved FA.f_l_leads
  have c_walk := ok_walk T c_draw c_can c_lmoved FA.f_l_walk
  have c_idle := ok_idle (P := l.prog) (w := w) (base := base) T FA.f_l_idle
  have c_odd := ok_odd (P := l.prog) (w := w) (base := base) T FA.f_l_odd_move
  have c_thing := ok_thing T c_draw c_idle c_odd FA.f_l_thing
  have c_little := ok_little T c_draw c_can c_lmoved FA.f_l_little_steps
  have c_long := ok_long T c_draw c_little c_lets c_leads c_tells FA.f_l_long_right
  exact ok_law T c_pen c_draw c_load c_walk c_lets c_leads c_tells c_thing c_long F3
theorem walk {l : PySem.W.OpenLaw} {q : Program} {loose : List Str} {XP : (Str → Option Value) → Heap → Prop} {YP : World → Heap → Prop} {d : DefRec} {K : Params → PySem.W.Frag} (hn : l.most = some 63) (hdf : d.params.defaults = [])
    (hY : ∀ (w : World) (h : Heap), YP w h → (K w.params).In h)
    (F : ∀ (w : World) (mg : Str → Option Value) (fa : Addr) (h : Heap), (K w.params).In h → h.Ns mainGlobals mg → mg d.name = some (.ref fa) →
      ∃ fd : FuncData, (∀ (s : Shared) (u : Value), BindsTo s fd ⟨[u], []⟩ [("_law_script", u)]) ∧ ∀ base : Heap, (K w.params).In base → base.Ns mainGlobals mg → FnOk l.prog w (K w.params) mg base CX0 6 fa fd ["_law_script"] (spLaw (K w.params))) :
    PySem.W.WalkO q loose XP YP l.row.toRowW d [] (fun f vs => PySem.call f vs) :=
  L2.walk_of (n := 63) (k := 6) (x := "_law_script") (CX := fun _ => CX0) (sp := fun w => spLaw (K w.params)) hn (by decide) hdf ⟨rfl, by decide, by decide, rfl⟩ hY F (fun _ _ a ns hl _ hS => ⟨a, ns, rfl, hS, hl, fun _ => rfl⟩) fun _ _ _ _ _ z => z
theorem txt_mk {K : PySem.W.Frag} {h : Heap} {mg : Str → Option Value} (X : K.In h) (G : h.Ns mainGlobals mg)
    (z_abs : PySem.W.nsIn K mainGlobals "abs" = some none)
    (z_len : PySem.W.nsIn K mainGlobals "len" = some none)
    (z_isinstance : PySem.W.nsIn K mainGlobals "isinstance" = some none)
    (z_range : PySem.W.nsIn K mainGlobals "range" = some none)
    (z_int : PySem.W.nsIn K mainGlobals "int" = some none)
    (z_bool : PySem.W.nsIn K mainGlobals "bool" = some none)
    (z_tuple : PySem.W.nsIn K mainGlobals "tuple" = some none)
    (z_list : PySem.W.nsIn K mainGlobals "list" = some none)
    (z_all : PySem.W.nsIn K mainGlobals "all" = some none)
    (z_str : PySem.W.nsIn K mainGlobals "str" = some none)
    (z_repr : PySem.W.nsIn K mainGlobals "repr" = some none)
    (z_dict : PySem.W.nsIn K mainGlobals "dict" = some none)
    (z_sum : PySem.W.nsIn K mainGlobals "sum" = some none)
    (z_sorted : PySem.W.nsIn K mainGlobals "sorted" = some none)
    (z_max : PySem.W.nsIn K mainGlobals "max" = some none)
    (z_min : PySem.W.nsIn K mainGlobals "min" = some none)
    (z_any : PySem.W.nsIn K mainGlobals "any" = some none)
    (z_enumerate : PySem.W.nsIn K mainGlobals "enumerate" = some none)
    (z_zip : PySem.W.nsIn K mainGlobals "zip" = some none)
    (z_set : PySem.W.nsIn K mainGlobals "set" = some none)
    (z_reversed : PySem.W.nsIn K mainGlobals "reversed" = some none)
    (z_ValueError : PySem.W.nsIn K mainGlobals "ValueError" = some none)
    : Txt2 mg := ⟨⟨PySem.W.mg_none_of X G z_abs, PySem.W.mg_none_of X G z_len, PySem.W.mg_none_of X G z_isinstance, PySem.W.mg_none_of X G z_range, PySem.W.mg_none_of X G z_int, PySem.W.mg_none_of X G z_bool, PySem.W.mg_none_of X G z_tuple, PySem.W.mg_none_of X G z_list, PySem.W.mg_none_of X G z_all⟩, PySem.W.mg_none_of X G z_str, PySem.W.mg_none_of X G z_repr, PySem.W.mg_none_of X G z_dict, PySem.W.mg_none_of X G z_sum, PySem.W.mg_none_of X G z_sorted, PySem.W.mg_none_of X G z_max, PySem.W.mg_none_of X G z_min, PySem.W.mg_none_of X G z_any, PySem.W.mg_none_of X G z_enumerate, PySem.W.mg_none_of X G z_zip, PySem.W.mg_none_of X G z_set, PySem.W.mg_none_of X G z_reversed, PySem.W.mg_none_of X G z_ValueError⟩
end My
open PySem PySem.W PyProof.Rows
set_option maxRecDepth 100000 in
set_option maxHeartbeats 0 in
theorem PySem.Challenge.cw_emptierbox_k12_moves_looked_at_holds : PySem.Challenge.rw_emptierbox_k12_moves_looked_at.Holds := by
  w_on; o_law; k_head; (case hw => w_witness2)
  k_fill
  refine My.walk (l := PySem.Challenge.rw_emptierbox_k12_moves_looked_at) rfl rfl (fun w h Y => PySem.W.kIn_of Y) ?F
  case F =>
    intro w mg fa h KX G hmg
    have T : My.Txt2 mg := by
      refine' My.txt_mk KX G ?z0 ?z1 ?z2 ?z3 ?z4 ?z5 ?z6 ?z7 ?z8 ?z9 ?z10 ?z11 ?z12 ?z13 ?z14 ?z15 ?z16 ?z17 ?z18 ?z19 ?z20 ?z21
      (case z0 => k_is)
      (case z1 => k_is)
      (case z2 => k_is)
      (case z3 => k_is)
      (case z4 => k_is)
      (case z5 => k_is)
      (case z6 => k_is)
      (case z7 => k_is)
      (case z8 => k_is)
      (case z9 => k_is)
      (case z10 => k_is)
      (case z11 => k_is)
      (case z12 => k_is)
      (case z13 => k_is)
      (case z14 => k_is)
      (case z15 => k_is)
      (case z16 => k_is)
      (case z17 => k_is)
      (case z18 => k_is)
      (case z19 => k_is)
      (case z20 => k_is)
      (case z21 => k_is)
    have f_is_whole : L2.FunAt (L2.KOf KX) mg "is_whole" ["thing"] My.s_is_whole := by
      dsimp only [L2.KOf]
      refine' L2.funAt_mk KX G (fun _ _ _ _ _ _ us hl => match us, hl with | [_], _ => rfl) ?a ?l ?c ?k
      (case a => k_is); (case l => k_is); (case c => k_is); (case k => k_is)
    have f_is_two_places : L2.FunAt (L2.KOf KX) mg "is_two_places" ["thing", "many"] My.s_is_two_places := by
      dsimp only [L2.KOf]
      refine' L2.funAt_mk KX G (fun _ _ _ _ _ _ us hl => match us, hl with | [_, _], _ => rfl) ?a ?l ?c ?k
      (case a => k_is); (case l => k_is); (case c => k_is); (case k => k_is)
    have f_falling : L2.FunAt (L2.KOf KX) mg "falling" ["numbers"] My.s_falling := by
      dsimp only [L2.KOf]
      refine' L2.funAt_mk KX G (fun _ _ _ _ _ _ us hl => match us, hl with | [_], _ => rfl) ?a ?l ?c ?k
      (case a => k_is); (case l => k_is); (case c => k_is); (case k => k_is)
    have f_ask_alike : L2.FunAt (L2.KOf KX) mg "ask_alike" ["one", "other"] My.s_ask_alike := by
      dsimp only [L2.KOf]
      refine' L2.funAt_mk KX G (fun _ _ _ _ _ _ us hl => match us, hl with | [_, _], _ => rfl) ?a ?l ?c ?k
      (case a => k_is); (case l => k_is); (case c => k_is); (case k => k_is)
    have f_can_move : L2.FunAt (L2.KOf KX) mg "can_move" ["load", "thing"] My.s_can_move := by
      dsimp only [L2.KOf]
      refine' L2.funAt_mk KX G (fun _ _ _ _ _ _ us hl => match us, hl with | [_, _], _ => rfl) ?a ?l ?c ?k
      (case a => k_is); (case l => k_is); (case c => k_is); (case k => k_is)
    have f_moved : L2.FunAt (L2.KOf KX) mg "moved" ["load", "move"] My.s_moved := by
      dsimp only [L2.KOf]
      refine' L2.funAt_mk KX G (fun _ _ _ _ _ _ us hl => match us, hl with | [_, _], _ => rfl) ?a ?l ?c ?k
      (case a => k_is); (case l => k_is); (case c => k_is); (case k => k_is)
    have f_lets_moves : L2.FunAt (L2.KOf KX) mg "lets_moves" ["one", "other", "thing"] My.s_lets_moves := by
      dsimp only [L2.KOf]
      refine' L2.funAt_mk KX G (fun _ _ _ _ _ _ us hl => match us, hl with | [_, _, _], _ => rfl) ?a ?l ?c ?k
      (case a => k_is); (case l => k_is); (case c => k_is); (case k => k_is)
    have f_l_pen : L2.FunAt (L2.KOf KX) mg "_law_pen" ["_law_script"] My.s_l_pen := by
      dsimp only [L2.KOf]
      refine' L2.funAt_mk KX G (fun _ _ _ _ _ _ us hl => match us, hl with | [_], _ => rfl) ?a ?l ?c ?k
      (case a => k_is); (case l => k_is); (case c => k_is); (case k => k_is)
    have f_l_draw : L2.FunAt (L2.KOf KX) mg "_law_draw" ["_law_pen_here", "_law_many"] My.s_l_draw := by
      dsimp only [L2.KOf]
      refine' L2.funAt_mk KX G (fun _ _ _ _ _ _ us hl => match us, hl with | [_, _], _ => rfl) ?a ?l ?c ?k
      (case a => k_is); (case l => k_is); (case c => k_is); (case k => k_is)
    have f_l_is_whole : L2.FunAt (L2.KOf KX) mg "_law_is_whole" ["_law_thing_here"] My.s_l_is_whole := by
      dsimp only [L2.KOf]
      refine' L2.funAt_mk KX G (fun _ _ _ _ _ _ us hl => match us, hl with | [_], _ => rfl) ?a ?l ?c ?k
      (case a => k_is); (case l => k_is); (case c => k_is); (case k => k_is)
    have f_l_tells : L2.FunAt (L2.KOf KX) mg "_law_tells" ["_law_found", "_law_due"] My.s_l_tells := by
      dsimp only [L2.KOf]
      refine' L2.funAt_mk KX G (fun _ _ _ _ _ _ us hl => match us, hl with | [_, _], _ => rfl) ?a ?l ?c ?k
      (case a => k_is); (case l => k_is); (case c => k_is); (case k => k_is)
    have f_l_load : L2.FunAt (L2.KOf KX) mg "_law_load" ["_law_pen_here", "_law_most"] My.s_l_load := by
      dsimp only [L2.KOf]
      refine' L2.funAt_mk KX G (fun _ _ _ _ _ _ us hl => match us, hl with | [_, _], _ => rfl) ?a ?l ?c ?k
      (case a => k_is); (case l => k_is); (case c => k_is); (case k => k_is)
    have f_l_moved : L2.FunAt (L2.KOf KX) mg "_law_moved" ["_law_load_here", "_law_i", "_law_j"] My.s_l_moved := by
      dsimp only [L2.KOf]
      refine' L2.funAt_mk KX G (fun _ _ _ _ _ _ us hl => match us, hl with | [_, _, _], _ => rfl) ?a ?l ?c ?k
      (case a => k_is); (case l => k_is); (case c => k_is); (case k => k_is)
    have f_l_can : L2.FunAt (L2.KOf KX) mg "_law_can" ["_law_load_here"] My.s_l_can := by
      dsimp only [L2.KOf]
      refine' L2.funAt_mk KX G (fun _ _ _ _ _ _ us hl => match us, hl with | [_], _ => rfl) ?a ?l ?c ?k
      (case a => k_is); (case l => k_is); (case c => k_is); (case k => k_is)
    have f_l_leads : L2.FunAt (L2.KOf KX) mg "_law_leads" ["_law_one", "_law_other_here", "_law_thing_here"] My.s_l_leads := by
      dsimp only [L2.KOf]
      refine' L2.funAt_mk KX G (fun _ _ _ _ _ _ us hl => match us, hl with | [_, _, _], _ => rfl) ?a ?l ?c ?k
      (case a => k_is); (case l => k_is); (case c => k_is); (case k => k_is)
    have f_l_walk : L2.FunAt (L2.KOf KX) mg "_law_walk" ["_law_pen_here", "_law_other_here"] My.s_l_walk := by
      dsimp only [L2.KOf]
      refine' L2.funAt_mk KX G (fun _ _ _ _ _ _ us hl => match us, hl with | [_, _], _ => rfl) ?a ?l ?c ?k
      (case a => k_is); (case l => k_is); (case c => k_is); (case k => k_is)
    have f_l_idle : L2.FunAt (L2.KOf KX) mg "_law_idle" ["_law_load_here", "_law_odd"] My.s_l_idle := by
      dsimp only [L2.KOf]
      refine' L2.funAt_mk KX G (fun _ _ _ _ _ _ us hl => match us, hl with | [_, _], _ => rfl) ?a ?l ?c ?k
      (case a => k_is); (case l => k_is); (case c => k_is); (case k => k_is)
    have f_l_odd_move : L2.FunAt (L2.KOf KX) mg "_law_odd_move" ["_law_move", "_law_odd"] My.s_l_odd_move := by
      dsimp only [L2.KOf]
      refine' L2.funAt_mk KX G (fun _ _ _ _ _ _ us hl => match us, hl with | [_, _], _ => rfl) ?a ?l ?c ?k
      (case a => k_is); (case l => k_is); (case c => k_is); (case k => k_is)
    have f_l_thing : L2.FunAt (L2.KOf KX) mg "_law_thing" ["_law_pen_here", "_law_found", "_law_loads"] My.s_l_thing := by
      dsimp only [L2.KOf]
      refine' L2.funAt_mk KX G (fun _ _ _ _ _ _ us hl => match us, hl with | [_, _, _], _ => rfl) ?a ?l ?c ?k
      (case a => k_is); (case l => k_is); (case c => k_is); (case k => k_is)
    have f_l_little_steps : L2.FunAt (L2.KOf KX) mg "_law_little_steps" ["_law_pen_here", "_law_other_here"] My.s_l_little_steps := by
      dsimp only [L2.KOf]
      refine' L2.funAt_mk KX G (fun _ _ _ _ _ _ us hl => match us, hl with | [_, _], _ => rfl) ?a ?l ?c ?k
      (case a => k_is); (case l => k_is); (case c => k_is); (case k => k_is)
    have f_l_long_right : L2.FunAt (L2.KOf KX) mg "_law_long_right" ["_law_pen_here"] My.s_l_long_right := by
      dsimp only [L2.KOf]
      refine' L2.funAt_mk KX G (fun _ _ _ _ _ _ us hl => match us, hl with | [_], _ => rfl) ?a ?l ?c ?k
      (case a => k_is); (case l => k_is); (case c => k_is); (case k => k_is)
    refine' My.all_mk KX G hmg T ⟨f_is_whole, f_is_two_places, f_falling, f_ask_alike, f_can_move, f_moved, f_lets_moves, f_l_pen, f_l_draw, f_l_is_whole, f_l_tells, f_l_load, f_l_moved, f_l_can, f_l_leads, f_l_walk, f_l_idle, f_l_odd_move, f_l_thing, f_l_little_steps, f_l_long_right⟩ ?a3 ?l3 ?c3 ?k3
    (case a3 => k_is); (case l3 => k_is); (case c3 => k_is); (case k3 => k_is)

