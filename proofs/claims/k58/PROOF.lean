import PyProof.Rows.All
import Wide.All
import OpenK.AllK
import Wide.FinOn
import PyProof.EqAt
import PyProof.EqKinds
import PyProof.NeKinds
import PyProof.TupleCall
import PyProof.CompFree
import PyProof.CompMap
import PyProof.ReprRoads
import PyProof.CallFns
import PyProof.ReprBulk
import PyProof.CompUse
import KE.KRevSl
import PyProof.Rows.SetFrom
import PyProof.AttrMissSeq
import KE.KDictOf
import PyProof.DictUpdate
import PyProof.ListRange
import PyProof.Rows.SumAny
import PyProof.Rows.SortRev
import PyProof.Rows.CallKwBuiltin
import PyProof.ListMulAny
import PyProof.TupleOps
import PyProof.ZipIter
import PyProof.Draws
import PyProof.TupleIter
import PyProof.EnumMake
import PyProof.DictCompW
import PyProof.DictItems
import PyProof.DictItemsLoops
import PyProof.ExcAttrAll.ValueError
import KE.KTryMore
import KE.KLam
import KE.KTupSum
import KE.KMinKey
import PyProof.FactsAll.tuple_0
import PyProof.FactsAll.tuple_2
import PyProof.FactsAll.tuple_3
import PySem.Challenge.RW_emptierbox_k58_whole_rooms_and_draws
set_option Elab.async false
set_option linter.all false
set_option maxRecDepth 100000
set_option maxHeartbeats 4000000
namespace MA
end MA

set_option Elab.async false
set_option linter.all false
set_option maxRecDepth 100000
set_option maxHeartbeats 4000000
/-! THE HAND LAYER, for ints, bools, texts, own classes, LISTS and tuples (index, slices, in, append, pop ..), calls, loops. Paste it whole ahead of your own text; what your proof does not reach may be deleted. -/
namespace L2
open PySem PySem.Spec PyProof.Rows

/-- a key: an int or a str -/
abbrev Key := Sum Int Str
def keyIs : Key → Value → Bool
  | .inl k, v => Value.isInt k v
  | .inr x, v => Value.isStrOf x v
def keyH (w : World) : Key → Int
  | .inl k => hashInt k
  | .inr x => hashStr w x
theorem keyIs_shape : ∀ {k : Key} {v : Value}, keyIs k v = true → (∃ i t, k = Sum.inl i ∧ v = Value.int i t) ∨ (∃ x t, k = Sum.inr x ∧ v = Value.str x t)
  | .inl i, v, h => by
    obtain ⟨t, e⟩ := Value.isInt_shape (k := i) (v := v) h
    exact .inl ⟨i, t, rfl, e⟩
  | .inr x, v, h => by
    obtain ⟨t, e⟩ := Value.isStrOf_shape (x := x) (v := v) h
    exact .inr ⟨x, t, rfl, e⟩
theorem keyIs_int (i : Int) (t : Tok) : keyIs (.inl i) (.int i t) = true := by simp [keyIs, Value.isInt]
theorem keyIs_str (x : Str) (t : Tok) : keyIs (.inr x) (.str x t) = true := by simp [keyIs, Value.isStrOf]
theorem key_ll (a b : Int) : decide ((Sum.inl a : Key) = Sum.inl b) = (a == b) := by
  by_cases e : a = b
  · subst e; simp
  · have h : ¬ (Sum.inl a : Key) = Sum.inl b := fun q => e (Sum.inl.inj q)
    rw [decide_eq_false h]
    exact (beq_eq_false_iff_ne.mpr e).symm
theorem key_rr (a b : Str) : decide ((Sum.inr a : Key) = Sum.inr b) = decide (a = b) := by
  by_cases e : a = b
  · subst e; simp
  · have h : ¬ (Sum.inr a : Key) = Sum.inr b := fun q => e (Sum.inr.inj q)
    rw [decide_eq_false h, decide_eq_false e]
theorem key_lr (a : Int) (b : Str) : decide ((Sum.inl a : Key) = Sum.inr b) = false := decide_eq_false (fun q => nomatch q)
theorem key_rl (a : Str) (b : Int) : decide ((Sum.inr a : Key) = Sum.inl b) = false := decide_eq_false (fun q => nomatch q)

def mixKind (prog : Program) (w : World) : PySem.KeyKind prog w Key where
  is := keyIs
  hash := keyH w
  inj := fun v a b ha hb => by
    rcases keyIs_shape ha with ⟨i, t, rfl, rfl⟩ | ⟨x, t, rfl, rfl⟩
    · rcases keyIs_shape hb with ⟨j, u, rfl, e⟩ | ⟨y, u, rfl, e⟩
      · injection e with e1 _; rw [e1]
      · exact nomatch e
    · rcases keyIs_shape hb with ⟨j, u, rfl, e⟩ | ⟨y, u, rfl, e⟩
      · exact nomatch e
      · injection e with e1 _; rw [e1]
  byValue := fun k v h => by
    rcases keyIs_shape h with ⟨i, t, rfl, rfl⟩ | ⟨x, t, rfl, rfl⟩ <;> rfl
  pyHash := fun hv h => by
    rcases keyIs_shape hv with ⟨i, t, rfl, rfl⟩ | ⟨x, t, rfl, rfl⟩
    · exact wpAny_pyHash_int h
    · exact wpAny_pyHash_str h
  eqBool := fun hu hv h => by
    rcases keyIs_shape hu with ⟨i, t, rfl, rfl⟩ | ⟨x, t, rfl, rfl⟩
    · rcases keyIs_shape hv with ⟨j, u, rfl, rfl⟩ | ⟨y, u, rfl, rfl⟩
      · rw [key_ll] at h; exact wpAny_eqBool_int h
      · rw [key_lr] at h; exact SeqAt.EqAt.int_str i t y u _ _ _ _ h
    · rcases keyIs_shape hv with ⟨j, u, rfl, rfl⟩ | ⟨y, u, rfl, rfl⟩
      · rw [key_rl] at h; exact SeqAt.EqAt.str_int x t j u _ _ _ _ h
      · rw [key_rr] at h; exact wpAny_eqBool_str h
  «strs» := fun k x t v h => by
    rcases keyIs_shape h with ⟨i, u, rfl, e⟩ | ⟨y, u, rfl, e⟩
    · exact nomatch e
    · injection e with e1 _
      subst e1
      cases v <;> rfl

theorem mixKind_int (prog : Program) (w : World) (i : Int) (t : Tok) : (mixKind prog w).is (.inl i) (.int i t) = true := keyIs_int i t
theorem mixKind_str (prog : Program) (w : World) (x : Str) (t : Tok) : (mixKind prog w).is (.inr x) (.str x t) = true := keyIs_str x t
end L2

namespace L2
open PySem PySem.Spec PyProof.Rows

/-- a value, without the heap -/
inductive V where
  | non | bl (b : Bool) | int (i : Int) | str (x : Str) | byt (b : Array UInt8) | flt (b : UInt64) | ref (a : Addr) | ty (n : String)
  deriving DecidableEq

def RelV : V → Value → Prop
  | .non, u => u = Value.none
  | .bl b, u => u = Value.bool b
  | .int i, u => ∃ t, u = Value.int i t
  | .str x, u => ∃ t, u = Value.str x t
  | .byt b, u => ∃ t, u = Value.bytes b t
  | .flt b, u => ∃ t, u = Value.float b t
  | .ref a, u => u = Value.ref a
  | .ty n, u => u = Value.type n

abbrev Vals : List V → List Value → Prop := Paired RelV
theorem Vals.length {xs : List V} {us : List Value} (r : Vals xs us) : xs.length = us.length := Paired.length r
theorem Vals.get : ∀ {xs : List V} {us : List Value} {i : Nat} {x : V}, Vals xs us → xs[i]? = some x → ∃ u, us[i]? = some u ∧ RelV x u
  | _, _, _, _, .nil, e => by simp at e
  | _, _, 0, _, .cons r _, e => by simp at e; subst e; exact ⟨_, rfl, r⟩
  | _, _, i + 1, x, .cons _ t, e => by
    obtain ⟨u, h1, h2⟩ := Vals.get (i := i) (x := x) t (by simpa using e)
    exact ⟨u, by simpa using h1, h2⟩
theorem Vals.set {x : V} {u : Value} (r : RelV x u) : ∀ {xs : List V} {us : List Value} (i : Nat), Vals xs us → Vals (xs.set i x) (us.set i u)
  | _, _, _, .nil => .nil
  | _, _, 0, .cons _ t => .cons r t
  | _, _, i + 1, .cons q t => .cons q (Vals.set r i t)
theorem Vals.append : ∀ {xs ys : List V} {us ws : List Value}, Vals xs us → Vals ys ws → Vals (xs ++ ys) (us ++ ws)
  | _, _, _, _, .nil, s => s
  | _, _, _, _, .cons r t, s => .cons r (Vals.append t s)
theorem Vals.take : ∀ {xs : List V} {us : List Value} (n : Nat), Vals xs us → Vals (xs.take n) (us.take n)
  | _, _, 0, _ => .nil
  | _, _, _ + 1, .nil => .nil
  | _, _, n + 1, .cons r t => .cons r (Vals.take n t)
theorem Vals.drop : ∀ {xs : List V} {us : List Value} (n : Nat), Vals xs us → Vals (xs.drop n) (us.drop n)
  | _, _, 0, r => r
  | _, _, _ + 1, .nil => .nil
  | _, _, n + 1, .cons _ t => Vals.drop n t
def RelO : Option V → Option Value → Prop
  | some v, some u => RelV v u
  | none, none => True
  | _, _ => False
def KV {κ : Type} : List (κ × V) → List (κ × Value) → Prop := Paired fun (p : κ × V) (q : κ × Value) => p.1 = q.1 ∧ RelV p.2 q.2

/-- a key of a dict (00_mix): an int or a text -/
def kV : Key → V
  | .inl i => .int i
  | .inr x => .str x

/-- what stands at a tracked address -/
inductive HO where
  /-- a list -/
  | lst (xs : List V)
  /-- a tuple (never changes) -/
  | tup (xs : List V)
  /-- a dict whose keys are ints and texts; one whose keys are tuples of ints and texts (the empty one is both) -/
  | dK (kvs : List (Key × V)) | dT (kvs : List (List Key × V))
  /-- a set of ints: its members, its size -/
  | set (S : Int → Bool) (n : Nat)
  /-- an instance of the class at C, its dict at dx, its attributes -/
  | ins (C dx : Addr) (fs : List (Str × V))
  /-- the dict of the instance at x -/
  | own (x : Addr)
  /-- the dict of an exception -/
  | xd (fs : List (Str × V))
  /-- a bound method, f of x -/
  | met (f x : Addr)
  /-- a range object lo, lo + 1, .. below hi -/
  | rng (lo hi : Int)
  /-- a thing that is known to the object (the script; a dict while a loop walks it): read, never written while it is so -/
  | frz (o : Obj) (u : HO)
  /-- a code object's table -/
  | tbl (ps : Array Value)
  /-- the table of the lambdas of a def, whose qualname is q -/
  | tab (q : Str)
  /-- any other thing, by what is true of its one object (a def of one's own: SetO a S n := HO.ext fun h => ..) -/
  | ext (φ : Heap → Prop)

abbrev Hp := Addr → Option HO
def upd (H : Hp) (a : Addr) (o : HO) : Hp := fun b => if b = a then some o else H b
theorem upd_same {H : Hp} {a : Addr} {o : HO} : upd H a o a = some o := by unfold upd; rw [if_pos rfl]
theorem upd_ne {H : Hp} {a b : Addr} {o : HO} (h : b ≠ a) : upd H a o b = H b := by unfold upd; rw [if_neg h]
theorem upd_upd {H : Hp} {a : Addr} {o u : HO} : upd (upd H a o) a u = upd H a u := by
  funext b; unfold upd; split <;> rfl
/-- two objects of different content stand apart -/
theorem ne_of {H : Hp} {a b : Addr} {o u : HO} (h : H a = some o) (h' : H b = some u) (d : o ≠ u) : a ≠ b := by
  intro e; subst e; rw [h] at h'; exact d (Option.some.inj h')
theorem ne_of_none {H : Hp} {a b : Addr} {o : HO} (h : H a = some o) (h' : H b = none) : a ≠ b := by
  intro e; subst e; rw [h] at h'; cases h'

/-- a tuple, with no dict of its own -/
def IsTupN (h : Heap) (a : Addr) (items : Array Value) : Prop := ∃ o, h.get? a = some o ∧ o.cls = .type "tuple" ∧ ∃ n, o.data = .seq items n ∧ o.dict = none
theorem IsTupN.tup {h : Heap} {a : Addr} {items : Array Value} (x : IsTupN h a items) : PyProof.Rows.IsTup h a items := let ⟨o, e, c, n, d, _⟩ := x; ⟨o, e, c, n, d⟩
theorem IsTupN.new (h : Heap) (items : Array Value) : IsTupN (h.push { cls := .type "tuple", data := .seq items }) h.objs.size items := ⟨_, Heap.get?_push_size _ rfl, rfl, _, rfl, rfl⟩
theorem IsTupN.lt {h : Heap} {a : Addr} {items : Array Value} (x : IsTupN h a items) : a < h.objs.size := let ⟨_, e, _⟩ := x; Heap.lt_size e

section
variable (P : Program) (w : World)
def ObjOk (H : Hp) (h : Heap) (a : Addr) : HO → Prop
  | .lst xs => xs.length ≤ sizeLine ∧ ∃ (its : List Value) (n : Nat), Vals xs its ∧ h.get? a = some { cls := .type "list", data := .seq its.toArray n }
  | .tup xs => xs.length ≤ sizeLine ∧ ∃ its : List Value, Vals xs its ∧ IsTupN h a its.toArray
  | .dK kvs => kvs.length ≤ sizeLine ∧ (a == sysModules) = false ∧ ∃ vs, KV kvs vs ∧ h.DictOf (mixKind P w) a vs
  | .dT kvs => kvs.length ≤ sizeLine ∧ (a == sysModules) = false ∧ ∃ xs : List (List Key × Addr × Value),
      Paired (fun (p : List Key × V) (q : List Key × Addr × Value) => p.1 = q.1 ∧ H q.2.1 = some (.tup (p.1.map kV)) ∧ RelV p.2 q.2.2) kvs xs ∧
      ∃ o es ep, h.get? a = some o ∧ o.ExactDict ∧ o.data = .dict es ep ∧ es.toList = xs.map (entryOfKey (tupleKind (mixKind P w))) ∧ (xs.map (·.1)).Nodup
  | .set S n => h.SetOf (intKind P w) a S n
  | .ins C dx fs => H dx = some (.own a) ∧ fs.length ≤ 1000 ∧ dx ≠ a ∧ h.get? a = some (PySem.W.instObj C dx) ∧
      ∃ mA, h.Ns1 dx mA ∧ (∀ f, RelO (fs.lookup f) (mA f)) ∧ PySem.Within mA (fs.map (·.1))
  | .own _ => ∃ o, h.get? a = some o
  | .xd fs => ∃ mA, h.Ns1 a mA ∧ ∀ f, RelO (fs.lookup f) (mA f)
  | .rng lo hi => ∃ t u v, h.get? a = some { cls := .type "range", data := .fields #[.int lo t, .int hi u, .int 1 v] }
  | .frz o u => h.get? a = some o ∧ ObjOk H h a u
  | .tbl ps => h.get? a = some { cls := .none, data := .fields ps }
  | .tab q => ∃ ps : Array Value, h.get? a = some { cls := .none, data := .fields ps } ∧ TriplesOk ps.toList ∧ ∀ pos cv, codeAmong pos ps.toList = some cv →
      ∃ c oc vs t, cv = .ref c ∧ H c = some (.frz oc (.own 0)) ∧ oc.data = .fields vs ∧ vs[1]? = some (.str q t)
  | .met f x => h.get? a = some (PySem.W.methodObj (.ref f) (.ref x))
  | .ext φ => φ h ∧ (∃ o, h.get? a = some o) ∧ ∀ h1 h2 : Heap, φ h1 → (∀ o, h1.get? a = some o → h2.get? a = some o) → φ h2
/-- the abstract heap is held -/
def HOk (H : Hp) (h : Heap) : Prop := ∀ a o, H a = some o → ObjOk P w H h a o
end

section
variable {P : Program} {w : World} {H H' : Hp} {h h' : Heap} {a : Addr} {o : HO}
theorem ObjOk.lt (x : ObjOk P w H h a o) : a < h.objs.size := by
  cases o with
  | lst xs => obtain ⟨_, _, _, _, e⟩ := x; exact Heap.lt_size e
  | tup xs => obtain ⟨_, _, _, p⟩ := x; exact p.lt
  | dK kvs => obtain ⟨_, _, _, _, o, _, _, e, _⟩ := x; exact Heap.lt_size e
  | dT kvs => obtain ⟨_, _, _, _, o, _, _, e, _⟩ := x; exact Heap.lt_size e
  | set S n => obtain ⟨o, _, _, _, e, _⟩ := x; exact Heap.lt_size e
  | ins C dx fs => obtain ⟨_, _, _, e, _⟩ := x; exact Heap.lt_size e
  | own y => obtain ⟨_, e⟩ := x; exact Heap.lt_size e
  | xd fs => obtain ⟨_, ⟨_, _, _, e, _⟩, _⟩ := x; exact Heap.lt_size e
  | rng lo hi => obtain ⟨_, _, _, e⟩ := x; exact Heap.lt_size e
  | frz ob u => obtain ⟨e, _⟩ := x; exact Heap.lt_size e
  | tbl ps => exact Heap.lt_size (show h.get? a = some _ from x)
  | tab q => obtain ⟨_, e, _⟩ := x; exact Heap.lt_size e
  | met f y => exact Heap.lt_size (show h.get? a = some _ from x)
  | ext φ => obtain ⟨_, ⟨_, e⟩, _⟩ := x; exact Heap.lt_size e
theorem Paired.mapP {α β : Type} {F G : α → β → Prop} : ∀ {l₁ : List α} {l₂ : List β}, Paired F l₁ l₂ → (∀ a b, F a b → G a b) → Paired G l₁ l₂
  | _, _, .nil, _ => .nil
  | _, _, .cons r t, f => .cons (f _ _ r) (Paired.mapP t f)
/-- what an object's description leans on: its own object, its own dict, the tuples -/
theorem ObjOk.stay (x : ObjOk P w H h a o) (k : ∀ b u, (b = a ∨ H b = some (.own a)) → h.get? b = some u → h'.get? b = some u)
    (ho : ∀ b, H b = some (.own a) → H' b = some (.own a)) (ht : ∀ b xs, H b = some (.tup xs) → H' b = some (.tup xs)) (hz : ∀ b ob, H b = some (.frz ob (.own 0)) → H' b = some (.frz ob (.own 0)) := by exact fun _ _ q => q) : ObjOk P w H' h' a o := by
  induction o with
  | lst xs => obtain ⟨z, its, n, r, e⟩ := x; exact ⟨z, its, n, r, k _ _ (.inl rfl) e⟩
  | tup xs => obtain ⟨z, its, r, ob, e, c⟩ := x; exact ⟨z, its, r, ob, k _ _ (.inl rfl) e, c⟩
  | dK kvs => obtain ⟨z, y, vs, r, ob, es, ep, e, c⟩ := x; exact ⟨z, y, vs, r, ob, es, ep, k _ _ (.inl rfl) e, c⟩
  | dT kvs =>
    obtain ⟨z, y, xs, r, ob, es, ep, e, c⟩ := x
    exact ⟨z, y, xs, Paired.mapP r fun p q z => ⟨z.1, ht _ _ z.2.1, z.2.2⟩, ob, es, ep, k _ _ (.inl rfl) e, c⟩
  | set S n => obtain ⟨ob, es, ep, t, e, c⟩ := x; exact ⟨ob, es, ep, t, k _ _ (.inl rfl) e, c⟩
  | ins C dx fs =>
    obtain ⟨d, z, ne, e, mA, ⟨od, es, ep, e2, c⟩, r⟩ := x
    exact ⟨ho _ d, z, ne, k _ _ (.inl rfl) e, mA, ⟨od, es, ep, k _ _ (.inr d) e2, c⟩, r⟩
  | own y => obtain ⟨ob, e⟩ := x; exact ⟨ob, k _ _ (.inl rfl) e⟩
  | xd fs => obtain ⟨mA, ⟨od, es, ep, e, c⟩, r⟩ := x; exact ⟨mA, ⟨od, es, ep, k _ _ (.inl rfl) e, c⟩, r⟩
  | rng lo hi => obtain ⟨t, u, v, e⟩ := x; exact ⟨t, u, v, k _ _ (.inl rfl) e⟩
  | frz ob u ih => obtain ⟨e, q⟩ := x; exact ⟨k _ _ (.inl rfl) e, ih q⟩
  | tab q =>
    obtain ⟨ps, e, tr, cs⟩ := x
    refine ⟨ps, k a _ (.inl rfl) e, tr, fun pos cv hc => ?_⟩
    obtain ⟨c, oc, vs, t, h1, h2, h3⟩ := cs pos cv hc
    exact ⟨c, oc, vs, t, h1, hz c oc h2, h3⟩
  | tbl ps =>
    have e : h.get? a = some { cls := .none, data := .fields ps } := x
    show h'.get? a = some { cls := .none, data := .fields ps }
    exact k a _ (.inl rfl) e
  | met f y =>
    have e : h.get? a = some (PySem.W.methodObj (.ref f) (.ref y)) := x
    show h'.get? a = some (PySem.W.methodObj (.ref f) (.ref y))
    exact k a _ (.inl rfl) e
  | ext φ => obtain ⟨p, ⟨o, e⟩, st⟩ := x; exact ⟨st _ _ p fun o q => k _ _ (.inl rfl) q, ⟨o, k _ _ (.inl rfl) e⟩, st⟩
theorem HOk.lt (x : HOk P w H h) (e : H a = some o) : a < h.objs.size := (x a o e).lt
theorem HOk.fresh (x : HOk P w H h) (e : h.objs.size ≤ a) : H a = none := by
  cases q : H a with
  | none => rfl
  | some u => exact absurd (Nat.lt_of_lt_of_le (x.lt q) e) (Nat.lt_irrefl _)
/-- every object of the heap is kept -/
theorem HOk.kept (x : HOk P w H h) (k : ∀ b u, h.get? b = some u → h'.get? b = some u) : HOk P w H h' := fun a o e =>
  (x a o e).stay (fun b u _ q => k b u q) (fun _ q => q) fun _ _ q => q
/-- a new object is laid and tracked -/
theorem HOk.laid (x : HOk P w H h) (k : ∀ b u, h.get? b = some u → h'.get? b = some u) (hp : h.objs.size ≤ a) (new : ObjOk P w (upd H a o) h' a o) : HOk P w (upd H a o) h' := fun b u e => by
  have hn := x.fresh hp
  by_cases hb : b = a
  · subst hb; rw [upd_same] at e; cases e; exact new
  · rw [upd_ne hb] at e
    exact (x b u e).stay (fun c v _ q => k c v q) (fun c q => by rw [upd_ne (ne_of_none q hn)]; exact q) (fun c xs q => by rw [upd_ne (ne_of_none q hn)]; exact q) fun c ob q => by rw [upd_ne (ne_of_none q hn)]; exact q
end

/-- what may be read as u: it is u, or a known u -/
def Rd (H : Hp) (a : Addr) (u : HO) : Prop := H a = some u ∨ ∃ o, H a = some (.frz o u)
theorem Rd.ok {P : Program} {w : World} {H : Hp} {h : Heap} {a : Addr} {u : HO} (r : Rd H a u) (x : HOk P w H h) : ObjOk P w H h a u := by
  rcases r with r | ⟨o, r⟩
  · exact x a u r
  · obtain ⟨_, q⟩ := x a _ r
    exact q
/-- what may be written -/
def Mut : Option HO → Prop
  | some (.lst _) => True
  | some (.dK _) => True
  | some (.dT _) => True
  | some (.set _ _) => True
  | some (.ins _ _ _) => True
  | some (.ext _) => True
  | some (.tab _) => True
  | _ => False
section
variable {P : Program} {w : World} {H : Hp} {h h' : Heap} {x e : Addr} {o' : HO}
/-- the object at e is changed: x itself, or the dict of the instance x -/
theorem HOk.write (ok : HOk P w H h) (mu : Mut (H x)) (he : e = x ∨ H e = some (.own x)) (k : ∀ b u, b ≠ e → h.get? b = some u → h'.get? b = some u) (heo : ∃ u, h'.get? e = some u)
    (new : ObjOk P w (upd H x o') h' x o') : HOk P w (upd H x o') h' := fun b u q => by
  have nown : ∀ c y, H c = some (.own y) → c ≠ x := fun c y r z => by subst z; rw [r] at mu; exact mu
  have ntup : ∀ c xs, H c = some (.tup xs) → c ≠ x := fun c xs r z => by subst z; rw [r] at mu; exact mu
  by_cases hb : b = x
  · subst hb; rw [upd_same] at q; cases q; exact new
  · rw [upd_ne hb] at q
    by_cases hbe : b = e
    · have q' : H b = some (.own x) := by
        rcases he with z | z
        · exact absurd (hbe.trans z) hb
        · rw [hbe]; exact z
      rw [q] at q'; cases q'
      obtain ⟨v, hv⟩ := heo
      exact ⟨v, by rw [hbe]; exact hv⟩
    · refine (ok b u q).stay (fun c v hc r => k c v ?_ r) (fun c r => by rw [upd_ne (nown c b r)]; exact r) (fun c xs r => by rw [upd_ne (ntup c xs r)]; exact r) (fun c ob r => by rw [upd_ne (fun z => by subst z; rw [r] at mu; exact mu)]; exact r)
      rcases hc with rfl | hc
      · exact hbe
      · rintro rfl
        rcases he with z | z
        · exact nown c b hc z
        · rw [hc] at z; cases z; exact hb rfl
end

/-! ### kept unless tracked; of the frames at fs (the callers') the slots may change (an exception that passes writes there); of the records at ex (iterators) nothing is said -/
structure Un (fs ex : List Addr) (H H' : Hp) (h h' : Heap) : Prop where
  keep : ∀ b o, h.get? b = some o → H b = none → b ∉ fs → b ∉ ex → h'.get? b = some o
  slot : ∀ b o, h.get? b = some o → H b = none → b ∈ fs → b ∉ ex → ∃ sl, h'.get? b = some { o with slots := sl }
  free : ∀ b o, h.get? b = some o → H b = none → b ∉ ex → H' b = none
  there : ∀ b o, h.get? b = some o → b ∉ ex → ∃ o', h'.get? b = some o'
  tups : ∀ b xs, H b = some (.tup xs) → H' b = some (.tup xs)
  frzs : ∀ b o u, H b = some (.frz o u) → H' b = some (.frz o u)
  tbls : ∀ b ps, H b = some (.tbl ps) → ∃ more, H' b = some (.tbl (ps ++ more))
section
variable {fs fs' ex ex' : List Addr} {H H1 H2 : Hp} {h h1 h2 h' : Heap} {a x e : Addr} {o : HO}
theorem Un.any (u : Un fs ex H H1 h h1) {b : Addr} {ob : Obj} (q : h.get? b = some ob) (n : H b = none) (hx : b ∉ ex) : ∃ sl, h1.get? b = some { ob with slots := sl } := by
  by_cases hb : b ∈ fs
  · exact u.slot b ob q n hb hx
  · exact ⟨ob.slots, u.keep b ob q n hb hx⟩
theorem Un.kept (k : ∀ b u, h.get? b = some u → h'.get? b = some u) : Un fs ex H H h h' :=
  ⟨fun b ob q _ _ _ => k b ob q, fun b ob q _ _ _ => ⟨ob.slots, k b ob q⟩, fun _ _ _ n _ => n, fun b ob q _ => ⟨ob, k b ob q⟩, fun _ _ q => q, fun _ _ _ q => q, fun _ ps q => ⟨#[], by rw [q]; simp⟩⟩
theorem Un.refl : Un fs ex H H h h := Un.kept fun _ _ q => q
theorem Un.laid (k : ∀ b u, h.get? b = some u → h'.get? b = some u) (hp : h.objs.size ≤ a) (hn : H a = none) : Un fs ex H (upd H a o) h h' where
  keep := fun b u q _ _ _ => k b u q
  slot := fun b u q _ _ _ => ⟨u.slots, k b u q⟩
  free := fun b u q n _ => by rw [upd_ne (Nat.ne_of_lt (Nat.lt_of_lt_of_le (Heap.lt_size q) hp))]; exact n
  there := fun b u q _ => ⟨u, k b u q⟩
  tups := fun b xs q => by rw [upd_ne (ne_of_none q hn)]; exact q
  frzs := fun b u xs q => by rw [upd_ne (ne_of_none q hn)]; exact q
  tbls := fun b ps q => ⟨#[], by rw [upd_ne (ne_of_none q hn), q]; simp⟩
theorem Un.write (mu : Mut (H x)) (he : e = x ∨ H e = some (.own x)) (k : ∀ b u, b ≠ e → h.get? b = some u → h'.get? b = some u) (heo : ∃ u, h'.get? e = some u) : Un fs ex H (upd H x o) h h' := by
  have hx : ∀ b, H b = none → b ≠ x := fun b n z => by subst z; rw [n] at mu; exact mu
  have hb : ∀ b, H b = none → b ≠ e := fun b n z => by
    subst z
    rcases he with r | r
    · exact hx b n r
    · rw [n] at r; cases r
  have hm : ∀ b u, H b = some u → ¬ Mut (some u) → b ≠ x := fun b u q nm z => by subst z; rw [q] at mu; exact nm mu
  refine ⟨fun b u q n _ _ => k b u (hb b n) q, fun b u q n _ _ => ⟨u.slots, k b u (hb b n) q⟩, fun b u q n _ => by rw [upd_ne (hx b n)]; exact n, fun b u q _ => ?_,
    fun b xs q => by rw [upd_ne (hm b _ q fun z => z)]; exact q, fun b u xs q => by rw [upd_ne (hm b _ q fun z => z)]; exact q, fun b ps q => ⟨#[], by rw [upd_ne (hm b _ q fun z => z), q]; simp⟩⟩
  by_cases hbe : b = e
  · subst hbe; exact heo
  · exact ⟨u, k b u hbe q⟩
end

/-! ### the heap without what is tracked -/
def trk (h : Heap) (H : Hp) : List Addr := (List.range h.objs.size).filter fun a => (H a).isSome
def hidT (h : Heap) (H : Hp) : Heap := PySem.W.hideAll h (trk h H)
theorem hidT_size (h : Heap) (H : Hp) : (hidT h H).objs.size = h.objs.size := PySem.W.hideAll_size _ _
theorem hidT_get {h : Heap} {H : Hp} {b : Addr} {o : Obj} (e : h.get? b = some o) (n : H b = none) : (hidT h H).get? b = some o :=
  PySem.W.hideAll_get _ e fun hm => by
    have q : (H b).isSome = true := (List.mem_filter.mp hm).2
    rw [n] at q; simp at q
theorem of_hidT {h : Heap} {H : Hp} {b : Addr} {o : Obj} (e : (hidT h H).get? b = some o) : h.get? b = some o ∧ H b = none := by
  have e' : h.get? b = some o := PySem.W.of_hideAll (trk h H) e
  refine ⟨e', ?_⟩
  cases q : H b with
  | none => rfl
  | some x =>
    have hm : b ∈ trk h H := List.mem_filter.mpr ⟨List.mem_range.mpr (Heap.lt_size e'), by simp [q]⟩
    have z : (hidT h H).get? b = none := PySem.W.hideAll_none (trk h H) hm
    rw [z] at e; cases e

/-! ### OpenK's ledger, filled with every new object but one -/
end L2

namespace L2
open PySem PySem.Spec PyProof.Rows

/-- the module's facts, over the base: the heap at the law's entry without what is tracked there -/
structure Mod (K : PySem.W.Frag) (mg : Str → Option Value) (base : Heap) : Prop where
  kin : K.In base
  glob : base.Ns mainGlobals mg
  blt : ∃ mb, base.Ns builtinsNs mb ∧ ∀ x : Str, x ≠ "__name__" → mb x = bootBuiltins x
  nolimit : base.NoLimit

/-- the context: a def's body (or a comprehension's block) running. base: fixed through the whole law; s₀, H₀: the entry; outer: the frames whose slots others may change (a def's callers); stack: all frames that run;
   ex: iterators that were made ahead of the entry and are walked here (a comprehension's); fn: the names whose cells were made at the entry (a def: all; a comprehension's block: its own); calm: not within an except suite; pn: pins that every state bears; xe: what is wanted of an exception that leaves the code -/
structure Cx where
  prog : Program
  w : World
  K : PySem.W.Frag
  mg : Str → Option Value
  base : Heap
  A : Around
  N : List Str
  s₀ : Shared
  H₀ : Hp
  env : Env
  outer : List Env
  stack : List Env
  ex : List Addr
  fn : Str → Bool
  calm : Bool
  pn : List (Addr × Obj)
  xe : Value → Shared → Prop
/-- the callers' frames -/
def frs (l : List Env) : List Addr := l.filterMap (·.frame)
abbrev Cx.fs (X : Cx) : List Addr := frs X.outer

def Vis (sc : Scope) (x : Str) : Prop := sc.names.lookup x = some .local ∨ sc.names.lookup x = some .cell ∨ sc.names.lookup x = some .free
def Loc (sc : Scope) (x : Str) : Prop := sc.names.lookup x = some .local ∨ sc.names.lookup x = some .cell
def Look (env : Env) (h : Heap) (m : Str → Option Value) (x : Str) (u : Value) : Prop :=
  (env.kindOf x = some .local ∧ m x = some u) ∨ ((env.kindOf x = some .cell ∨ env.kindOf x = some .free) ∧ ∃ c, env.cells.lookup x = some c ∧ h.IsCell c (some u))

structure Cx.Ok (X : Cx) : Prop where
  mod : Mod X.K X.mg X.base
  kind : X.env.scope.kind = .function
  glob : X.env.globals = mainGlobals
  blt : X.env.builtins = builtinsNs
  above : X.s₀.heap.objs.size ≤ X.env.locals
  inj : ∀ x y c, X.env.cells.lookup x = some c → X.env.cells.lookup y = some c → x = y
  has : ∀ x, (X.env.kindOf x = some .cell ∨ X.env.kindOf x = some .free) → ∃ c, X.env.cells.lookup x = some c
  cab : ∀ x c, X.fn x = true → X.env.cells.lookup x = some c → X.s₀.heap.objs.size ≤ c
  hd : X.calm = true → X.A.handled = none
  frames : X.A.frames = some X.stack
  stk : X.stack = X.outer ∨ (X.stack = X.env :: X.outer ∧ X.env.frame = some X.env.locals)
  exf : ∀ b ∈ X.ex, b ≠ X.env.locals ∧ ∀ x c, X.env.cells.lookup x = some c → c ≠ b
  bs : ∀ b o, X.base.get? b = some o → X.s₀.heap.get? b = some o ∧ X.H₀ b = none
  bsz : X.base.objs.size ≤ X.s₀.heap.objs.size
  noex : ∀ b o, X.base.get? b = some o → b ∉ X.ex
  exfs : ∀ b ∈ X.ex, b ∉ X.fs
  funs : X.s₀.heap.FunFrames X.base X.outer
  frf : ∀ b ∈ X.fs, X.H₀ b = none

structure Inv (X : Cx) (pins : List (Addr × Obj)) (σ : List (Option V)) (H : Hp) (s : Shared) : Prop where
  ok : X.Ok
  os : s.os = X.s₀.os
  bare : AllBare s.gens
  base : Un X.fs X.ex X.H₀ H X.s₀.heap s.heap
  loc : ∃ m, s.heap.Ns X.env.locals m ∧ ∀ (i : Nat) (x : Str) (v : V), X.N[i]? = some x → σ[i]? = some (some v) → Vis X.env.scope x → ∃ u, RelV v u ∧ Look X.env s.heap m x u
  cell : ∀ x c, X.env.cells.lookup x = some c → ∃ v, s.heap.IsCell c v
  free : H X.env.locals = none
  freeC : ∀ x c, X.env.cells.lookup x = some c → H c = none
  pin : ∀ p ∈ X.pn ++ pins, s.heap.get? p.1 = some p.2 ∧ H p.1 = none ∧ p.1 ≠ X.env.locals ∧ p.1 ∉ X.fs ∧ ∀ v, p.2.data ≠ .cell v
  hok : HOk X.prog X.w H s.heap
  len : σ.length = X.N.length

section
variable {X : Cx} {pins : List (Addr × Obj)} {σ : List (Option V)} {H H' : Hp} {s : Shared} {h' : Heap}

theorem Cx.Ok.nofr (ok : X.Ok) {b : Addr} {o : Obj} (e : X.base.get? b = some o) : b ∉ X.fs := fun hb => by
  have := (ok.funs.mem hb).1
  rw [e] at this; cases this
theorem Inv.bs (I : Inv X pins σ H s) : ∀ b o, X.base.get? b = some o → s.heap.get? b = some o ∧ H b = none := fun b o e =>
  ⟨I.base.keep b o (I.ok.bs b o e).1 (I.ok.bs b o e).2 (I.ok.nofr e) (I.ok.noex b o e), I.base.free b o (I.ok.bs b o e).1 (I.ok.bs b o e).2 (I.ok.noex b o e)⟩
theorem Inv.bk (I : Inv X pins σ H s) : ∀ b o, X.base.get? b = some o → s.heap.get? b = some o := fun b o e => (I.bs b o e).1
theorem Inv.mod (I : Inv X pins σ H s) : Mod X.K X.mg X.base := I.ok.mod
theorem Inv.kIn (I : Inv X pins σ H s) : X.K.In s.heap := I.ok.mod.kin.keeps I.bk
theorem Inv.lt (I : Inv X pins σ H s) : X.env.locals < s.heap.objs.size := let ⟨_, hn, _⟩ := I.loc; hn.lt
theorem Inv.sz (I : Inv X pins σ H s) : X.s₀.heap.objs.size ≤ s.heap.objs.size := Nat.le_trans I.ok.above (Nat.le_of_lt I.lt)
theorem Inv.nofs (I : Inv X pins σ H s) {a : Addr} (h : s.heap.objs.size ≤ a) : a ∉ X.fs := fun hb => by
  obtain ⟨_, o, ho, _⟩ := I.ok.funs.mem hb
  exact absurd (Nat.lt_of_lt_of_le (Heap.lt_size ho) (Nat.le_trans I.sz h)) (Nat.lt_irrefl _)
theorem Inv.cne (I : Inv X pins σ H s) : ∀ x c, X.env.cells.lookup x = some c → c ≠ X.env.locals := fun x c e z => by
  obtain ⟨v, o, ho, hd⟩ := I.cell x c e
  obtain ⟨m, ⟨o', es, ep, ho', hd', _⟩, _⟩ := I.loc
  rw [z, ho'] at ho; cases ho; rw [hd'] at hd; cases hd
theorem Inv.funs (I : Inv X pins σ H s) : s.heap.FunFrames X.base X.outer := by
  have all : ∀ (l : List Env), (∀ b ∈ frs l, b ∈ X.fs) → X.s₀.heap.FunFrames X.base l → s.heap.FunFrames X.base l := by
    intro l
    induction l with
    | nil => intro _ _; trivial
    | cons env r ih =>
      intro hs hl
      obtain ⟨hk, ⟨L, o, hf, hn, ho, hd⟩, hr⟩ := hl
      have hL : L ∈ X.fs := hs L (by unfold frs; rw [List.filterMap_cons, hf]; exact List.mem_cons_self)
      obtain ⟨sl, e⟩ := I.base.slot L o ho (I.ok.frf L hL) hL fun z => I.ok.exfs L z hL
      exact ⟨hk, ⟨L, _, hf, hn, e, hd⟩, ih (fun b hb => hs b (by unfold frs; rw [List.filterMap_cons, hf]; exact List.mem_cons_of_mem _ hb)) hr⟩
  exact all X.outer (fun _ hb => hb) I.ok.funs

/-- the frames that run, for a call -/
theorem Inv.stack (I : Inv X pins σ H s) : s.heap.FunFrames X.base X.stack := by
  rcases I.ok.stk with e | ⟨e, hf⟩
  · rw [e]; exact I.funs
  · rw [e]
    obtain ⟨m, hn, _⟩ := I.loc
    refine .cons (by rw [I.ok.kind]; decide) hf hn ?_ I.funs
    exact Heap.get?_none_of_le (Nat.le_trans I.ok.bsz I.ok.above)
theorem Inv.stkSub (I : Inv X pins σ H s) : ∀ b ∈ frs X.stack, b ∈ X.env.locals :: X.fs := fun b hb => by
  rcases I.ok.stk with e | ⟨e, hf⟩
  · rw [e] at hb; exact List.mem_cons_of_mem _ hb
  · rw [e] at hb
    unfold frs at hb
    rw [List.filterMap_cons, hf] at hb
    exact hb
theorem Inv.stkFree (I : Inv X pins σ H s) : ∀ b ∈ frs X.stack, H b = none := fun b hb => by
  rcases List.mem_cons.mp (I.stkSub b hb) with e | hb
  · rw [e]; exact I.free
  · obtain ⟨_, o, ho, _⟩ := I.ok.funs.mem hb
    exact I.base.free b o ho (I.ok.frf b hb) fun z => I.ok.exfs b z hb

/-- THE STEP: the untracked objects but the frame and the records at ch are kept (the callers' frames up to slots), the frame's map is kept, the new abstract heap is held -/
theorem Inv.step {g' : Array GenState} {t' : Nat} {d' : Drawn} {ch : List Addr} (I : Inv X pins σ H s)
    (hch : ∀ b ∈ ch, (b ∈ X.ex ∨ X.s₀.heap.objs.size ≤ b) ∧ b ≠ X.env.locals ∧ (∀ x c, X.env.cells.lookup x = some c → c ≠ b) ∧ ∀ p ∈ X.pn ++ pins, p.1 ≠ b)
    (keep : ∀ b o, b ≠ X.env.locals → b ∉ X.fs → b ∉ ch → s.heap.get? b = some o → H b = none → h'.get? b = some o)
    (slot : ∀ b o, b ≠ X.env.locals → b ∈ X.fs → b ∉ ch → s.heap.get? b = some o → H b = none → ∃ sl, h'.get? b = some { o with slots := sl }) (free : ∀ b o, b ∉ ch → s.heap.get? b = some o → H b = none → H' b = none)
    (there : ∀ b o, b ∉ ch → s.heap.get? b = some o → ∃ o', h'.get? b = some o')
    (tups : ∀ b xs, H b = some (.tup xs) → H' b = some (.tup xs)) (frzs : ∀ b o u, H b = some (.frz o u) → H' b = some (.frz o u)) (tbls : ∀ b ps, H b = some (.tbl ps) → ∃ more, H' b = some (.tbl (ps ++ more)))
    (ns : ∀ m, s.heap.Ns X.env.locals m → h'.Ns X.env.locals m) (hok : HOk X.prog X.w H' h') (hg : AllBare g') :
    Inv X pins σ H' { s with heap := h', gens := g', drawn := d', toks := t' } := by
  have neL : ∀ b o, X.s₀.heap.get? b = some o → b ≠ X.env.locals := fun b o e => Nat.ne_of_lt (Nat.lt_of_lt_of_le (Heap.lt_size e) I.ok.above)
  have neC : ∀ b o, X.s₀.heap.get? b = some o → b ∉ X.ex → b ∉ ch := fun b o e hx hb => by
    rcases (hch b hb).1 with z | z
    · exact hx z
    · exact absurd (Nat.lt_of_lt_of_le (Heap.lt_size e) z) (Nat.lt_irrefl _)
  have cellK : ∀ x c, X.env.cells.lookup x = some c → ∀ v, s.heap.IsCell c v → h'.IsCell c v := fun x c e v ⟨o, ho, hd⟩ => by
    have nch : c ∉ ch := fun z => (hch c z).2.2.1 x c e rfl
    by_cases hc : c ∈ X.fs
    · obtain ⟨sl, q⟩ := slot c o (I.cne x c e) hc nch ho (I.freeC x c e)
      exact ⟨_, q, hd⟩
    · exact ⟨o, keep c o (I.cne x c e) hc nch ho (I.freeC x c e), hd⟩
  refine ⟨I.ok, I.os, hg, ⟨fun b o e n hb hx => ?_, fun b o e n hb hx => ?_, fun b o e n hx => ?_, fun b o e hx => ?_, fun b xs e => tups b xs (I.base.tups b xs e), fun b o xs e => frzs b o xs (I.base.frzs b o xs e), fun b ps e => ?_⟩, ?_, fun x c e => ?_, ?_, fun x c e => ?_, fun p hp => ?_, hok, I.len⟩
  · exact keep b o (neL b o e) hb (neC b o e hx) (I.base.keep b o e n hb hx) (I.base.free b o e n hx)
  · obtain ⟨sl, e1⟩ := I.base.slot b o e n hb hx
    obtain ⟨sl', e2⟩ := slot b _ (neL b o e) hb (neC b o e hx) e1 (I.base.free b o e n hx)
    exact ⟨sl', e2⟩
  · obtain ⟨o', e1⟩ := I.base.there b o e hx
    exact free b o' (neC b o e hx) e1 (I.base.free b o e n hx)
  · obtain ⟨o', e1⟩ := I.base.there b o e hx
    exact there b o' (neC b o e hx) e1
  · obtain ⟨m1, e1⟩ := I.base.tbls b ps e
    obtain ⟨m2, e2⟩ := tbls b _ e1
    exact ⟨m1 ++ m2, by rw [e2, Array.append_assoc]⟩
  · obtain ⟨m, hn, hl⟩ := I.loc
    refine ⟨m, ns m hn, fun i x v e1 e2 e3 => ?_⟩
    obtain ⟨u, r, l⟩ := hl i x v e1 e2 e3
    refine ⟨u, r, ?_⟩
    rcases l with l | ⟨k, c, e, z⟩
    · exact .inl l
    · exact .inr ⟨k, c, e, cellK x c e _ z⟩
  · obtain ⟨v, z⟩ := I.cell x c e
    exact ⟨v, cellK x c e v z⟩
  · obtain ⟨m, ⟨o, _, _, ho, _⟩, _⟩ := I.loc
    exact free _ o (fun z => (hch _ z).2.1 rfl) ho I.free
  · obtain ⟨v, o, ho, hd⟩ := I.cell x c e
    exact free c o (fun z => (hch c z).2.2.1 x c e rfl) ho (I.freeC x c e)
  · obtain ⟨e, n, ne, nf, d⟩ := I.pin p hp
    have nch : p.1 ∉ ch := fun z => (hch p.1 z).2.2.2 p hp rfl
    exact ⟨keep p.1 p.2 ne nf nch e n, free p.1 p.2 nch e n, ne, nf, d⟩
/-- .. where the frame's own object is kept too -/
theorem Inv.un {t' : Nat} (I : Inv X pins σ H s) (u : Un X.fs [] H H' s.heap h') (hok : HOk X.prog X.w H' h') : Inv X pins σ H' { s with heap := h', toks := t' } := by
  obtain ⟨m, ⟨o, es, ep, ho, r⟩, _⟩ := id I.loc
  obtain ⟨sl, hL⟩ := u.any ho I.free (by simp)
  exact I.step (g' := s.gens) (d' := s.drawn) (ch := []) (fun _ z => nomatch z) (fun b o _ hb _ e n => u.keep b o e n hb (by simp)) (fun b o _ hb _ e n => u.slot b o e n hb (by simp)) (fun b o _ e n => u.free b o e n (by simp)) (fun b o _ e => u.there b o e (by simp)) u.tups u.frzs u.tbls (fun m' hm => by
    obtain ⟨o', es', ep', ho', r'⟩ := hm
    rw [ho] at ho'; cases ho'
    exact ⟨_, es', ep', hL, r'⟩) hok I.bare
/-- behind a call (or a comprehension's block): the slots of this frame may have changed too, the records at ch may have turned -/
theorem Inv.call {g' : Array GenState} {t' : Nat} {d' : Drawn} {ch : List Addr} (I : Inv X pins σ H s) (u : Un (frs X.stack) ch H H' s.heap h') (hok : HOk X.prog X.w H' h') (hg : AllBare g')
    (hch : ∀ b ∈ ch, (b ∈ X.ex ∨ X.s₀.heap.objs.size ≤ b) ∧ b ≠ X.env.locals ∧ (∀ x c, X.env.cells.lookup x = some c → c ≠ b) ∧ ∀ p ∈ X.pn ++ pins, p.1 ≠ b) :
    Inv X pins σ H' { s with heap := h', gens := g', drawn := d', toks := t' } := by
  obtain ⟨m, ⟨o, es, ep, ho, r⟩, _⟩ := id I.loc
  obtain ⟨sl, hL⟩ := u.any ho I.free fun z => (hch _ z).2.1 rfl
  exact I.step (ch := ch) hch (fun b o hL hb hc e n => u.keep b o e n (fun z => (List.mem_cons.mp (I.stkSub b z)).elim hL hb) hc) (fun b o _ _ hc e n => u.any e n hc) (fun b o hc e n => u.free b o e n hc) (fun b o hc e => u.there b o e hc) u.tups u.frzs u.tbls (fun m' hm => by
    obtain ⟨o', es', ep', ho', r'⟩ := hm
    rw [ho] at ho'; cases ho'
    exact ⟨_, es', ep', hL, r'⟩) hok hg
/-- an untracked record of ours (an iterator) has turned -/
theorem Inv.turned {t' : Nat} {it : Addr} (I : Inv X pins σ H s) (k : ∀ b o, b ≠ it → s.heap.get? b = some o → h'.get? b = some o) (hn : H it = none) (hL : it ≠ X.env.locals)
    (h1 : it ∈ X.ex ∨ X.s₀.heap.objs.size ≤ it) (h2 : ∀ x c, X.env.cells.lookup x = some c → c ≠ it) (h3 : ∀ p ∈ X.pn ++ pins, p.1 ≠ it) : Inv X pins σ H { s with heap := h', toks := t' } := by
  have nit : ∀ b u, H b = some u → b ≠ it := fun b u e z => by rw [z, hn] at e; cases e
  refine I.step (g' := s.gens) (d' := s.drawn) (ch := [it]) (fun b hb => ?_) (fun b o _ _ hc e _ => k b o (fun z => hc (by simp [z])) e) (fun b o _ _ hc e _ => ⟨o.slots, k b o (fun z => hc (by simp [z])) e⟩) (fun _ _ _ _ n => n)
    (fun b o hc e => ⟨o, k b o (fun z => hc (by simp [z])) e⟩) (fun _ _ e => e) (fun _ _ _ e => e) (fun b ps e => ⟨#[], by rw [e]; simp⟩) (fun m hm => ?_) (fun b u e => ?_) I.bare
  · have e : b = it := by simpa using hb
    subst e
    exact ⟨h1, hL, h2, h3⟩
  · obtain ⟨o, es, ep, ho, r⟩ := hm
    exact ⟨o, es, ep, k _ o (Ne.symm hL) ho, r⟩
  · refine (I.hok b u e).stay (fun c v hc q => k c v ?_ q) (fun _ q => q) fun _ _ q => q
    rcases hc with z | z
    · rw [z]; exact nit b u e
    · exact nit c _ z
theorem Inv.tok (I : Inv X pins σ H s) (t : Nat) : Inv X pins σ H { s with toks := t } := I.un (h' := s.heap) (t' := t) Un.refl I.hok
/-- all objects kept -/
theorem Inv.kept {t' : Nat} (I : Inv X pins σ H s) (k : ∀ b u, s.heap.get? b = some u → h'.get? b = some u) : Inv X pins σ H { s with heap := h', toks := t' } := I.un (Un.kept k) (I.hok.kept k)
/-- a new object laid and tracked -/
theorem Inv.laid {a : Addr} {o : HO} {t' : Nat} (I : Inv X pins σ H s) (k : ∀ b u, s.heap.get? b = some u → h'.get? b = some u) (hp : s.heap.objs.size ≤ a) (new : ObjOk X.prog X.w (upd H a o) h' a o) :
    Inv X pins σ (upd H a o) { s with heap := h', toks := t' } := I.un (Un.laid k hp (I.hok.fresh hp)) (I.hok.laid k hp new)
/-- an object written -/
theorem Inv.write {x e : Addr} {o : HO} {t' : Nat} (I : Inv X pins σ H s) (mu : Mut (H x)) (he : e = x ∨ H e = some (.own x)) (k : ∀ b u, b ≠ e → s.heap.get? b = some u → h'.get? b = some u) (heo : ∃ u, h'.get? e = some u)
    (new : ObjOk X.prog X.w (upd H x o) h' x o) : Inv X pins σ (upd H x o) { s with heap := h', toks := t' } := I.un (Un.write mu he k heo) (I.hok.write mu he k heo new)
theorem Inv.pins_of {pins' : List (Addr × Obj)} (I : Inv X pins σ H s) (h : ∀ p ∈ pins', s.heap.get? p.1 = some p.2 ∧ H p.1 = none ∧ p.1 ≠ X.env.locals ∧ p.1 ∉ X.fs ∧ ∀ v, p.2.data ≠ .cell v) : Inv X pins' σ H s :=
  ⟨I.ok, I.os, I.bare, I.base, I.loc, I.cell, I.free, I.freeC, fun p hp => (List.mem_append.mp hp).elim (fun z => I.pin p (List.mem_append_left _ z)) (h p), I.hok, I.len⟩

theorem nodup_ix {N : List Str} (hN : N.Nodup) {i j : Nat} {x : Str} (a : N[i]? = some x) (b : N[j]? = some x) : i = j := by
  obtain ⟨h1, e1⟩ := List.getElem?_eq_some_iff.mp a
  obtain ⟨h2, e2⟩ := List.getElem?_eq_some_iff.mp b
  exact (List.getElem_inj hN).mp (e1.trans e2.symm)

/-- a name is stored; what changed -/
theorem store_ok2 {M : Model} {A : Around} {E : Value → Shared → Prop} {i : Nat} {x : Str} {v : V} {u : Value} {Q : Unit → Shared → Prop} (I : Inv X pins σ H s) (hN : X.N.Nodup) (hi : X.N[i]? = some x) (hx : Loc X.env.scope x) (r : RelV v u)
    (h : ∀ s', Inv X pins (σ.set i (some v)) H s' → (∃ a, Heap.SameBut a s.heap s'.heap ∧ (a = X.env.locals ∨ X.env.cells.lookup x = some a)) → Q () s') (hf : X.fn x = true ∨ X.env.scope.names.lookup x = some .local := by first | exact .inl rfl | exact .inr rfl | assumption) : wpAny M A (storeName X.env x u) Q E s := by
  obtain ⟨m, hn, hl⟩ := id I.loc
  have hcls : (X.env.scope.kind == .class || (X.env.scope.kind == .module && X.env.locals != X.env.globals)) = false := by rw [I.ok.kind]; rfl
  have hiσ : i < σ.length := by rw [I.len]; exact (List.getElem?_eq_some_iff.mp hi).1
  have cne := I.cne
  have tracked : ∀ {a : Addr} {h' : Heap}, (∃ o, s.heap.get? a = some o ∧ H a = none) → Heap.SameBut a s.heap h' → HOk X.prog X.w H h' := fun {a h'} ha hs b ob e => by
    obtain ⟨_, _, hfree⟩ := ha
    refine (I.hok b ob e).stay (fun c w' hc q => (hs.2 c ?_).trans q) (fun _ q => q) fun _ _ q => q
    rintro rfl
    rcases hc with rfl | hc
    · rw [hfree] at e; cases e
    · rw [hfree] at hc; cases hc
  rcases hx with hk | hk
  · refine wpAny_storeName_local hk hn (fun h' hn' hs => ?_) hcls
    obtain ⟨oL, _, _, hoL, _⟩ := id hn
    refine h _ ⟨I.ok, I.os, I.bare, ⟨fun b o e n hb hx => ?_, fun b o e n hb hx => ?_, I.base.free, fun b o e hx => ?_, I.base.tups, I.base.frzs, I.base.tbls⟩, ⟨_, hn', fun j y v' e1 e2 e3 => ?_⟩, fun y c e => ?_, I.free, I.freeC, fun p hp => ?_, tracked ⟨oL, hoL, I.free⟩ hs, by simpa using I.len⟩ ⟨_, hs, .inl rfl⟩
    · exact (hs.2 b (Nat.ne_of_lt (Nat.lt_of_lt_of_le (Heap.lt_size e) I.ok.above))).trans (I.base.keep b o e n hb hx)
    · obtain ⟨sl, e1⟩ := I.base.slot b o e n hb hx
      exact ⟨sl, (hs.2 b (Nat.ne_of_lt (Nat.lt_of_lt_of_le (Heap.lt_size e) I.ok.above))).trans e1⟩
    · obtain ⟨o', e1⟩ := I.base.there b o e hx
      exact ⟨o', (hs.2 b (Nat.ne_of_lt (Nat.lt_of_lt_of_le (Heap.lt_size e) I.ok.above))).trans e1⟩
    · by_cases hj : j = i
      · subst hj
        rw [hi] at e1; cases e1
        rw [List.getElem?_set_self hiσ] at e2
        cases e2
        exact ⟨u, r, .inl ⟨hk, by simp⟩⟩
      · rw [List.getElem?_set_ne (Ne.symm hj)] at e2
        obtain ⟨u', r', q⟩ := hl j y v' e1 e2 e3
        refine ⟨u', r', ?_⟩
        rcases q with ⟨k, e⟩ | ⟨k, c, e, z⟩
        · refine .inl ⟨k, ?_⟩
          have : y ≠ x := fun e => hj (nodup_ix hN e1 (e ▸ hi))
          simp [this, e]
        · exact .inr ⟨k, c, e, z.sameBut hs (cne y c e)⟩
    · obtain ⟨w', z⟩ := I.cell y c e
      exact ⟨w', z.sameBut hs (cne y c e)⟩
    · obtain ⟨e, n, ne, nf, d⟩ := I.pin p hp
      exact ⟨(hs.2 p.1 ne).trans e, n, ne, nf, d⟩
  · have hfn : X.fn x = true := by
      rcases hf with z | z
      · exact z
      · rw [z] at hk; cases hk
    obtain ⟨c, hc⟩ := I.ok.has x (.inl hk)
    obtain ⟨w', z⟩ := I.cell x c hc
    refine wpAny_storeName_cell I.ok.kind hk hc z (fun h' hc' hs => ?_)
    obtain ⟨oc, hoc, hocd⟩ := id z
    refine h { s with heap := h' } ⟨I.ok, I.os, I.bare, ⟨fun b o e n hb hx => ?_, fun b o e n hb hx => ?_, I.base.free, fun b o e hx => ?_, I.base.tups, I.base.frzs, I.base.tbls⟩, ⟨m, hn.sameBut hs (Ne.symm (cne x c hc)), fun j y v' e1 e2 e3 => ?_⟩, fun y c' e => ?_, I.free, I.freeC, fun p hp => ?_, tracked ⟨oc, hoc, I.freeC x c hc⟩ hs, by simpa using I.len⟩ ⟨c, hs, .inr hc⟩
    · exact (hs.2 b (Nat.ne_of_lt (Nat.lt_of_lt_of_le (Heap.lt_size e) (I.ok.cab x c hfn hc)))).trans (I.base.keep b o e n hb hx)
    · obtain ⟨sl, e1⟩ := I.base.slot b o e n hb hx
      exact ⟨sl, (hs.2 b (Nat.ne_of_lt (Nat.lt_of_lt_of_le (Heap.lt_size e) (I.ok.cab x c hfn hc)))).trans e1⟩
    · obtain ⟨o', e1⟩ := I.base.there b o e hx
      exact ⟨o', (hs.2 b (Nat.ne_of_lt (Nat.lt_of_lt_of_le (Heap.lt_size e) (I.ok.cab x c hfn hc)))).trans e1⟩
    · by_cases hj : j = i
      · subst hj
        rw [hi] at e1; cases e1
        rw [List.getElem?_set_self hiσ] at e2
        cases e2
        exact ⟨u, r, .inr ⟨.inl hk, c, hc, hc'⟩⟩
      · rw [List.getElem?_set_ne (Ne.symm hj)] at e2
        obtain ⟨u', r', q⟩ := hl j y v' e1 e2 e3
        refine ⟨u', r', ?_⟩
        rcases q with q | ⟨k, c', e, z'⟩
        · exact .inl q
        · refine .inr ⟨k, c', e, z'.sameBut hs ?_⟩
          rintro rfl
          exact hj (nodup_ix hN e1 (I.ok.inj _ _ _ e hc ▸ hi))
    · by_cases hcc : c' = c
      · subst hcc; exact ⟨_, hc'⟩
      · obtain ⟨w2, z2⟩ := I.cell y c' e
        exact ⟨w2, z2.sameBut hs hcc⟩
    · obtain ⟨e, n, ne, nf, d⟩ := I.pin p hp
      refine ⟨(hs.2 p.1 ?_).trans e, n, ne, nf, d⟩
      intro q
      rw [q, hoc] at e
      have q' : oc = p.2 := Option.some.inj e
      exact d w' (by rw [← q']; exact hocd)
theorem store_ok {M : Model} {A : Around} {E : Value → Shared → Prop} {i : Nat} {x : Str} {v : V} {u : Value} {Q : Unit → Shared → Prop} (I : Inv X pins σ H s) (hN : X.N.Nodup) (hi : X.N[i]? = some x) (hx : Loc X.env.scope x) (r : RelV v u)
    (h : ∀ s', Inv X pins (σ.set i (some v)) H s' → Q () s') (hf : X.fn x = true ∨ X.env.scope.names.lookup x = some .local := by first | exact .inl rfl | exact .inr rfl | assumption) : wpAny M A (storeName X.env x u) Q E s :=
  store_ok2 I hN hi hx r (fun s' I' _ => h s' I') hf
/-- behind a call or a block, the state as it is -/
theorem Inv.call' {s' : Shared} {ch : List Addr} (I : Inv X pins σ H s) (ho : s'.os = s.os) (u : Un (frs X.stack) ch H H' s.heap s'.heap) (hok : HOk X.prog X.w H' s'.heap) (hg : AllBare s'.gens)
    (hch : ∀ b ∈ ch, (b ∈ X.ex ∨ X.s₀.heap.objs.size ≤ b) ∧ b ≠ X.env.locals ∧ (∀ x c, X.env.cells.lookup x = some c → c ≠ b) ∧ ∀ p ∈ X.pn ++ pins, p.1 ≠ b) : Inv X pins σ H' s' := by
  obtain ⟨h', g', d', t', o'⟩ := s'
  have e : o' = s.os := ho
  subst e
  exact I.call (g' := g') (t' := t') (d' := d') u hok hg hch
end

/-! ### the judgements -/
/-- an exception: its class, its own dict's address (where it has one), the abstract heap behind it -/
abbrev XK := Value → Option Addr → Hp → Prop
abbrev St := List (Option V)
abbrev VK := V → Hp → Prop
/-- an expression's reading; a test's; an argument list's -/
abbrev TE := St → Hp → VK → Prop
abbrev TT := St → Hp → (Bool → Hp → Prop) → Prop
abbrev TA := St → Hp → (List V → Hp → Prop) → Prop
/-- what is wanted behind a statement -/
structure Ends where
  nx : St → Hp → Prop
  rt : VK
  bk : St → Hp → Prop := fun _ _ => False
  ct : St → Hp → Prop := fun _ _ => False
abbrev TS := Ends → St → Hp → Prop

def EP (X : Cx) (pins : List (Addr × Obj)) (σ : St) (Q : VK) (u : Value) (s' : Shared) : Prop := ∃ v H', Inv X pins σ H' s' ∧ RelV v u ∧ Q v H'
def TP (X : Cx) (pins : List (Addr × Obj)) (σ : St) (Q : Bool → Hp → Prop) (b : Bool) (s' : Shared) : Prop := ∃ H', Inv X pins σ H' s' ∧ Q b H'
def AP (X : Cx) (pins : List (Addr × Obj)) (σ : St) (Q : List V → Hp → Prop) (us : List Value) (s' : Shared) : Prop := ∃ vs H', Inv X pins σ H' s' ∧ Vals vs us ∧ Q vs H'
def SP (X : Cx) (pins : List (Addr × Obj)) (D : Ends) (f : Flow) (s' : Shared) : Prop :=
  match f with
  | .next => ∃ σ' H', Inv X pins σ' H' s' ∧ D.nx σ' H'
  | .brk => ∃ σ' H', Inv X pins σ' H' s' ∧ D.bk σ' H'
  | .cont => ∃ σ' H', Inv X pins σ' H' s' ∧ D.ct σ' H'
  | .ret u => ∃ v σ' H', Inv X pins σ' H' s' ∧ RelV v u ∧ D.rt v H'

def PE (X : Cx) (e : Expr) (t : TE) : Prop :=
  ∀ (pins : List (Addr × Obj)) (s : Shared) (σ : St) (H : Hp) (Q : VK), Inv X pins σ H s → t σ H Q → wpAny (model X.prog X.w) X.A (eval e X.env) (EP X pins σ Q) X.xe s
def PT (X : Cx) (e : Expr) (t : TT) : Prop :=
  ∀ (pins : List (Addr × Obj)) (s : Shared) (σ : St) (H : Hp) (Q : Bool → Hp → Prop), Inv X pins σ H s → t σ H Q → wpAny (model X.prog X.w) X.A (isTrue e X.env (eval e X.env)) (TP X pins σ Q) X.xe s
/-- a test whatever its 'whole' is (and, or) -/
def PW (X : Cx) (e : Expr) (t : TT) : Prop :=
  ∀ (whole : Sem Value) (pins : List (Addr × Obj)) (s : Shared) (σ : St) (H : Hp) (Q : Bool → Hp → Prop), Inv X pins σ H s → t σ H Q → wpAny (model X.prog X.w) X.A (isTrue e X.env whole) (TP X pins σ Q) X.xe s
theorem PW.pt {X : Cx} {e : Expr} {t : TT} (h : PW X e t) : PT X e t := h _
/-- an argument list (no star), from the left -/
def PA (X : Cx) (es : List Expr) (t : TA) : Prop :=
  ∀ (pos : Pos) (pins : List (Addr × Obj)) (s : Shared) (σ : St) (H : Hp) (Q : List V → Hp → Prop), Inv X pins σ H s → t σ H Q → wpAny (model X.prog X.w) X.A (spliced (backTo pos (starEach es X.env))) (AP X pins σ Q) X.xe s
def PS (X : Cx) (st : Stmt) (t : TS) : Prop :=
  ∀ (pins : List (Addr × Obj)) (s : Shared) (σ : St) (H : Hp) (D : Ends), Inv X pins σ H s → t D σ H → wpAny (model X.prog X.w) X.A (exec st X.env) (SP X pins D) X.xe s
def PSs (X : Cx) (st : List Stmt) (t : TS) : Prop :=
  ∀ (pins : List (Addr × Obj)) (s : Shared) (σ : St) (H : Hp) (D : Ends), Inv X pins σ H s → t D σ H → wpAny (model X.prog X.w) X.A (execs st X.env) (SP X pins D) X.xe s
/-- weaken the end -/
theorem thn {α : Type} {t : Sem α} {Q Q' : α → Shared → Prop} {M : Model} {A : Around} {E : Value → Shared → Prop} {s : Shared} (h : wpAny M A t Q E s) (hQ : ∀ a s, Q a s → Q' a s) : wpAny M A t Q' E s := wpAny_mono h hQ fun _ _ x => x
end L2

namespace L2
open PySem PySem.Spec PyProof.Rows
section
variable {X : Cx}

/-! ### names and constants -/
def tVar (i : Nat) : TE := fun σ H Q => ∃ v, σ[i]? = some (some v) ∧ Q v H
def tC (v : V) : TE := fun _ H Q => Q v H
theorem pe_var {i : Nat} {x : Str} {pos : Pos} (hN : X.N[i]? = some x) (hv : Vis X.env.scope x) (hd : (x == ("__debug__" : Str)) = false := by decide) (hcd : (x == ("__classdict__" : Str)) = false := by decide) : PE X (.Name x pos) (tVar i) := by
  intro pins s σ H Q I h
  obtain ⟨v, e, h⟩ := h
  obtain ⟨m, hn, hl⟩ := I.loc
  obtain ⟨u, r, l⟩ := hl i x v hN e hv
  have fin : EP X pins σ Q u s := ⟨v, H, I, r, h⟩
  rcases l with ⟨hk, hm⟩ | ⟨hk, c, hc, hcell⟩
  · exact wpAny_Name (wpAny_loadName_local I.ok.kind hk hn hm fin) hd
  · rcases hk with hk | hk
    · exact wpAny_Name (wpAny_loadName_cell I.ok.kind hk hc hcell fin) hd
    · exact wpAny_Name (wpAny_loadName_free I.ok.kind hk hc hcell fin hcd) hd
theorem pe_int {i j pos} : PE X (.Constant (.int i) j pos) (tC (.int i)) := fun _ _ _ H _ I h => wpAny_Constant_int ⟨.int i, H, I.tok _, ⟨_, rfl⟩, h⟩
theorem pe_bl {b j pos} : PE X (.Constant (.bool b) j pos) (tC (.bl b)) := fun _ _ _ H _ I h => Constant_bool ⟨.bl b, H, I, rfl, h⟩
theorem pe_str {x j pos} : PE X (.Constant (.str x) j pos) (tC (.str x)) := fun _ _ _ H _ I h => Calls.Constant_str ⟨.str x, H, I.tok _, ⟨_, rfl⟩, h⟩

/-- a global name of the def -/
def Gl (X : Cx) (x : Str) : Prop := X.env.kindOf x = some .globalImplicit
theorem ld_glob {E : Value → Shared → Prop} {pins : List (Addr × Obj)} {s : Shared} {σ : St} {H : Hp} {x : Str} {u : Value} {pos : Pos} {Q : Value → Shared → Prop} (I : Inv X pins σ H s) (hg : Gl X x) (hm : X.mg x = some u) (h : Q u s)
    (hd : (x == ("__debug__" : Str)) = false := by decide) : wpAny (model X.prog X.w) X.A (eval (.Name x pos) X.env) Q E s :=
  Calls.Name_function_global I.ok.kind hg (Calls.loadGlobal_global (by rw [I.ok.glob]; exact I.mod.glob.keeps I.bk) hm h) hd
theorem ld_blt {E : Value → Shared → Prop} {pins : List (Addr × Obj)} {s : Shared} {σ : St} {H : Hp} {x : Str} {u : Value} {pos : Pos} {Q : Value → Shared → Prop} (I : Inv X pins σ H s) (hg : Gl X x) (hm : X.mg x = none) (hv : bootBuiltins x = some u) (h : Q u s)
    (hn : x ≠ "__name__" := by decide) (hd : (x == ("__debug__" : Str)) = false := by decide) : wpAny (model X.prog X.w) X.A (eval (.Name x pos) X.env) Q E s := by
  obtain ⟨mb, h1, h2⟩ := I.mod.blt
  exact Calls.Name_function_global I.ok.kind hg (Calls.loadGlobal_builtin (by rw [I.ok.glob]; exact I.mod.glob.keeps I.bk) hm (by rw [I.ok.blt]; exact h1.keeps I.bk) ((h2 x hn).trans hv) h) hd
/-- a module's constant, a class, a function, as a value -/
theorem pe_glob {x : Str} {v : V} {u : Value} {pos : Pos} (hg : Gl X x) (hm : X.mg x = some u) (r : RelV v u) (hd : (x == ("__debug__" : Str)) = false := by decide) : PE X (.Name x pos) (tC v) :=
  fun _ _ _ H _ I h => ld_glob I hg hm ⟨v, H, I, r, h⟩ hd
theorem pe_bltn {x : Str} {v : V} {u : Value} {pos : Pos} (hg : Gl X x) (hm : X.mg x = none) (hv : bootBuiltins x = some u) (r : RelV v u) (hn : x ≠ "__name__" := by decide) (hd : (x == ("__debug__" : Str)) = false := by decide) : PE X (.Name x pos) (tC v) :=
  fun _ _ _ H _ I h => ld_blt I hg hm hv ⟨v, H, I, r, h⟩ hn hd

/-! ### arithmetic -/
variable {a b : Expr} {ta tb : TE} {pos : Pos}
/-! ### comparisons -/
def PC (X : Cx) (op : CmpOp) (a b : Expr) (t : TE) : Prop :=
  ∀ (pins : List (Addr × Obj)) (s : Shared) (σ : St) (H : Hp) (Q : VK), Inv X pins σ H s → t σ H Q →
    wpAny (model X.prog X.w) X.A (eval a X.env) (fun v s₁ => wpAny (model X.prog X.w) X.A (eval b X.env) (fun u s₂ => wpAny (model X.prog X.w) X.A (compareOp op v u) (EP X pins σ Q) X.xe s₂) X.xe s₁) X.xe s
/-- a comparison as a value, as a test -/
def tB (t : TE) : TT := fun σ H Q => t σ H fun x H1 => ∃ c, x = .bl c ∧ Q c H1
theorem pt_cmp {op : CmpOp} {t : TE} (h : PC X op a b t) (h1 : behindInMarks op b = false := by first | exact nobehind _ (by decide) (by decide) | rfl) : PT X (.Compare a [op] [b] pos) (tB t) := by
  intro pins s σ H Q I hw
  refine wpAny_isTrue_Compare1 (thn (h pins s σ H _ I hw) fun v s1 h1 => thn h1 fun u s2 h2 => thn h2 fun c s3 ⟨x, H1, I1, r1, q1⟩ => ?_) h1
  obtain ⟨d, rfl, q⟩ := q1
  cases r1
  exact wpAny_truthy_bool ⟨H1, I1, q⟩
/-- an expression whose value is a bool, as a test -/
theorem pt_val {e : Expr} {t : TE} (h : PE X e t) (he : ∀ whole, isTrue e X.env whole = (do let v ← whole; standAt e.pos; holding [v] (truthy v)) := by intro _; rfl) : PT X e (tB t) := by
  intro pins s σ H Q I hw
  refine isTrue_plain (thn (h pins s σ H _ I hw) fun v s1 ⟨x, H1, I1, r1, q1⟩ => ?_) (he _)
  obtain ⟨d, rfl, q⟩ := q1
  cases r1
  exact wpAny_truthy_bool ⟨H1, I1, q⟩

/-! ### and, or, not -/
variable {tA tB' : TT} {rest : List Expr}
def tAnd (t u : TT) : TT := fun σ H Q => t σ H fun c H1 => if c = true then u σ H1 Q else Q false H1
def tOr (t u : TT) : TT := fun σ H Q => t σ H fun c H1 => if c = true then Q true H1 else u σ H1 Q
def tNot (t : TT) : TT := fun σ H Q => t σ H fun c H1 => Q (!c) H1
theorem pw_and1 (ha : PT X a tA) : PW X (.BoolOp .And [a] pos) tA := by
  intro wh pins s σ H Q I h
  refine isTrue_and (thn (ha pins s σ H Q I h) fun c s1 e => ?_)
  cases c with
  | true => exact isTrue_and_nil e
  | false => exact e
theorem pw_or1 (ha : PT X a tA) : PW X (.BoolOp .Or [a] pos) tA := by
  intro wh pins s σ H Q I h
  refine isTrue_or (thn (ha pins s σ H Q I h) fun c s1 e => ?_)
  cases c with
  | false => exact isTrue_or_nil e
  | true => exact e
theorem pw_and (ha : PT X a tA) (hb : PW X (.BoolOp .And (b :: rest) pos) tB') : PW X (.BoolOp .And (a :: b :: rest) pos) (tAnd tA tB') := by
  intro wh pins s σ H Q I h
  refine isTrue_and (thn (ha pins s σ H _ I h) fun c s1 ⟨H1, I1, q1⟩ => ?_)
  cases c with
  | true => exact hb wh pins s1 σ H1 Q I1 q1
  | false => exact ⟨H1, I1, q1⟩
theorem pw_or (ha : PT X a tA) (hb : PW X (.BoolOp .Or (b :: rest) pos) tB') : PW X (.BoolOp .Or (a :: b :: rest) pos) (tOr tA tB') := by
  intro wh pins s σ H Q I h
  refine isTrue_or (thn (ha pins s σ H _ I h) fun c s1 ⟨H1, I1, q1⟩ => ?_)
  cases c with
  | true => exact ⟨H1, I1, q1⟩
  | false => exact hb wh pins s1 σ H1 Q I1 q1
theorem pt_not (ha : PT X a tA) : PT X (.UnaryOp .Not a pos) (tNot tA) := by
  intro pins s σ H Q I h
  exact isTrue_not (ha pins s σ H (fun c H1 => Q (!c) H1) I h)
/-- .. as values (bools) -/
def tAndV (ta tb : TE) : TE := fun σ H Q => ta σ H fun x H1 => ∃ c, x = .bl c ∧ if c = true then tb σ H1 Q else Q (.bl false) H1
def tNotV (ta : TE) : TE := fun σ H Q => ta σ H fun x H1 => ∃ c, x = .bl c ∧ Q (.bl (!c)) H1
theorem pe_one {op} {t : TE} (h : PE X a t) : PE X (.BoolOp op [a] pos) t := fun pins s σ H Q I hw => BoolOp_one (h pins s σ H Q I hw)
theorem pe_and (ha : PE X a ta) (hb : PE X (.BoolOp .And (b :: rest) pos) tb) : PE X (.BoolOp .And (a :: b :: rest) pos) (tAndV ta tb) := by
  intro pins s σ H Q I h
  refine BoolOp_and (thn (ha pins s σ H _ I h) fun v s1 ⟨x, H1, I1, r1, q1⟩ => ?_)
  obtain ⟨c, rfl, q1⟩ := q1
  cases r1
  refine wpAny_truthy_bool ?_
  cases c with
  | true => exact hb pins s1 σ H1 Q I1 q1
  | false => exact ⟨.bl false, H1, I1, rfl, q1⟩
theorem pe_not (ha : PE X a ta) : PE X (.UnaryOp .Not a pos) (tNotV ta) := by
  intro pins s σ H Q I h
  refine UnaryOp_ (thn (ha pins s σ H _ I h) fun v s1 ⟨x, H1, I1, r1, q1⟩ => ?_)
  obtain ⟨c, rfl, q1⟩ := q1
  cases r1
  exact not_of (wpAny_truthy_bool ⟨.bl (!c), H1, I1, rfl, q1⟩)
end
end L2

namespace L2
open PySem PySem.Spec PyProof.Rows

/-! ### a list, a tuple that is read: tracked, frozen, or an object of the module -/
def SqL (K : PySem.W.Frag) (H : Hp) (a : Addr) (xs : List V) : Prop :=
  Rd H a (.lst xs) ∨
    ∃ (o : Obj) (its : Array Value) (n : Nat), K.lookup a = some o ∧ o.cls = .type "list" ∧ o.dict = none ∧ o.data = .seq its n ∧ its.size ≤ sizeLine ∧ Vals xs its.toList
def SqT (K : PySem.W.Frag) (H : Hp) (a : Addr) (xs : List V) : Prop :=
  Rd H a (.tup xs) ∨
    ∃ (o : Obj) (its : Array Value) (n : Nat), K.lookup a = some o ∧ o.cls = .type "tuple" ∧ o.data = .seq its n ∧ its.size ≤ sizeLine ∧ Vals xs its.toList
def absV : Value → Option V
  | .none => some .non
  | .bool b => some (.bl b)
  | .int i _ => some (.int i)
  | .str x _ => some (.str x)
  | .bytes b _ => some (.byt b)
  | .float b _ => some (.flt b)
  | .ref a => some (.ref a)
  | .type n => some (.ty n)
  | _ => none
theorem RelV.abs {x : V} {u : Value} (r : RelV x u) : absV u = some x := by
  cases x with
  | non => cases r; rfl
  | bl _ => cases r; rfl
  | int _ => obtain ⟨t, rfl⟩ := r; rfl
  | str _ => obtain ⟨t, rfl⟩ := r; rfl
  | byt _ => obtain ⟨t, rfl⟩ := r; rfl
  | flt _ => obtain ⟨t, rfl⟩ := r; rfl
  | ref _ => cases r; rfl
  | ty _ => cases r; rfl
theorem RelV.inj {x y : V} {u : Value} (r : RelV x u) (q : RelV y u) : x = y := Option.some.inj (r.abs.symm.trans q.abs)
theorem Vals.inj : ∀ {xs ys : List V} {us : List Value}, Vals xs us → Vals ys us → xs = ys
  | _, _, _, .nil, .nil => rfl
  | _, _, _, .cons r t, .cons r' t' => by rw [r.inj r', Vals.inj t t']
section
variable {X : Cx} {pins : List (Addr × Obj)} {σ : St} {H : Hp} {s : Shared} {a : Addr} {xs ys : List V}
theorem SqL.of {K : PySem.W.Frag} (h : H a = some (.lst xs)) : SqL K H a xs := .inl (.inl h)
theorem SqT.of {K : PySem.W.Frag} (h : H a = some (.tup xs)) : SqT K H a xs := .inl (.inl h)
theorem Inv.list (I : Inv X pins σ H s) (h : SqL X.K H a xs) : ∃ its : List Value, Vals xs its ∧ PlainL s.heap a its.toArray ∧ xs.length ≤ sizeLine := by
  rcases h with h | ⟨o, its, n, hk, hc, hd, hs, hz, r⟩
  · obtain ⟨z, its, n, r, e⟩ := h.ok I.hok
    exact ⟨its, r, ⟨_, n, e, rfl, rfl, rfl⟩, z⟩
  · refine ⟨its.toList, r, ⟨o, n, I.kIn a o hk, hc, hd, by simpa using hs⟩, ?_⟩
    have e := r.length
    simp only [Array.length_toList] at e
    omega
theorem Inv.tuple (I : Inv X pins σ H s) (h : SqT X.K H a xs) : ∃ its : List Value, Vals xs its ∧ IsTup s.heap a its.toArray ∧ xs.length ≤ sizeLine := by
  rcases h with h | ⟨o, its, n, hk, hc, hs, hz, r⟩
  · obtain ⟨z, its, r, p⟩ := h.ok I.hok
    exact ⟨its, r, p.tup, z⟩
  · refine ⟨its.toList, r, ⟨o, I.kIn a o hk, hc, n, by simpa using hs⟩, ?_⟩
    have e := r.length
    simp only [Array.length_toList] at e
    omega
theorem Inv.list_inj (I : Inv X pins σ H s) (h : SqL X.K H a xs) (h' : SqL X.K H a ys) : xs = ys := by
  obtain ⟨its, r, ⟨o, n, e, _, _, d⟩, _⟩ := I.list h
  obtain ⟨its', r', ⟨o', n', e', _, _, d'⟩, _⟩ := I.list h'
  rw [e] at e'; cases e'
  rw [d] at d'
  injection d' with d1 _
  have : its = its' := by simpa using congrArg Array.toList d1
  subst this
  exact r.inj r'
end

/-! ### another wish about exceptions -/
abbrev Cx.wish (X : Cx) (E : Value → Shared → Prop) : Cx := { X with xe := E }
/-- no exception leaves -/
abbrev Cx.nox (X : Cx) : Cx := X.wish fun _ _ => False
theorem Cx.Ok.wish {X : Cx} (ok : X.Ok) (E : Value → Shared → Prop) : (X.wish E).Ok :=
  ⟨ok.mod, ok.kind, ok.glob, ok.blt, ok.above, ok.inj, ok.has, ok.cab, ok.hd, ok.frames, ok.stk, ok.exf, ok.bs, ok.bsz, ok.noex, ok.exfs, ok.funs, ok.frf⟩
theorem Cx.Ok.unwish {X : Cx} {E : Value → Shared → Prop} (ok : (X.wish E).Ok) : X.Ok :=
  ⟨ok.mod, ok.kind, ok.glob, ok.blt, ok.above, ok.inj, ok.has, ok.cab, ok.hd, ok.frames, ok.stk, ok.exf, ok.bs, ok.bsz, ok.noex, ok.exfs, ok.funs, ok.frf⟩
section
variable {X : Cx} {pins : List (Addr × Obj)} {σ : St} {H : Hp} {s : Shared} {E : Value → Shared → Prop}
theorem Inv.wish (I : Inv X pins σ H s) (E : Value → Shared → Prop) : Inv (X.wish E) pins σ H s := ⟨I.ok.wish E, I.os, I.bare, I.base, I.loc, I.cell, I.free, I.freeC, I.pin, I.hok, I.len⟩
theorem Inv.unwish (I : Inv (X.wish E) pins σ H s) : Inv X pins σ H s := ⟨I.ok.unwish, I.os, I.bare, I.base, I.loc, I.cell, I.free, I.freeC, I.pin, I.hok, I.len⟩
theorem SP.unwish {D : Ends} {f : Flow} {s' : Shared} (h : SP (X.wish E) pins D f s') : SP X pins D f s' := by
  cases f with
  | next => obtain ⟨σ', H', I, q⟩ := h; exact ⟨σ', H', I.unwish, q⟩
  | brk => obtain ⟨σ', H', I, q⟩ := h; exact ⟨σ', H', I.unwish, q⟩
  | cont => obtain ⟨σ', H', I, q⟩ := h; exact ⟨σ', H', I.unwish, q⟩
  | ret u => obtain ⟨v, σ', H', I, r, q⟩ := h; exact ⟨v, σ', H', I.unwish, r, q⟩
theorem PSs.nox {st : List Stmt} {t : TS} (h : PSs X.nox st t) : PSs X st t := fun pins s σ H D I hw =>
  wpAny_mono (h pins s σ H D (I.wish _) hw) (fun _ _ q => q.unwish) fun _ _ z => False.elim z
end

/-! ### blocks and small statements -/
section
variable {X : Cx} {st : Stmt} {rest : List Stmt} {t u : TS} {e : Expr} {te : TE} {pos : Pos}
def tNext : TS := fun D σ H => D.nx σ H
def tSeq (t u : TS) : TS := fun D σ H => t { D with nx := u D } σ H
theorem pss_nil : PSs X [] tNext := fun _ _ σ H _ I h => wpAny_execs_nil ⟨σ, H, I, h⟩
theorem pss_cons (h1 : PS X st t) (h2 : PSs X rest u) : PSs X (st :: rest) (tSeq t u) := by
  intro pins s σ H D I h
  refine wpAny_execs_cons (thn (h1 pins s σ H { D with nx := u D } I h) fun f s1 q => ?_)
  cases f with
  | next =>
    obtain ⟨σ', H', I', q⟩ := q
    exact h2 pins s1 σ' H' D I' q
  | ret v => exact q
  | brk => exact q
  | cont => exact q
theorem pss_one (h1 : PS X st t) : PSs X [st] t := by
  intro pins s σ H D I h
  refine wpAny_execs_cons (thn (h1 pins s σ H D I h) fun f s1 q => ?_)
  cases f with
  | next => exact wpAny_execs_nil q
  | ret v => exact q
  | brk => exact q
  | cont => exact q
/-- in a def's body nothing is shown -/
theorem Inv.quiet {pins : List (Addr × Obj)} {σ : St} {H : Hp} {s : Shared} (I : Inv X pins σ H s) : interactive X.env = false := by simp [interactive, I.ok.kind]
/-- an expression whose value is dropped -/
def tDrop (te : TE) : TS := fun D σ H => te σ H fun _ H1 => D.nx σ H1
theorem ps_expr (he : PE X e te) (hs : swapsWith e none pos.line X.env = pure false := by rfl) : PS X (.Expr e pos) (tDrop te) := by
  intro pins s σ H D I h
  exact wpAny_Expr_any (thn (he pins s σ H _ I h) fun v s1 ⟨x, H1, I1, r1, q1⟩ => ⟨σ, H1, I1, q1⟩) I.quiet hs
def tRet (te : TE) : TS := fun D σ H => te σ H D.rt
theorem ps_ret (he : PE X e te) : PS X (.Return (some e) pos) (tRet te) := by
  intro pins s σ H D I h
  exact wpAny_Return_some (thn (he pins s σ H _ I h) fun v s1 ⟨x, H1, I1, r1, q1⟩ => ⟨x, σ, H1, I1, r1, q1⟩)
def tIfS (c : TT) (t u : TS) : TS := fun D σ H => c σ H fun b H1 => if b = true then t D σ H1 else u D σ H1
theorem ps_if {c : Expr} {a b : List Stmt} {tc : TT} (hc : PT X c tc) (ha : PSs X a t) (hb : PSs X b u) : PS X (.If c a b pos) (tIfS tc t u) := by
  intro pins s σ H D I h
  refine wpAny_If (thn (hc pins s σ H _ I h) fun d s1 ⟨H1, I1, q1⟩ => ?_)
  cases d with
  | true => exact ha pins s1 σ H1 D I1 q1
  | false => exact hb pins s1 σ H1 D I1 q1
/-- code that the proof never comes to -/
def tNever : TS := fun _ _ _ => False
theorem ps_never : PS X st tNever := fun _ _ _ _ _ _ h => h.elim
end

/-! ### targets -/
abbrev TG := V → St → Hp → (St → Hp → Prop) → Prop
abbrev TGs := List V → St → Hp → (St → Hp → Prop) → Prop
def PG (X : Cx) (target : Expr) (t : TG) : Prop :=
  ∀ (pins : List (Addr × Obj)) (s : Shared) (σ : St) (H : Hp) (v : V) (u : Value) (Q : St → Hp → Prop), Inv X pins σ H s → RelV v u → t v σ H Q →
    wpAny (model X.prog X.w) X.A (assign target X.env u) (fun _ s' => ∃ σ' H', Inv X pins σ' H' s' ∧ Q σ' H') X.xe s
/-- several targets, one after another -/
def PGs (X : Cx) (ts : List Expr) (t : TGs) : Prop :=
  ∀ (pins : List (Addr × Obj)) (s : Shared) (σ : St) (H : Hp) (vs : List V) (us : List Value) (Q : St → Hp → Prop), Inv X pins σ H s → Vals vs us → t vs σ H Q →
    wpAny (model X.prog X.w) X.A (assignInOrder ((assignEach ts X.env).map (·.2)) us) (fun _ s' => ∃ σ' H', Inv X pins σ' H' s' ∧ Q σ' H') X.xe s
/-- o[i] = v, by values -/
abbrev TSet := V → V → V → Hp → (Hp → Prop) → Prop
def PSet (X : Cx) (t : TSet) : Prop :=
  ∀ (pins : List (Addr × Obj)) (s : Shared) (σ : St) (H : Hp) (o i v : V) (ov iv u : Value) (Q : Hp → Prop), Inv X pins σ H s → RelV o ov → RelV i iv → RelV v u → t o i v H Q →
    wpAny (model X.prog X.w) X.A (setItem ov iv u) (fun _ s' => ∃ H', Inv X pins σ H' s' ∧ Q H') X.xe s
/-- a op= b, by values -/
abbrev TIp := V → V → Hp → VK → Prop
def PIp (X : Cx) (op : Operator) (t : TIp) : Prop :=
  ∀ (pins : List (Addr × Obj)) (s : Shared) (σ : St) (H : Hp) (x y : V) (v u : Value) (Q : VK), Inv X pins σ H s → RelV x v → RelV y u → t x y H Q →
    wpAny (model X.prog X.w) X.A (inplaceOp op v u) (EP X pins σ Q) X.xe s
section
variable {X : Cx} {pos : Pos}
def gName (i : Nat) : TG := fun v σ H Q => Q (σ.set i (some v)) H
theorem pg_name {i : Nat} {x : Str} (hN : X.N.Nodup) (hi : X.N[i]? = some x) (hx : Loc X.env.scope x) (hf : X.fn x = true ∨ X.env.scope.names.lookup x = some .local := by first | exact .inl rfl | exact .inr rfl | assumption) : PG X (.Name x pos) (gName i) := by
  intro pins s σ H v u Q I r h
  exact wpAny_assign_Name (store_ok I hN hi hx r (fun s' I' => ⟨_, H, I', h⟩) hf)
def gNil : TGs := fun vs σ H Q => vs = [] ∧ Q σ H
def gCons (t : TG) (u : TGs) : TGs := fun vs σ H Q => ∃ v r, vs = v :: r ∧ t v σ H fun σ' H' => u r σ' H' Q
theorem pgs_nil : PGs X [] gNil := by
  intro pins s σ H vs us Q I r h
  obtain ⟨e, h⟩ := h
  subst e
  cases r
  exact assignInOrder_nil ⟨σ, H, I, h⟩
theorem pgs_cons {e : Expr} {es : List Expr} {t : TG} {u : TGs} (h1 : PG X e t) (h2 : PGs X es u)
    (hs : (assignEach (e :: es) X.env).map (·.2) = assign e X.env :: (assignEach es X.env).map (·.2) := by rfl) : PGs X (e :: es) (gCons t u) := by
  intro pins s σ H vs us Q I r h
  obtain ⟨v, vr, e1, h⟩ := h
  subst e1
  cases r with
  | cons r rr =>
    rw [hs]
    refine assignInOrder_cons (thn (h1 pins s σ H _ _ _ I r h) fun _ s1 ⟨σ1, H1, I1, q1⟩ => ?_)
    exact h2 pins s1 σ1 H1 _ _ Q I1 rr q1
/-- (a, b, ..) = a tuple of that length -/
def gTup (K : PySem.W.Frag) (n : Nat) (t : TGs) : TG := fun v σ H Q => ∃ a xs, v = .ref a ∧ SqT K H a xs ∧ xs.length = n ∧ t xs σ H Q
theorem pg_tup {es : List Expr} {k : Nat} {t : TGs} {n : Nat} (hc : X.calm = true) (h : PGs X es t)
    (hn : (assignEach es X.env).length = n := by rfl) (hst : (assignEach es X.env).findIdx? (·.1) = none := by rfl) : PG X (.Tuple es k pos) (gTup X.K n t) := by
  intro pins s σ H v u Q I r hw
  obtain ⟨a, xs, e1, hq, hl, hw⟩ := hw
  subst e1
  cases r
  obtain ⟨its, rv, ht, hz⟩ := I.tuple hq
  refine assign_Tuple_tuple (I.ok.hd hc) ht (by simp [hn, ← hl, rv.length]) hst fun h' hx => ?_
  have I1 : Inv X pins σ H { s with heap := h' } := I.kept (t' := s.toks) fun b o e => hx b o (Nat.ne_of_lt (Heap.lt_size e)) e
  exact h pins _ σ H xs _ Q I1 (by simpa using rv) hw
/-- target = value -/
def tAsg (te : TE) (g : TG) : TS := fun D σ H => te σ H fun x H1 => g x σ H1 D.nx
theorem ps_asg {tg e : Expr} {te : TE} {g : TG} (he : PE X e te) (hg : PG X tg g) (hs : swapsWithSole [tg] e pos.line X.env = pure false := by rfl) (hw : swappedStores [tg] e X.env = pure none := by rfl)
    (h1 : (assignEach [tg] X.env).map (·.2) = [assign tg X.env] := by rfl) : PS X (.Assign [tg] e pos) (tAsg te g) := by
  intro pins s σ H D I h
  refine wpAny_Assign_stores (thn (he pins s σ H _ I h) fun v s1 ⟨x, H1, I1, r1, q1⟩ => ?_) hs hw
  rw [h1]
  exact thn (hg pins s1 σ H1 x v _ I1 r1 q1) fun _ s2 q => q
/-- name = value -/
theorem ps_set {i : Nat} {x : Str} {e : Expr} {te : TE} {pos' : Pos} (hN : X.N.Nodup) (hi : X.N[i]? = some x) (hx : Loc X.env.scope x) (he : PE X e te) (hs : swapsWith e (some (.Name x pos')) pos.line X.env = pure false := by rfl) (hf : X.fn x = true ∨ X.env.scope.names.lookup x = some .local := by first | exact .inl rfl | exact .inr rfl | assumption) :
    PS X (.Assign [.Name x pos'] e pos) (tAsg te (gName i)) := by
  intro pins s σ H D I h
  refine wpAny_Assign_Name (thn (he pins s σ H _ I h) fun v s1 ⟨y, H1, I1, r1, q1⟩ => ?_) hs
  exact store_ok I1 hN hi hx r1 (fun s2 I2 => ⟨_, H1, I2, q1⟩) hf
/-- a, b = x, y with plain local names: stored from the right; the pair itself is not tracked (the opening rows as in PyProof/Rows/TupAssign.lean:23) -/
def tPar (i j : Nat) (ta : TA) : TS := fun D σ H => ta σ H fun vs H1 => ∃ v w, vs = [v, w] ∧ D.nx ((σ.set i (some v)).set j (some w)) H1
theorem ps_par {i j : Nat} {x y : Str} {a b : Expr} {ta : TA} {px py pt : Pos} {kt k2 pt2} (hc : X.calm = true) (hN : X.N.Nodup) (hi : X.N[i]? = some x) (hj : X.N[j]? = some y) (hij : i ≠ j)
    (hx : X.env.scope.names.lookup x = some .local) (hy : X.env.scope.names.lookup y = some .local) (ha : PA X [a, b] ta)
    (hw : swappedStores [.Tuple [.Name x px, .Name y py] kt pt] (.Tuple [a, b] k2 pt2) X.env = pure (some [x, y]))
    (hs : swapsWithSole [.Tuple [.Name x px, .Name y py] kt pt] (.Tuple [a, b] k2 pt2) pos.line X.env = pure false := by rfl) :
    PS X (.Assign [.Tuple [.Name x px, .Name y py] kt pt] (.Tuple [a, b] k2 pt2) pos) (tPar i j ta) := by
  intro pins s σ H D I h
  rw [exec_Assign_arm]
  refine wpAny_bind (wpAny_standAt ?_)
  rw [hs]
  refine wpAny_bind (wpAny_pure ?_)
  rw [if_neg (by decide)]
  refine wpAny_bind (Tuple_ (thn (ha _ pins s σ H _ I h) fun us s1 ⟨vs, H1, I1, r1, q1⟩ => ?_))
  obtain ⟨v, w, e1, q1⟩ := q1
  subst e1
  obtain ⟨u1, u2, rfl, rv, rw'⟩ : ∃ u1 u2, us = [u1, u2] ∧ RelV v u1 ∧ RelV w u2 := by
    cases r1 with
    | cons p q =>
      cases q with
      | cons p' q' =>
        cases q'
        exact ⟨_, _, rfl, p, p'⟩
  refine wpAny_newObj_type ?_ (by show 2 ≤ sizeLine; decide)
  have I2 : Inv X pins σ H1 { s1 with heap := s1.heap.push { cls := .type "tuple", data := .seq [u1, u2].toArray } } := I1.kept (t' := s1.toks) fun b o e => Heap.get?_push_of_some _ e
  rw [hw]
  refine wpAny_bind (wpAny_pure ?_)
  show wpAny (model X.prog X.w) X.A (do rule "assign.swapped-stores"; let items ← unpackItems (.ref s1.heap.objs.size) 2 none; assignInOrder [fun v => bindName X.env y v, fun v => bindName X.env x v] items.reverse; pure Flow.next) _ _ _
  refine wpAny_bind (wpAny_rule (wpAny_bind (unpackItems_tuple (items := #[u1, u2]) (I.ok.hd hc) (IsTup.new s1.heap _) fun h' hx' => ?_)))
  have I3 := I2.kept (h' := h') (t' := s1.toks) fun b o e => hx' b o (Nat.ne_of_lt (Heap.lt_size e)) e
  show wpAny _ _ (assignInOrder [fun v => bindName X.env y v, fun v => bindName X.env x v] [u2, u1] >>= fun _ => pure Flow.next) _ _ _
  refine wpAny_bind (assignInOrder_cons (wpAny_bindName (store_ok I3 hN hj (.inl hy) rw' (fun s2 I4 => ?_) (.inr hy))))
  refine assignInOrder_cons (wpAny_bindName (store_ok I4 hN hi (.inl hx) rv (fun s3 I5 => assignInOrder_nil (wpAny_pure ?_)) (.inr hx)))
  rw [List.set_comm _ _ (Ne.symm hij)] at I5
  exact ⟨_, H1, I5, q1⟩
/-- o[i] op= e -/
def tAugS (to ti te : TE) (tget : V → V → Hp → VK → Prop) (tip : TIp) (tset : TSet) : TS := fun D σ H => to σ H fun o H1 => ti σ H1 fun i H2 => tget o i H2 fun x H3 => te σ H3 fun y H4 => tip x y H4 fun z H5 => tset o i z H5 fun H6 => D.nx σ H6
/-- o[i], by values -/
def PGet (X : Cx) (t : V → V → Hp → VK → Prop) : Prop :=
  ∀ (pins : List (Addr × Obj)) (s : Shared) (σ : St) (H : Hp) (o i : V) (ov iv : Value) (Q : VK), Inv X pins σ H s → RelV o ov → RelV i iv → t o i H Q →
    wpAny (model X.prog X.w) X.A (getItem ov iv) (EP X pins σ Q) X.xe s
theorem ps_augS {o i e : Expr} {to ti te : TE} {tget : V → V → Hp → VK → Prop} {tip : TIp} {tset : TSet} {op : Operator} {tpos : Pos} (ho : PE X o to) (hi : PE X i ti) (hg : PGet X tget) (he : PE X e te) (hp : PIp X op tip) (hs : PSet X tset)
    (ha : ∀ ov iv new, augStore i ov iv new = (do holding [new, ov, iv] (setItem ov iv new); release [new, ov, iv] []; pure .next) := by intros; rfl) : PS X (.AugAssign (.Subscript o i tpos) op e pos) (tAugS to ti te tget tip tset) := by
  intro pins s σ H D I h
  refine wpAny_AugAssign_SubscriptAny (thn (ho pins s σ H _ I h) fun ov s1 ⟨x1, H1, I1, r1, q1⟩ => ?_) ha
  refine thn (hi pins s1 σ H1 _ I1 q1) fun iv s2 ⟨x2, H2, I2, r2, q2⟩ => ?_
  refine thn (hg pins s2 σ H2 x1 x2 ov iv _ I2 r1 r2 q2) fun old s3 ⟨x3, H3, I3, r3, q3⟩ => ?_
  refine thn (he pins s3 σ H3 _ I3 q3) fun v s4 ⟨x4, H4, I4, r4, q4⟩ => ?_
  refine thn (hp pins s4 σ H4 x3 x4 old v _ I4 r3 r4 q4) fun new s5 ⟨x5, H5, I5, r5, q5⟩ => ?_
  exact thn (hs pins s5 σ H5 x1 x2 x5 ov iv new _ I5 r1 r2 r5 q5) fun _ s6 ⟨H6, I6, q6⟩ => ⟨σ, H6, I6, q6⟩
/-- ints -/
def ipI (f : Int → Int → Int) : TIp := fun x y H Q => ∃ i j, x = .int i ∧ y = .int j ∧ Q (.int (f i j)) H
theorem ip_add : PIp X .Add (ipI fun i j => i + j) := by
  intro pins s σ H x y v u Q I r1 r2 h
  obtain ⟨i, j, e1, e2, q⟩ := h
  subst e1; subst e2
  obtain ⟨t, rfl⟩ := r1
  obtain ⟨t', rfl⟩ := r2
  exact iadd_int ⟨.int _, H, I.tok _, ⟨_, rfl⟩, q⟩
theorem ip_sub : PIp X .Sub (ipI fun i j => i - j) := by
  intro pins s σ H x y v u Q I r1 r2 h
  obtain ⟨i, j, e1, e2, q⟩ := h
  subst e1; subst e2
  obtain ⟨t, rfl⟩ := r1
  obtain ⟨t', rfl⟩ := r2
  exact isub_int ⟨.int _, H, I.tok _, ⟨_, rfl⟩, q⟩
end

/-! ### while -/
section
variable {X : Cx} {pos : Pos}
end

/-! ### what a loop or a comprehension walks -/
/-- at turn i: it yields x (the heap may grow), or it stops -/
structure It where
  go : Nat → Hp → Prop
  yld : Nat → Hp → V → Hp → Prop
  stop : Nat → Hp → Prop
/-- the iterator's own objects may turn: they are not the frame's, not pinned, younger than the entry (or a comprehension's own) -/
def FpOk (X : Cx) (pins : List (Addr × Obj)) (H : Hp) (b : Addr) : Prop :=
  H b = none ∧ b ≠ X.env.locals ∧ b ∉ X.fs ∧ (b ∈ X.ex ∨ X.s₀.heap.objs.size ≤ b) ∧ (∀ x c, X.env.cells.lookup x = some c → c ≠ b) ∧ ∀ p ∈ X.pn ++ pins, p.1 ≠ b
theorem Inv.fpOk {X : Cx} {pins : List (Addr × Obj)} {σ : St} {H H' : Hp} {s : Shared} {b : Addr} (I : Inv X pins σ H s) (hb : s.heap.objs.size ≤ b) (hn : H' b = none) : FpOk X pins H' b := by
  refine ⟨hn, Nat.ne_of_gt (Nat.lt_of_lt_of_le I.lt hb), I.nofs hb, .inr (Nat.le_trans I.sz hb), fun x c e z => ?_, fun p hp z => ?_⟩
  · obtain ⟨v, q⟩ := I.cell x c e
    exact absurd (Nat.lt_of_lt_of_le q.lt (by rw [z]; exact hb)) (Nat.lt_irrefl _)
  · exact absurd (Nat.lt_of_lt_of_le (Heap.lt_size (I.pin p hp).1) (by rw [z]; exact hb)) (Nat.lt_irrefl _)
structure Turn (P : Program) (w : World) (K : PySem.W.Frag) (tg : Expr) (J : It) (fp : List Addr) (it : Addr) (tn : Nat → Heap → Prop) : Prop where
  mem : it ∈ fp
  obj : ∀ i h, tn i h → ∀ b ∈ fp, ∃ o, h.get? b = some o ∧ ∀ v, o.data ≠ .cell v
  keep : ∀ i h h', tn i h → (∀ b ∈ fp, ∀ o, h.get? b = some o → h'.get? b = some o) → tn i h'
  item : ∀ (X : Cx), X.prog = P → X.w = w → X.K = K → X.calm = true → ∀ (i : Nat) (pins : List (Addr × Obj)) (s : Shared) (σ : St) (H : Hp) (E : Value → Shared → Prop), Inv X pins σ H s → (∀ b ∈ fp, FpOk X pins H b) → tn i s.heap → J.go i H →
    wpAny (model P w) X.A (pyNext (.ref it)) (fun r s1 => ∃ u, r = some u ∧
      wpAny (model P w) X.A (letOwnedTupleGo tg (.ref it) u) (fun _ s2 => ∃ x H', Inv X pins σ H' s2 ∧ RelV x u ∧ J.yld i H x H' ∧ tn (i + 1) s2.heap ∧ ∀ b ∈ fp, H' b = none) E s1) E s
  done : ∀ (X : Cx), X.prog = P → X.w = w → X.K = K → X.calm = true → ∀ (i : Nat) (pins : List (Addr × Obj)) (s : Shared) (σ : St) (H : Hp) (E : Value → Shared → Prop), Inv X pins σ H s → (∀ b ∈ fp, FpOk X pins H b) → tn i s.heap → J.stop i H →
    wpAny (model P w) X.A (pyNext (.ref it)) (fun r s1 => r = none ∧ Inv X pins σ H s1) E s
  self : ∀ (A : Around) (i : Nat) (s : Shared) (Q : Value → Shared → Prop) (E : Value → Shared → Prop), tn i s.heap → Q (.ref it) s → wpAny (model P w) A (pyIter (.ref it)) Q E s
abbrev TI := St → Hp → (It → Hp → Prop) → Prop
/-- an iterator has come -/
def PIE (X : Cx) (pins : List (Addr × Obj)) (σ : St) (tg : Expr) (R : It → Hp → Prop) (itv : Value) (s2 : Shared) : Prop :=
  ∃ (it : Addr) (fp : List Addr) (tn : Nat → Heap → Prop) (J : It) (H' : Hp), itv = .ref it ∧ Inv X pins σ H' s2 ∧ Turn X.prog X.w X.K tg J fp it tn ∧ tn 0 s2.heap ∧ (∀ b ∈ fp, FpOk X pins H' b) ∧ R J H'
def PI (X : Cx) (tg iter : Expr) (wi : TI) : Prop :=
  ∀ (pins : List (Addr × Obj)) (s : Shared) (σ : St) (H : Hp) (R : It → Hp → Prop), Inv X pins σ H s → wi σ H R →
    wpAny (model X.prog X.w) X.A (eval iter X.env) (fun v s1 => wpAny (model X.prog X.w) X.A (pyIter v) (PIE X pins σ tg R) X.xe s1) X.xe s

/-- the step ahead of the store is nothing for an iterator that keeps no tuple -/
theorem go_of {M : Model} {A : Around} {E : Value → Shared → Prop} {s : Shared} {tg : Expr} {it : Addr} {u : Value} {o : Obj} {n : String} {vs : Array Value} {Q : Unit → Shared → Prop} (ho : s.heap.get? it = some o) (hc : o.cls = .type n) (hd : o.data = .fields vs)
    (hn : ["enumerate", "zip", "dict_itemiterator", "dict_reverseitemiterator", "odict_iterator", "itertools.zip_longest", "itertools.pairwise"].contains n = false) (hQ : Q () s) : wpAny M A (letOwnedTupleGo tg (.ref it) u) Q E s := by
  unfold letOwnedTupleGo
  cases tg <;> first
    | exact wpAny_pure hQ
    | (cases u <;> first
        | exact wpAny_pure hQ
        | (refine wpAny_bind (wpAny_load ho ?_)
           rw [hc, hd]
           show wpAny M A (if (["enumerate", "zip", "dict_itemiterator", "dict_reverseitemiterator", "odict_iterator", "itertools.zip_longest", "itertools.pairwise"].contains n && vs[0]? == some (rawInt _)) = true then _ else _) Q E s
           rw [if_neg (by intro h; rw [hn, Bool.false_and] at h; cases h)]
           exact wpAny_pure hQ))

/-- the list at a, as it stands at each turn (a loop may append to it) -/
def Itl (K : PySem.W.Frag) (a : Addr) : It :=
  ⟨fun i H => ∃ xs x, SqL K H a xs ∧ xs[i]? = some x, fun i H x H' => H' = H ∧ ∀ xs, SqL K H a xs → xs[i]? = some x, fun i H => ∃ xs, SqL K H a xs ∧ xs.length ≤ i⟩
/-- lo, lo + 1, .. (n of them) -/
def Itr (lo : Int) (n : Nat) : It := ⟨fun i _ => i < n, fun i H x H' => H' = H ∧ x = .int (lo + i), fun i _ => n ≤ i⟩
theorem turn_list {P : Program} {w : World} {K : PySem.W.Frag} {tg : Expr} (a it : Addr) : Turn P w K tg (Itl K a) [it] it (fun i h => h.IsListIter it a i) where
  mem := by simp
  obj := fun i h st b hb => by
    have e : b = it := by simpa using hb
    subst e
    obtain ⟨o, e, c, d⟩ := st
    exact ⟨o, e, fun v z => by rw [d] at z; cases z⟩
  keep := fun i h h' st k => st.at fun o e => k it (by simp) o e
  item := by
    intro X hP hw hK hc i pins s σ H E I hf st hg
    subst hP hw hK
    obtain ⟨xs, x, hq, hx⟩ := hg
    obtain ⟨its, rv, p, hz⟩ := I.list hq
    obtain ⟨u, hu, ru⟩ := rv.get hx
    obtain ⟨f0, f1, f2, f3, f4, f5⟩ := hf it (by simp)
    refine wpAny_pyNext_list_item st p.isList (x := u) (by simpa using hu) fun h' st' sb => ?_
    have I1 : Inv X pins σ H { s with heap := h' } := I.turned (t' := s.toks) (fun b o hb e => (sb.2 b hb).trans e) f0 f1 f3 f4 f5
    obtain ⟨o, e, c, d⟩ := id st'
    exact ⟨u, rfl, go_of (s := { s with heap := h' }) e c d (by decide) ⟨x, H, I1, ru, ⟨rfl, fun ys hy => by rw [I.list_inj hy hq]; exact hx⟩, st', fun b hb => (hf b hb).1⟩⟩
  done := by
    intro X hP hw hK hc i pins s σ H E I hf st hg
    subst hP hw hK
    obtain ⟨xs, hq, hx⟩ := hg
    obtain ⟨its, rv, p, hz⟩ := I.list hq
    obtain ⟨f0, f1, f2, f3, f4, f5⟩ := hf it (by simp)
    have hl := rv.length
    exact wpAny_pyNext_list_end (I.ok.hd hc) st p.isList (by simp; omega) fun h' eb => ⟨rfl, I.turned (t' := s.toks) (fun b o hb e => eb b o hb e) f0 f1 f3 f4 f5⟩
  self := fun _ _ _ _ _ st h => wpAny_pyIter_listiter st h
theorem turn_range {P : Program} {w : World} {K : PySem.W.Frag} {tg : Expr} (it : Addr) (lo : Int) (n : Nat) : Turn P w K tg (Itr lo n) [it] it (fun i h => IsRangeIter h it (lo + (i : Nat) * 1) ((n : Int) - (i : Nat)) 1) where
  mem := by simp
  obj := fun i h st b hb => by
    have e : b = it := by simpa using hb
    subst e
    exact ⟨_, st, fun v z => by
      have z' : Data.fields _ = Data.cell v := z
      cases z'⟩
  keep := fun i h h' st k => k it (by simp) _ st
  item := by
    intro X hP hw hK hc i pins s σ H E I hf st hg
    subst hP hw hK
    obtain ⟨f0, f1, f2, f3, f4, f5⟩ := hf it (by simp)
    have W := Walks.range (prog := X.prog) (w := X.w) (I.ok.hd hc) it lo 1 n
    refine W.item i s _ _ hg st fun v h' tk hv st' kk => ?_
    obtain ⟨t, rfl⟩ := hv
    have I1 : Inv X pins σ H { s with heap := h', toks := tk } := I.turned (fun b o hb e => kk b o (by simpa using hb) e) f0 f1 f3 f4 f5
    refine ⟨_, rfl, go_of (s := { s with heap := h', toks := tk }) (n := "range_iterator") st' rfl rfl (by decide) ⟨.int (lo + i), H, I1, ⟨t, ?_⟩, ⟨rfl, rfl⟩, st', fun b hb => (hf b hb).1⟩⟩
    rw [Int.mul_one]
  done := by
    intro X hP hw hK hc i pins s σ H E I hf st hg
    subst hP hw hK
    obtain ⟨f0, f1, f2, f3, f4, f5⟩ := hf it (by simp)
    exact wpAny_pyNext_range_end (I.ok.hd hc) st (by have : n ≤ i := hg; omega) fun h' eb => ⟨rfl, I.turned (t' := s.toks) (fun b o hb e => eb b o hb e) f0 f1 f3 f4 f5⟩
  self := fun _ _ _ _ _ st h => wpAny_pyIter_rangeiter st h
end L2

namespace L2
open PySem PySem.Spec PyProof.Rows
section
variable {X : Cx} {tg : Expr}
def iList (K : PySem.W.Frag) (tl : TE) : TI := fun σ H R => tl σ H fun x H1 => ∃ a, x = .ref a ∧ (∃ xs, SqL K H1 a xs) ∧ R (Itl K a) H1
theorem pi_list {l : Expr} {tl : TE} (hl : PE X l tl) : PI X tg l (iList X.K tl) := by
  intro pins s σ H R I h
  refine thn (hl pins s σ H _ I h) fun v s1 ⟨x, H1, I1, r1, q1⟩ => ?_
  obtain ⟨a, e, ⟨xs, hq⟩, q⟩ := q1
  subst e
  cases r1
  obtain ⟨its, rv, p, hz⟩ := I1.list hq
  refine wpAny_pyIter_list p.isList ?_
  refine ⟨s1.heap.objs.size, [s1.heap.objs.size], _, _, H1, rfl, I1.kept (t' := s1.toks) fun b o e => Heap.get?_push_of_some _ e, turn_list a _, ⟨_, Heap.get?_push_size _ rfl, rfl, rfl⟩, fun b hb => ?_, q⟩
  have e : b = s1.heap.objs.size := by simpa using hb
  subst e
  exact I1.fpOk (Nat.le_refl _) (I1.hok.fresh (Nat.le_refl _))
/-- a range object just made, walked -/
theorem range_it {pins : List (Addr × Obj)} {σ : St} {H : Hp} {s : Shared} {R : It → Hp → Prop} {E : Value → Shared → Prop} {lo hi : Int} {t u v : Tok} {tk : Nat} (I : Inv X pins σ H s) (h1 : -(2 ^ 62) ≤ lo) (h2 : lo < 2 ^ 62) (h3 : -(2 ^ 62) ≤ hi) (h4 : hi < 2 ^ 62)
    (q : R (Itr lo (hi - lo).toNat) H) : wpAny (model X.prog X.w) X.A (pyIter (.ref s.heap.objs.size)) (PIE X pins σ tg R) E { s with heap := s.heap.push { cls := .type "range", data := .fields #[.int lo t, .int hi u, .int 1 v] }, toks := tk } := by
  refine wpAny_pyIter_range (IsRange.new ..) (small_one h1 h2 h3 h4) ?_
  have I1 : Inv X pins σ H { s with heap := s.heap.push { cls := .type "range", data := .fields #[.int lo t, .int hi u, .int 1 v] }, toks := tk } := I.kept fun b o e => Heap.get?_push_of_some _ e
  refine ⟨(s.heap.push { cls := .type "range", data := .fields #[.int lo t, .int hi u, .int 1 v] }).objs.size, [(s.heap.push { cls := .type "range", data := .fields #[.int lo t, .int hi u, .int 1 v] }).objs.size], _, _, H, rfl,
    I1.kept (t' := tk) fun b o e => Heap.get?_push_of_some _ e, turn_range _ lo (hi - lo).toNat, ?_, fun b hb => ?_, q⟩
  · have e1 : lo + ((0 : Nat) : Int) * 1 = lo := by simp
    have e2 : (((hi - lo).toNat : Nat) : Int) - ((0 : Nat) : Int) = Builtin.Range.rangeSize lo hi 1 := by rw [rangeSize_one]; split <;> omega
    show IsRangeIter _ _ (lo + ((0 : Nat) : Int) * 1) ((((hi - lo).toNat : Nat) : Int) - ((0 : Nat) : Int)) 1
    rw [e1, e2]
    exact Heap.get?_push_size _ rfl
  · have e : b = (s.heap.push { cls := .type "range", data := .fields #[.int lo t, .int hi u, .int 1 v] }).objs.size := by simpa using hb
    subst e
    exact I1.fpOk (Nat.le_refl _) (I1.hok.fresh (Nat.le_refl _))
def iRng1 (ta : TA) : TI := fun σ H R => ta σ H fun vs H1 => ∃ j : Int, vs = [.int j] ∧ -(2 ^ 62) ≤ j ∧ j < 2 ^ 62 ∧ R (Itr 0 j.toNat) H1
theorem pi_range1 {a : Expr} {ta : TA} {p pos : Pos} (hg : Gl X "range") (hm : X.mg "range" = none) (ha : PA X [a] ta) (hs : starEach [a] X.env = [(false, eval a X.env)] := by rfl) : PI X tg (.Call (.Name "range" p) [a] [] pos) (iRng1 ta) := by
  intro pins s σ H R I h
  refine Call_ (ld_blt I hg hm boot_range (PyProof.Rows.callWith_type1 (thn (ha pos pins s σ H _ I h) fun us s1 ⟨vs, H1, I1, r1, q1⟩ => ?_) hs rfl))
  obtain ⟨j, e, q1, q2, q⟩ := q1
  subst e
  cases r1 with
  | cons r rr =>
    cases rr
    obtain ⟨t, rfl⟩ := r
    exact call_range_1 (range_it I1 (by omega) (by omega) q1 q2 (by simpa using q))
/-! ### for -/
/-- W: the invariant by the turn and a measure; N: what the body is to reach -/
def tFor (wi : TI) (g : TG) (tb : TS) : TS := fun D σ H => wi σ H fun J H1 => ∃ W : Nat → Nat → St → Hp → Prop, (∃ m, W 0 m σ H1) ∧ ∀ i m σ H, W i m σ H →
  (J.stop i H ∧ D.nx σ H) ∨ (J.go i H ∧ ∃ N : St → Hp → Prop, (∀ σ' H', N σ' H' → ∃ m', m' < m ∧ W (i + 1) m' σ' H') ∧ ∀ x H', J.yld i H x H' → g x σ H' fun σ2 H2 => tb { D with nx := N, ct := N, bk := D.nx } σ2 H2)
/-- the records at fp as they stand -/
def pinsAt (fp : List Addr) (h : Heap) : List (Addr × Obj) := fp.filterMap fun b => (h.get? b).map fun o => (b, o)
theorem mem_pinsAt {fp : List Addr} {h : Heap} {b : Addr} {o : Obj} (hb : b ∈ fp) (e : h.get? b = some o) : (b, o) ∈ pinsAt fp h := List.mem_filterMap.mpr ⟨b, hb, by rw [e]; rfl⟩
theorem of_pinsAt {fp : List Addr} {h : Heap} {p : Addr × Obj} (hp : p ∈ pinsAt fp h) : p.1 ∈ fp ∧ h.get? p.1 = some p.2 := by
  obtain ⟨b, hb, e⟩ := List.mem_filterMap.mp hp
  cases q : h.get? b with
  | none => rw [q] at e; cases e
  | some o =>
    rw [q] at e
    have e' : (b, o) = p := Option.some.inj e
    subst e'
    exact ⟨hb, q⟩
theorem Inv.pinned {pins : List (Addr × Obj)} {σ : St} {H : Hp} {s : Shared} {fp : List Addr} (I : Inv X pins σ H s) (hf : ∀ b ∈ fp, FpOk X pins H b) (ho : ∀ b ∈ fp, ∃ o, s.heap.get? b = some o ∧ ∀ v, o.data ≠ .cell v) : Inv X (pins ++ pinsAt fp s.heap) σ H s :=
  I.pins_of fun p hp => (List.mem_append.mp hp).elim (fun z => I.pin p (List.mem_append_right _ z)) fun z => by
    obtain ⟨hb, e⟩ := of_pinsAt z
    obtain ⟨f0, f1, f2, _⟩ := hf p.1 hb
    obtain ⟨o, e', d⟩ := ho p.1 hb
    rw [e] at e'; cases e'
    exact ⟨e, f0, f1, f2, d⟩
theorem Inv.unpinned {pins pl : List (Addr × Obj)} {σ : St} {H : Hp} {s : Shared} (I : Inv X (pins ++ pl) σ H s) : Inv X pins σ H s := I.pins_of fun p hp => I.pin p (List.mem_append_right _ (List.mem_append_left _ hp))
theorem ps_for {iter : Expr} {body : List Stmt} {wi : TI} {g : TG} {tb : TS} {pos : Pos} (hp : PassesOwn (model X.prog X.w) X.A X.env X.xe) (hc : X.calm = true) (hi : PI X tg iter wi) (hg : PG X tg g) (hb : PSs X body tb)
    (hs : ∀ x, foldedSetIterable iter X.env x = pure x := by intro _; rfl) : PS X (.For tg iter body [] pos) (tFor wi g tb) := by
  intro pins s σ H D I h
  refine wpAny_For (thn (hi pins s σ H _ I h) fun v s1 h1 => thn h1 fun itv s2 h2 => ?_) hs
  obtain ⟨it, fp, tn, J, H2, e, I2, T, st2, f2, W, ⟨m0, w0⟩, turn⟩ := h2
  subst e
  -- what stays true of the iterator's objects through the loop
  have stat : ∀ {H' : Hp}, (∀ b ∈ fp, H' b = none) → ∀ b ∈ fp, FpOk X pins H' b := fun hn b hb => ⟨hn b hb, (f2 b hb).2⟩
  refine codeAny_forLoop_any (fun n s' => ∃ i σ' H', Inv X pins σ' H' s' ∧ tn i s'.heap ∧ (∀ b ∈ fp, H' b = none) ∧ W i n σ' H') ?_ m0 ⟨0, σ, H2, I2, st2, fun b hb => (f2 b hb).1, w0⟩
  rintro n s3 ⟨i, σ3, H3, I3, st3, fr3, w3⟩
  rcases turn i n σ3 H3 w3 with ⟨stop, qn⟩ | ⟨go, N, hN, step⟩
  · refine wpAny_passesOwn hp (thn (T.done X rfl rfl rfl hc i pins s3 σ3 H3 X.xe I3 (stat fr3) st3 stop) fun r s4 ⟨hr, I4⟩ => ?_)
    subst hr
    exact wpAny_execs_nil ⟨σ3, H3, I4, qn⟩
  · refine wpAny_passesOwn hp (thn (T.item X rfl rfl rfl hc i pins s3 σ3 H3 X.xe I3 (stat fr3) st3 go) fun r s4 ⟨u, hr, h4⟩ => ?_)
    subst hr
    refine wpAny_passesOwn hp (thn h4 fun _ s5 ⟨x, H5, I5, r5, y5, st5, fr5⟩ => ?_)
    have I5' := I5.pinned (stat fr5) (T.obj _ _ st5)
    refine wpAny_passesOwn hp (thn (hg _ s5 σ3 H5 x u _ I5' r5 (step x H5 y5)) fun _ s6 ⟨σ6, H6, I6, q6⟩ => ?_)
    refine wpAny_passesOwn hp (thn (hb _ s6 σ6 H6 _ I6 q6) fun f s7 q7 => ?_)
    have again : ∀ {σ7 : St} {H7 : Hp}, Inv X (pins ++ pinsAt fp s5.heap) σ7 H7 s7 → N σ7 H7 → ∃ m, m < n ∧ ∃ i σ' H', Inv X pins σ' H' s7 ∧ tn i s7.heap ∧ (∀ b ∈ fp, H' b = none) ∧ W i m σ' H' := fun {σ7 H7} I7 n7 => by
      obtain ⟨m', hm, w7⟩ := hN σ7 H7 n7
      refine ⟨m', hm, i + 1, σ7, H7, I7.unpinned, T.keep _ _ _ st5 fun b hb o e => (I7.pin (b, o) (List.mem_append_right _ (List.mem_append_right _ (mem_pinsAt hb e)))).1, fun b hb => ?_, w7⟩
      obtain ⟨o, e, d⟩ := T.obj _ _ st5 b hb
      exact (I7.pin (b, o) (List.mem_append_right _ (List.mem_append_right _ (mem_pinsAt hb e)))).2.1
    cases f with
    | next => obtain ⟨σ7, H7, I7, n7⟩ := q7; exact again I7 n7
    | cont => obtain ⟨σ7, H7, I7, n7⟩ := q7; exact again I7 n7
    | brk => obtain ⟨σ7, H7, I7, q7⟩ := q7; exact ⟨σ7, H7, I7.unpinned, q7⟩
    | ret v => obtain ⟨x7, σ7, H7, I7, r7, q7⟩ := q7; exact ⟨x7, σ7, H7, I7.unpinned, r7, q7⟩
end

/-! ### the forms one uses -/
/-- over a list that the body leaves as it is -/
theorem for_list {K : PySem.W.Frag} {a : Addr} {xs : List V} {g : TG} {tb : TS} {D : Ends} {σ : St} {H : Hp} (Pv : Nat → St → Hp → Prop) (h0 : Pv 0 σ H) (hl : ∀ i σ H, i ≤ xs.length → Pv i σ H → SqL K H a xs)
    (hs : ∀ i x σ H, xs[i]? = some x → Pv i σ H → g x σ H fun σ2 H2 => tb { D with nx := Pv (i + 1), ct := Pv (i + 1), bk := D.nx } σ2 H2) (hd : ∀ σ H, Pv xs.length σ H → D.nx σ H) :
    ∃ W : Nat → Nat → St → Hp → Prop, (∃ m, W 0 m σ H) ∧ ∀ i m σ H, W i m σ H →
      ((Itl K a).stop i H ∧ D.nx σ H) ∨ ((Itl K a).go i H ∧ ∃ N : St → Hp → Prop, (∀ σ' H', N σ' H' → ∃ m', m' < m ∧ W (i + 1) m' σ' H') ∧ ∀ x H', (Itl K a).yld i H x H' → g x σ H' fun σ2 H2 => tb { D with nx := N, ct := N, bk := D.nx } σ2 H2) := by
  refine ⟨fun i m σ H => m = xs.length - i ∧ i ≤ xs.length ∧ Pv i σ H, ⟨xs.length, by simp, Nat.zero_le _, h0⟩, ?_⟩
  rintro i m σ H ⟨rfl, hi, p⟩
  have q := hl i σ H hi p
  by_cases hlt : i < xs.length
  · refine .inr ⟨⟨xs, xs[i], q, by simp [hlt]⟩, Pv (i + 1), fun σ' H' p' => ⟨xs.length - (i + 1), by omega, rfl, hlt, p'⟩, fun x H' y => ?_⟩
    obtain ⟨e, y⟩ := y
    subst e
    exact hs i x σ _ (y xs q) p
  · have e : i = xs.length := by omega
    subst e
    exact .inl ⟨⟨xs, q, Nat.le_refl _⟩, hd σ H p⟩
theorem for_range {lo : Int} {n : Nat} {g : TG} {tb : TS} {D : Ends} {σ : St} {H : Hp} (Pv : Nat → St → Hp → Prop) (h0 : Pv 0 σ H)
    (hs : ∀ i σ H, i < n → Pv i σ H → g (.int (lo + i)) σ H fun σ2 H2 => tb { D with nx := Pv (i + 1), ct := Pv (i + 1), bk := D.nx } σ2 H2) (hd : ∀ σ H, Pv n σ H → D.nx σ H) :
    ∃ W : Nat → Nat → St → Hp → Prop, (∃ m, W 0 m σ H) ∧ ∀ i m σ H, W i m σ H →
      ((Itr lo n).stop i H ∧ D.nx σ H) ∨ ((Itr lo n).go i H ∧ ∃ N : St → Hp → Prop, (∀ σ' H', N σ' H' → ∃ m', m' < m ∧ W (i + 1) m' σ' H') ∧ ∀ x H', (Itr lo n).yld i H x H' → g x σ H' fun σ2 H2 => tb { D with nx := N, ct := N, bk := D.nx } σ2 H2) := by
  refine ⟨fun i m σ H => m = n - i ∧ i ≤ n ∧ Pv i σ H, ⟨n, by simp, Nat.zero_le _, h0⟩, ?_⟩
  rintro i m σ H ⟨rfl, hi, p⟩
  by_cases hlt : i < n
  · refine .inr ⟨hlt, Pv (i + 1), fun σ' H' p' => ⟨n - (i + 1), by omega, rfl, hlt, p'⟩, fun x H' y => ?_⟩
    obtain ⟨e, y⟩ := y
    subst e y
    exact hs i σ _ hlt p
  · have e : i = n := by omega
    subst e
    exact .inl ⟨Nat.le_refl _, hd σ H p⟩
end L2

namespace L2
open PySem PySem.Spec PyProof.Rows

abbrev R2 := V → V → Hp → VK → Prop
/-- a two-place operation on values: f is binaryOp op, inplaceOp op or compareOp op -/
def OpR (X : Cx) (f : Value → Value → Sem Value) (r : R2) : Prop :=
  ∀ (pins : List (Addr × Obj)) (s : Shared) (σ : St) (H : Hp) (x y : V) (v u : Value) (Q : VK), Inv X pins σ H s → RelV x v → RelV y u → r x y H Q →
    wpAny (model X.prog X.w) X.A (f v u) (EP X pins σ Q) X.xe s
/-- a one-place operation -/
def UnR (X : Cx) (f : Value → Sem Value) (r : V → Hp → VK → Prop) : Prop :=
  ∀ (pins : List (Addr × Obj)) (s : Shared) (σ : St) (H : Hp) (x : V) (v : Value) (Q : VK), Inv X pins σ H s → RelV x v → r x H Q →
    wpAny (model X.prog X.w) X.A (f v) (EP X pins σ Q) X.xe s
/-- a call of a value that is known (a builtin, a type) with values -/
def CallR (X : Cx) (f : Value) (r : List V → Hp → VK → Prop) : Prop :=
  ∀ (pins : List (Addr × Obj)) (s : Shared) (σ : St) (H : Hp) (xs : List V) (us : List Value) (Q : VK), Inv X pins σ H s → Vals xs us → r xs H Q →
    wpAny (model X.prog X.w) X.A (call f us) (EP X pins σ Q) X.xe s
def tOp (r : R2) (ta tb : TE) : TE := fun σ H Q => ta σ H fun x H1 => tb σ H1 fun y H2 => r x y H2 Q
def tUn (r : V → Hp → VK → Prop) (ta : TE) : TE := fun σ H Q => ta σ H fun x H1 => r x H1 Q
/-- ints in, under C, and a value out -/
def rI (C : Int → Int → Prop) (g : Int → Int → V) : R2 := fun x y H Q => ∃ i j, x = .int i ∧ y = .int j ∧ C i j ∧ Q (g i j) H
def rI0 (g : Int → Int → V) : R2 := fun x y H Q => ∃ i j, x = .int i ∧ y = .int j ∧ Q (g i j) H
def rU (g : Int → V) : V → Hp → VK → Prop := fun x H Q => ∃ i, x = .int i ∧ Q (g i) H

section
variable {X : Cx} {a b c : Expr} {ta tb tc : TE} {pos : Pos}

theorem binT (ha : PE X a ta) (hb : PE X b tb) {pins : List (Addr × Obj)} {s : Shared} {σ : St} {H : Hp} {R : V → V → Hp → Prop} (I : Inv X pins σ H s)
    (h : ta σ H fun x H1 => tb σ H1 fun y H2 => R x y H2) {Q : Value → Shared → Prop} {f : Value → Value → Sem Value}
    (hf : ∀ v u s2 x y H2, Inv X pins σ H2 s2 → RelV x v → RelV y u → R x y H2 → wpAny (model X.prog X.w) X.A (f v u) Q X.xe s2) :
    wpAny (model X.prog X.w) X.A (eval a X.env) (fun v s₁ => wpAny (model X.prog X.w) X.A (eval b X.env) (fun u s₂ => wpAny (model X.prog X.w) X.A (f v u) Q X.xe s₂) X.xe s₁) X.xe s := by
  refine thn (ha pins s σ H _ I h) fun v s1 ⟨x, H1, I1, r1, q1⟩ => ?_
  refine thn (hb pins s1 σ H1 _ I1 q1) fun u s2 ⟨y, H2, I2, r2, q2⟩ => ?_
  exact hf v u s2 x y H2 I2 r1 r2 q2

theorem pe_op {op : Operator} {r : R2} (ho : OpR X (binaryOp op) r) (ha : PE X a ta) (hb : PE X b tb) : PE X (.BinOp a op b pos) (tOp r ta tb) := by
  intro pins s σ H Q I h
  exact wpAny_BinOp (binT ha hb I h fun v u s2 x y H2 I2 rx ry q => ho pins s2 σ H2 x y v u Q I2 rx ry q)
theorem pe_un {op : UnaryOp} {r : V → Hp → VK → Prop} (ho : UnR X (unaryOp op) r) (ha : PE X a ta) : PE X (.UnaryOp op a pos) (tUn r ta) := by
  intro pins s σ H Q I h
  exact UnaryOp_ (thn (ha pins s σ H _ I h) fun v s1 ⟨x, H1, I1, r1, q1⟩ => ho pins s1 σ H1 x v Q I1 r1 q1)
/-! ### ints -/
theorem opI {f : Value → Value → Sem Value} {C : Int → Int → Prop} {g : Int → Int → Int}
    (rule : ∀ (i j : Int) (t u : Tok) (s : Shared) (Q : Value → Shared → Prop) (E : Value → Shared → Prop), C i j → Q (.int (g i j) s.toks) { s with toks := s.toks + 1 } → wpAny (model X.prog X.w) X.A (f (.int i t) (.int j u)) Q E s) :
    OpR X f (rI C fun i j => .int (g i j)) := by
  intro pins s σ H x y v u Q I rx ry h
  obtain ⟨i, j, rfl, rfl, hc, q⟩ := h
  obtain ⟨t, rfl⟩ := rx
  obtain ⟨t', rfl⟩ := ry
  exact rule i j t t' s _ _ hc ⟨.int (g i j), H, I.tok _, ⟨_, rfl⟩, q⟩
theorem opI0 {f : Value → Value → Sem Value} {g : Int → Int → Int}
    (rule : ∀ (i j : Int) (t u : Tok) (s : Shared) (Q : Value → Shared → Prop) (E : Value → Shared → Prop), Q (.int (g i j) s.toks) { s with toks := s.toks + 1 } → wpAny (model X.prog X.w) X.A (f (.int i t) (.int j u)) Q E s) :
    OpR X f (rI0 fun i j => .int (g i j)) := by
  intro pins s σ H x y v u Q I rx ry h
  obtain ⟨i, j, rfl, rfl, q⟩ := h
  obtain ⟨t, rfl⟩ := rx
  obtain ⟨t', rfl⟩ := ry
  exact rule i j t t' s _ _ ⟨.int (g i j), H, I.tok _, ⟨_, rfl⟩, q⟩
theorem opB0 {f : Value → Value → Sem Value} {g : Int → Int → Bool}
    (rule : ∀ (i j : Int) (t u : Tok) (s : Shared) (Q : Value → Shared → Prop) (E : Value → Shared → Prop), Q (.bool (g i j)) s → wpAny (model X.prog X.w) X.A (f (.int i t) (.int j u)) Q E s) :
    OpR X f (rI0 fun i j => .bl (g i j)) := by
  intro pins s σ H x y v u Q I rx ry h
  obtain ⟨i, j, rfl, rfl, q⟩ := h
  obtain ⟨t, rfl⟩ := rx
  obtain ⟨t', rfl⟩ := ry
  exact rule i j t t' s _ _ ⟨.bl (g i j), H, I, rfl, q⟩

def CDiv (i j : Int) : Prop := 0 < j ∧ j < 1073741824
def CPow (i j : Int) : Prop := 0 ≤ j ∧ j ≤ 1000000 ∧ i.natAbs < 2 ^ 64
def CMul (i j : Int) : Prop := (-(2 ^ 64) < i ∧ i < 2 ^ 64) ∨ (-(2 ^ 64) < j ∧ j < 2 ^ 64)
theorem CMul.ok {i j : Int} (h : CMul i j) : IntMulOk i j := by
  rcases h with ⟨h1, h2⟩ | ⟨h1, h2⟩
  · exact .of_left (intBits_le_64 h1 h2)
  · exact .of_right (intBits_le_64 h1 h2)
theorem op_add : OpR X (binaryOp .Add) (rI0 fun i j => .int (i + j)) := opI0 fun _ _ _ _ _ _ _ q => add_int q
theorem op_mul : OpR X (binaryOp .Mult) (rI CMul fun i j => .int (i * j)) := opI fun _ _ _ _ _ _ _ hc q => mul_int q hc.ok
/-- // by a positive divisor -/
theorem op_fdiv : OpR X (binaryOp .FloorDiv) (rI CDiv fun i j => .int (i / j)) := opI fun i j _ _ _ _ _ hc q => by
  have h1 : (0 : Int) < j := hc.1
  have h2 : j < 1073741824 := hc.2
  exact floordiv_int (by omega) (by rw [Int.fdiv_eq_ediv_of_nonneg i (by omega)]; exact q) (.inl (PyProof.noPylong_small (by omega)))
/-- % by a positive divisor of any size -/
theorem op_mod : OpR X (binaryOp .Mod) (rI (fun _ j => 0 < j) fun i j => .int (i % j)) := opI fun i j _ _ _ _ _ hc q => by
  have h1 : (0 : Int) < j := hc
  exact mod_int' (by omega) (by rw [Int.fmod_eq_emod_of_nonneg i (by omega)]; exact q)
theorem op_pow : OpR X (binaryOp .Pow) (rI CPow fun i j => .int (i ^ j.toNat)) := opI fun _ _ _ _ _ _ _ hc q => pow_int_small hc.1 hc.2.1 hc.2.2 q
theorem unI {f : Value → Sem Value} {g : Int → Int}
    (rule : ∀ (i : Int) (t : Tok) (s : Shared) (Q : Value → Shared → Prop) (E : Value → Shared → Prop), Q (.int (g i) s.toks) { s with toks := s.toks + 1 } → wpAny (model X.prog X.w) X.A (f (.int i t)) Q E s) :
    UnR X f (rU fun i => .int (g i)) := by
  intro pins s σ H x v Q I rx h
  obtain ⟨i, rfl, q⟩ := h
  obtain ⟨t, rfl⟩ := rx
  exact rule i t s _ _ ⟨.int (g i), H, I.tok _, ⟨_, rfl⟩, q⟩
theorem un_neg : UnR X (unaryOp .USub) (rU fun i => .int (-i)) := unI fun _ _ _ _ _ q => neg_int q
/-! ### bools among ints: n += (a < b) -/
end

/-! ### comparisons -/
/-- the scalars that == tells apart as data does -/
def scal : V → V → Bool
  | .non, .non => true | .non, .int _ => true | .int _, .non => true | .non, .bl _ => true | .bl _, .non => true | .non, .str _ => true | .str _, .non => true
  | .int _, .int _ => true | .bl _, .bl _ => true | .str _, .str _ => true | .byt _, .byt _ => true
  | .int _, .str _ => true | .str _, .int _ => true | .bl _, .str _ => true | .str _, .bl _ => true
  | _, _ => false
def rEq : R2 := fun x y H Q => scal x y = true ∧ Q (.bl (decide (x = y))) H
def rNe : R2 := fun x y H Q => scal x y = true ∧ Q (.bl (!decide (x = y))) H

theorem dec_int {i j : Int} : decide (V.int i = V.int j) = (i == j) := by
  rw [Bool.eq_iff_iff]
  simp
theorem dec_bl {i j : Bool} : decide (V.bl i = V.bl j) = (i == j) := by
  rw [Bool.eq_iff_iff]
  simp
theorem dec_str {i j : Str} : decide (V.str i = V.str j) = (i == j) := by
  rw [Bool.eq_iff_iff]
  simp
theorem dec_byt {i j : Array UInt8} : decide (V.byt i = V.byt j) = (i.toList == j.toList) := by
  rw [Bool.eq_iff_iff]
  cases i
  cases j
  simp

section
variable {X : Cx} {a b c : Expr} {ta tb tc : TE} {pos : Pos}
theorem fin_bl {pins : List (Addr × Obj)} {σ : St} {H : Hp} {s : Shared} {Q : VK} {k k' : Bool} (I : Inv X pins σ H s) (q : Q (.bl k) H) (e : k = k') : EP X pins σ Q (.bool k') s := by
  subst e
  exact ⟨.bl k, H, I, rfl, q⟩
theorem op_eq : OpR X (compareOp .Eq) rEq := by
  intro pins s σ H x y v u Q I rx ry h
  obtain ⟨hs, q⟩ := h
  cases x with
  | non =>
    cases rx
    cases y with
    | non => cases ry; exact PySem.EqNone.eq_none_none (fin_bl I q (by simp))
    | bl j => cases ry; exact PySem.EqNone.eq_none_bool (fin_bl I q (by simp))
    | int j => obtain ⟨t', rfl⟩ := ry; exact PySem.EqNone.eq_none_int (fin_bl I q (by simp))
    | str j => obtain ⟨t', rfl⟩ := ry; exact PySem.EqNone.eq_none_str (fin_bl I q (by simp))
    | _ => exact absurd (show false = true from hs) Bool.false_ne_true
  | bl i =>
    cases rx
    cases y with
    | non => cases ry; exact PySem.EqNone.eq_bool_none (fin_bl I q (by simp))
    | bl j => cases ry; exact eq_bool (fin_bl I q dec_bl)
    | str j => obtain ⟨t', rfl⟩ := ry; exact PySem.EqMixed.eq_bool_str (fin_bl I q (by simp))
    | _ => exact absurd (show false = true from hs) Bool.false_ne_true
  | int i =>
    obtain ⟨t, rfl⟩ := rx
    cases y with
    | non => cases ry; exact PySem.EqNone.eq_int_none (fin_bl I q (by simp))
    | int j => obtain ⟨t', rfl⟩ := ry; exact eq_int (fin_bl I q dec_int)
    | str j => obtain ⟨t', rfl⟩ := ry; exact PySem.EqMixed.eq_int_str (fin_bl I q (by simp))
    | _ => exact absurd (show false = true from hs) Bool.false_ne_true
  | str i =>
    obtain ⟨t, rfl⟩ := rx
    cases y with
    | non => cases ry; exact PySem.EqNone.eq_str_none (fin_bl I q (by simp))
    | bl j => cases ry; exact PySem.EqMixed.eq_str_bool (fin_bl I q (by simp))
    | int j => obtain ⟨t', rfl⟩ := ry; exact PySem.EqMixed.eq_str_int (fin_bl I q (by simp))
    | str j => obtain ⟨t', rfl⟩ := ry; exact eq_str (fin_bl I q dec_str)
    | _ => exact absurd (show false = true from hs) Bool.false_ne_true
  | byt i =>
    obtain ⟨t, rfl⟩ := rx
    cases y with
    | byt j => obtain ⟨t', rfl⟩ := ry; exact PySem.W.eq_bytes (fin_bl I q dec_byt)
    | _ => exact absurd (show false = true from hs) Bool.false_ne_true
  | _ => cases y <;> exact absurd (show false = true from hs) Bool.false_ne_true
theorem op_ne : OpR X (compareOp .NotEq) rNe := by
  intro pins s σ H x y v u Q I rx ry h
  obtain ⟨hs, q⟩ := h
  cases x with
  | non =>
    cases rx
    cases y with
    | non => cases ry; exact PySem.EqNone.ne_none_none (fin_bl I q (by simp))
    | bl j => cases ry; exact PySem.EqNone.ne_none_bool (fin_bl I q (by simp))
    | int j => obtain ⟨t', rfl⟩ := ry; exact PySem.EqNone.ne_none_int (fin_bl I q (by simp))
    | str j => obtain ⟨t', rfl⟩ := ry; exact PySem.EqNone.ne_none_str (fin_bl I q (by simp))
    | _ => exact absurd (show false = true from hs) Bool.false_ne_true
  | bl i =>
    cases rx
    cases y with
    | non => cases ry; exact PySem.EqNone.ne_bool_none (fin_bl I q (by simp))
    | bl j => cases ry; exact ne_bool (fin_bl I q (congrArg not dec_bl))
    | str j => obtain ⟨t', rfl⟩ := ry; exact PySem.EqMixed.ne_bool_str (fin_bl I q (by simp))
    | _ => exact absurd (show false = true from hs) Bool.false_ne_true
  | int i =>
    obtain ⟨t, rfl⟩ := rx
    cases y with
    | non => cases ry; exact PySem.EqNone.ne_int_none (fin_bl I q (by simp))
    | int j => obtain ⟨t', rfl⟩ := ry; exact ne_int (fin_bl I q (congrArg not dec_int))
    | str j => obtain ⟨t', rfl⟩ := ry; exact PySem.EqMixed.ne_int_str (fin_bl I q (by simp))
    | _ => exact absurd (show false = true from hs) Bool.false_ne_true
  | str i =>
    obtain ⟨t, rfl⟩ := rx
    cases y with
    | non => cases ry; exact PySem.EqNone.ne_str_none (fin_bl I q (by simp))
    | bl j => cases ry; exact PySem.EqMixed.ne_str_bool (fin_bl I q (by simp))
    | int j => obtain ⟨t', rfl⟩ := ry; exact PySem.EqMixed.ne_str_int (fin_bl I q (by simp))
    | str j => obtain ⟨t', rfl⟩ := ry; exact ne_str (fin_bl I q (congrArg not dec_str))
    | _ => exact absurd (show false = true from hs) Bool.false_ne_true
  | byt i =>
    obtain ⟨t, rfl⟩ := rx
    cases y with
    | byt j => obtain ⟨t', rfl⟩ := ry; exact PySem.W.ne_bytes (fin_bl I q (congrArg not dec_byt))
    | _ => exact absurd (show false = true from hs) Bool.false_ne_true
  | _ => cases y <;> exact absurd (show false = true from hs) Bool.false_ne_true

theorem op_lt : OpR X (compareOp .Lt) (rI0 fun i j => .bl (decide (i < j))) := opB0 fun _ _ _ _ _ _ _ q => lt_int q
theorem op_gt : OpR X (compareOp .Gt) (rI0 fun i j => .bl (decide (j < i))) := opB0 fun _ _ _ _ _ _ _ q => gt_int q
theorem op_ge : OpR X (compareOp .GtE) (rI0 fun i j => .bl (decide (j ≤ i))) := opB0 fun _ _ _ _ _ _ _ q => ge_int q
theorem nomark (b : Expr) {op : CmpOp} (h : op ≠ .In := by decide) (h2 : op ≠ .NotIn := by decide) : behindInMarks op b = false := by
  have e1 : (op == CmpOp.In) = false := by cases op <;> first | rfl | exact absurd rfl h
  have e2 : (op == CmpOp.NotIn) = false := by cases op <;> first | rfl | exact absurd rfl h2
  cases b <;> simp [behindInMarks, e1, e2]
/-- a comparison as a value; hm: nomark b, or (for in, not in) by with_unfolding_all rfl -/
theorem pe_cmpR {op : CmpOp} {r : R2} (ho : OpR X (compareOp op) r) (ha : PE X a ta) (hb : PE X b tb) (hm : behindInMarks op b = false) : PE X (.Compare a [op] [b] pos) (tOp r ta tb) := by
  intro pins s σ H Q I h
  exact wpAny_Compare1 (binT ha hb I h fun v u s2 x y H2 I2 rx ry q => ho pins s2 σ H2 x y v u Q I2 rx ry q) hm
/-- a reading of a value as a test -/
def tTest (t : TE) : TT := fun σ H Q => t σ H fun x H' => ∃ k, x = .bl k ∧ Q k H'
theorem pt_cmpR {op : CmpOp} {r : R2} (ho : OpR X (compareOp op) r) (ha : PE X a ta) (hb : PE X b tb) (hm : behindInMarks op b = false) : PT X (.Compare a [op] [b] pos) (tTest (tOp r ta tb)) := by
  intro pins s σ H Q I h
  refine wpAny_isTrue_Compare1 (thn (ha pins s σ H _ I h) fun v s1 ⟨x, H1, I1, r1, q1⟩ => thn (hb pins s1 σ H1 _ I1 q1) fun u s2 ⟨y, H2, I2, r2, q2⟩ =>
    thn (ho pins s2 σ H2 x y v u _ I2 r1 r2 q2) fun c s3 ⟨z, H3, I3, r3, k, e, q3⟩ => ?_) hm
  subst e
  cases r3
  exact wpAny_truthy_bool ⟨H3, I3, q3⟩
/-! ### truth -/
theorem line63 : (sizeLine : Nat) < 2 ^ 63 := by rw [sizeLine_eq]; decide
/-! ### strs and bytes -/
/-! ### scalar builtins, by CallR -/
theorem vals1 {x : V} {us : List Value} (r : Vals [x] us) : ∃ u, us = [u] ∧ RelV x u := by
  cases r with
  | cons r1 r2 => cases r2; exact ⟨_, rfl, r1⟩
theorem vals2 {x y : V} {us : List Value} (r : Vals [x, y] us) : ∃ u w', us = [u, w'] ∧ RelV x u ∧ RelV y w' := by
  cases r with
  | cons r1 r2 =>
    cases r2 with
    | cons r3 r4 => cases r4; exact ⟨_, _, rfl, r1, r3⟩
theorem call_abs : CallR X (.builtin "abs") (fun xs H Q => ∃ i, xs = [.int i] ∧ Q (.int (if i < 0 then -i else i)) H) := by
  intro pins s σ H xs us Q I r h
  obtain ⟨i, rfl, q⟩ := h
  obtain ⟨u, rfl, t, rfl⟩ := vals1 r
  exact call_abs_int fun u tk => ⟨.int (if i < 0 then -i else i), H, I.tok _, ⟨_, rfl⟩, q⟩
end
end L2

namespace L2
open PySem PySem.Spec PyProof.Rows

/-! ### an instance, its attributes a map -/
structure ObjM (h : Heap) (x dx C : Addr) (mA : Str → Option Value) : Prop where
  obj : h.get? x = some (PySem.W.instObj C dx)
  ns : h.Ns1 dx mA
  ne : dx ≠ x

theorem lookIn_ns {h : Heap} {dx : Addr} {mA : Str → Option Value} (n : h.Ns1 dx mA) : ∃ od, h.get? dx = some od ∧ ∀ name, PySem.W.lookIn name od = some (mA name) := by
  obtain ⟨o, es, ep, ho, hd, hk, _, hm⟩ := n
  refine ⟨o, ho, fun name => ?_⟩
  have e := hm name
  unfold nsFind findBy at e
  rw [← Array.find?_toList] at e
  unfold PySem.W.lookIn
  rw [hd]
  dsimp only
  split
  · rename_i y q
    rw [q] at e
    exact congrArg some e
  · rename_i q
    rw [q] at e
    have a : es.toList.any (·.refKey) = false := by
      rw [List.any_eq_false]
      intro y hy
      obtain ⟨z, t, hkey⟩ := hk y (Array.mem_toList_iff.mp hy)
      simp [DictEntry.refKey, hkey]
    have a' : ¬ es.toList.any (·.refKey) = true := by rw [a]; exact Bool.false_ne_true
    rw [if_neg a']
    exact congrArg some e

theorem ObjM.look {h : Heap} {x dx C : Addr} {mA : Str → Option Value} (I : ObjM h x dx C mA) : ∃ od, PySem.W.InstAt h x (PySem.W.instObj C dx) C (some od) ∧ ∀ name, PySem.W.lookIn name od = some (mA name) :=
  let ⟨od, ho, hl⟩ := lookIn_ns I.ns
  ⟨od, ⟨I.obj, rfl, rfl, ho⟩, hl⟩

section
variable {prog : Program} {w : World} {A : Around} {E : Value → Shared → Prop} {s : Shared} {K : PySem.W.Frag} {x dx C f : Addr} {mA : Str → Option Value} {name : Str} {v : Value}

theorem get_map {expr : Bool} {Q : Value → Shared → Prop} (X : K.In s.heap) (I : ObjM s.heap x dx C mA) (hg : PySem.W.plainGet K C name = true) (hh : PySem.W.hasDictIn K C = true)
    (ha : PySem.W.findIn K (.ref C) name = some none) (hv : mA name = some v) (hv' : PySem.W.handedIn v = true) (h : Q v { s with toks := s.toks + 1 }) :
    wpAny (model prog w) A (getAttr (.ref x) name expr) Q E s := by
  obtain ⟨od, J, hl⟩ := I.look
  exact PySem.W.get_value X J (PySem.W.plainGet_of hg).1 (PySem.W.findObj_own hh ha rfl (by rw [hl, hv])) hv' h

theorem get_meth {pl : Sem Bool} {Q : Value × List Value → Shared → Prop} (X : K.In s.heap) (I : ObjM s.heap x dx C mA) (hg : PySem.W.plainGet K C name = true)
    (hf : PySem.W.findIn K (.ref C) name = some (some (.ref f))) (ht : PySem.W.isFn K (.ref f) = true) (hv : mA name = none) (h : Q (.ref f, [.ref x]) s) :
    wpAny (model prog w) A (getMethod (.ref x) name pl) Q E s := by
  obtain ⟨od, J, hl⟩ := I.look
  exact PySem.W.method_fn X J (PySem.W.plainGet_of hg).1 (PySem.W.plainGet_of hg).2 hf (beq_iff_eq.mp ht) (by show (PySem.W.lookIn name od).map (·.isSome) = some false; rw [hl, hv]; rfl) h

theorem set_map {ns : List Str} {Q : Unit → Shared → Prop} (X : K.In s.heap) (I : ObjM s.heap x dx C mA)
    (hs : PySem.W.findIn K (.ref C) "__setattr__" = some (some (.builtin "object.__setattr__"))) (hp : PySem.W.plainOver K C = true) (ht : PySem.W.takerIn K C name = some none) (hh : PySem.W.hasDictIn K C = true)
    (hw : PySem.Within mA ns) (hsz : ns.length ≤ sizeLine)
    (h : ∀ h', ObjM h' x dx C (fun y => if y = name then some v else mA y) → Heap.SameBut dx s.heap h' → Q () { s with heap := h', toks := s.toks + 2 }) :
    wpAny (model prog w) A (setAttr (.ref x) name v) Q E s := by
  obtain ⟨od, J, hl⟩ := I.look
  refine PySem.W.set_plain X J hs (PySem.W.osa_open (s := { s with toks := s.toks + 1 }) (r := none) X J hp ht fun b => ?_)
  obtain ⟨cd, hc, hd'⟩ := PySem.W.any_some hh
  have hx : s.heap.get? x = some ⟨.ref C, some dx, .plain, #[]⟩ := I.obj
  refine wpAny_bind (wpAny_pure (wpAny_bind (wpAny_bind (wpAny_loadPart hx (wpAny_bind (PySem.W.Looks.here (s := { s with toks := s.toks + 1 }) (PySem.W.looks_clsIn X hc) ?_))))))
  rw [hd']
  refine wpAny_pure (a := some dx) (wpAny_bind (wpAny_pure (wpAny_bind ?_)))
  refine wpAny_nsSet1 (s := { s with toks := s.toks + 1 }) I.ns fun h' hn2 hs2 => ?_
  obtain ⟨oD, esD, epD, hoD, hdD, hcD⟩ := hn2.count (PySem.Within.cons name v hw)
  refine wpAny_bind (wpAny_lookBehind hoD (by rw [hdD]; exact pastItsLine_dict (Nat.le_trans hcD (by rw [List.length_cons]; omega))) ?_)
  exact wpAny_pure (h _ ⟨(hs2.2 _ (Ne.symm I.ne)).trans I.obj, hn2, I.ne⟩ hs2)

/-- C(..): the dict at the heap's end, the instance behind it; then its __init__ -/
theorem make_map {R : Result → Shared → Prop} {vs : List Value} {kw : List (Str × Value)} (X : K.In s.heap) (hm : PySem.W.makesIn K C = true)
    (hi : PySem.W.findIn K (.ref C) "__init__" = some (some (.ref f))) (hf : PySem.W.typeIn K (.ref f) = some (.type "function"))
    (h : codeAny (model prog w) (A.under (.builtin "type.__call__" ⟨.ref C :: vs, kw⟩)) (.call (.ref f) ⟨.ref (s.heap.objs.size + 1) :: vs, kw⟩) (PySem.W.InitBack (s.heap.objs.size + 1) R)
      { s with heap := (s.heap.push PySem.W.emptyDict).push (PySem.W.instObj C s.heap.objs.size) }) :
    codeAny (model prog w) A (.call (.ref C) ⟨vs, kw⟩) R s := by
  obtain ⟨hh, g, d, t, os⟩ := s
  exact PySem.W.make_core (PySem.W.makes_of X hm) (PySem.W.looks_findIn X hi) (fun self => PySem.W.bind_fn X self hf) (.inl rfl) h
end

/-! ### the attributes as a list of pairs -/
def putF (f : Str) (v : V) : List (Str × V) → List (Str × V)
  | [] => [(f, v)]
  | (g, x) :: r => if g = f then (g, v) :: r else (g, x) :: putF f v r
theorem lookup_putF (f g : Str) (v : V) : ∀ fs : List (Str × V), (putF f v fs).lookup g = if g = f then some v else fs.lookup g
  | [] => by
    show List.lookup g [(f, v)] = _
    by_cases h : g = f
    · have hb : (g == f) = true := beq_iff_eq.mpr h
      simp only [List.lookup, hb, if_pos h]
    · have hb : (g == f) = false := beq_eq_false_iff_ne.mpr h
      simp only [List.lookup, hb, if_neg h]
  | (k, x) :: r => by
    have ih := lookup_putF f g v r
    rw [show putF f v ((k, x) :: r) = (if k = f then (k, v) :: r else (k, x) :: putF f v r) from rfl]
    by_cases hk : k = f
    · rw [if_pos hk]
      by_cases h : g = k
      · have hb : (g == k) = true := beq_iff_eq.mpr h
        simp only [List.lookup, hb, if_pos (h.trans hk)]
      · have hb : (g == k) = false := beq_eq_false_iff_ne.mpr h
        simp only [List.lookup, hb, if_neg (fun e : g = f => h (e.trans hk.symm))]
    · rw [if_neg hk]
      by_cases h : g = k
      · have hb : (g == k) = true := beq_iff_eq.mpr h
        simp only [List.lookup, hb, if_neg (fun e : g = f => hk (h.symm.trans e))]
      · have hb : (g == k) = false := beq_eq_false_iff_ne.mpr h
        simp only [List.lookup, hb]
        exact ih
theorem keys_putF (f : Str) (v : V) : ∀ fs : List (Str × V), f ∈ (putF f v fs).map (·.1) ∧ ∀ g, g ∈ fs.map (·.1) → g ∈ (putF f v fs).map (·.1)
  | [] => ⟨by simp [putF], fun g h => by simp at h⟩
  | (k, x) :: r => by
    obtain ⟨i1, i2⟩ := keys_putF f v r
    rw [show putF f v ((k, x) :: r) = (if k = f then (k, v) :: r else (k, x) :: putF f v r) from rfl]
    by_cases hk : k = f
    · rw [if_pos hk]
      subst hk
      exact ⟨by simp, fun g h => by simpa using h⟩
    · rw [if_neg hk]
      refine ⟨?_, fun g h => ?_⟩
      · rw [List.map_cons]
        exact List.mem_cons_of_mem _ i1
      · rw [List.map_cons] at h ⊢
        rcases List.mem_cons.mp h with e | e
        · exact List.mem_cons.mpr (.inl e)
        · exact List.mem_cons_of_mem _ (i2 g e)
theorem length_putF (f : Str) (v : V) : ∀ fs : List (Str × V), (putF f v fs).length ≤ fs.length + 1
  | [] => by simp [putF]
  | (k, x) :: r => by
    have ih := length_putF f v r
    rw [show putF f v ((k, x) :: r) = (if k = f then (k, v) :: r else (k, x) :: putF f v r) from rfl]
    by_cases hk : k = f
    · rw [if_pos hk, List.length_cons, List.length_cons]; omega
    · rw [if_neg hk, List.length_cons, List.length_cons]; omega

theorem RelO.some_of {v : V} {o : Option Value} (r : RelO (some v) o) : ∃ u, o = some u ∧ RelV v u := by
  cases o with
  | none => exact (show False from r).elim
  | some u => exact ⟨u, rfl, r⟩
theorem RelO.none_of {o : Option Value} (r : RelO none o) : o = none := by
  cases o with
  | none => rfl
  | some u => exact (show False from r).elim
theorem handed_of {v : V} {u : Value} (r : RelV v u) : PySem.W.handedIn u = true := by
  cases v with
  | non => cases (show u = Value.none from r); rfl
  | bl b => cases (show u = Value.bool b from r); rfl
  | int i => obtain ⟨t, e⟩ := (show ∃ t, u = Value.int i t from r); cases e; rfl
  | str x => obtain ⟨t, e⟩ := (show ∃ t, u = Value.str x t from r); cases e; rfl
  | byt b => obtain ⟨t, e⟩ := (show ∃ t, u = Value.bytes b t from r); cases e; rfl
  | flt b => obtain ⟨t, e⟩ := (show ∃ t, u = Value.float b t from r); cases e; rfl
  | ref a => cases (show u = Value.ref a from r); rfl
  | ty n => cases (show u = Value.type n from r); rfl

section
variable {P : Program} {w : World} {H H' : Hp} {h h' : Heap} {a C dx : Addr} {fs fs' : List (Str × V)}
theorem ins_get (hok : HOk P w H h) (e : H a = some (.ins C dx fs)) : ∃ mA, ObjM h a dx C mA ∧ (∀ f, RelO (fs.lookup f) (mA f)) ∧ PySem.Within mA (fs.map (·.1)) ∧ fs.length ≤ 1000 ∧ H dx = some (.own a) := by
  obtain ⟨d, z, ne, ob, mA, n, r, q⟩ := (show ObjOk P w H h a (.ins C dx fs) from hok a _ e)
  exact ⟨mA, ⟨ob, n, ne⟩, r, q, z, d⟩
end

/-! ### what of the text a class must have -/
structure Cls (K : PySem.W.Frag) (C : Addr) : Prop where
  pg : PySem.W.plainGet K C Str.empty = true
  hd : PySem.W.hasDictIn K C = true
  po : PySem.W.plainOver K C = true
  sa : PySem.W.findIn K (.ref C) "__setattr__" = some (some (.builtin "object.__setattr__"))
theorem Cls.get {K : PySem.W.Frag} {C : Addr} (c : Cls K C) (f : Str) : PySem.W.plainGet K C f = true := c.pg
/-- no class of it has the name -/
def NoAttr (K : PySem.W.Frag) (C : Addr) (f : Str) : Prop := PySem.W.findIn K (.ref C) f = some none
theorem NoAttr.taker {K : PySem.W.Frag} {C : Addr} {f : Str} (n : NoAttr K C f) : PySem.W.takerIn K C f = some none := by
  unfold PySem.W.takerIn
  rw [show PySem.W.findIn K (.ref C) f = some none from n]
  rfl
/-- a method: a plain def of the class or of one above it -/
structure Meth (K : PySem.W.Frag) (C : Addr) (m : Str) (f : Addr) : Prop where
  at_ : PySem.W.findIn K (.ref C) m = some (some (.ref f))
  fn : PySem.W.isFn K (.ref f) = true
  kp : PySem.W.keepIn K (.ref f) = true

section
variable {X : Cx} {pins : List (Addr × Obj)} {σ : St} {H : Hp} {s : Shared} {a C dx : Addr} {fs : List (Str × V)} {f : Str} {v : V} {A : Around} {E : Value → Shared → Prop}

theorem getattr_ok {b : Bool} {Q : Value → Shared → Prop} (I : Inv X pins σ H s) (e : H a = some (.ins C dx fs)) (c : Cls X.K C) (n : NoAttr X.K C f) (l : fs.lookup f = some v)
    (h : ∀ u s', Inv X pins σ H s' → RelV v u → Q u s') : wpAny (model X.prog X.w) A (getAttr (.ref a) f b) Q E s := by
  obtain ⟨mA, O, r, _, _, _⟩ := ins_get I.hok e
  obtain ⟨u, hu, ru⟩ := RelO.some_of (v := v) (o := mA f) (by rw [← l]; exact r f)
  exact get_map I.kIn O (c.get f) c.hd n hu (handed_of ru) (h u _ (I.tok _) ru)

theorem getmeth_ok {m : Str} {g : Addr} {pl : Sem Bool} {Q : Value × List Value → Shared → Prop} (I : Inv X pins σ H s) (e : H a = some (.ins C dx fs)) (c : Cls X.K C) (k : Meth X.K C m g) (l : fs.lookup m = none)
    (h : Q (.ref g, [.ref a]) s) : wpAny (model X.prog X.w) A (getMethod (.ref a) m pl) Q E s := by
  obtain ⟨mA, O, r, _, _, _⟩ := ins_get I.hok e
  have hn : mA m = none := RelO.none_of (by rw [← l]; exact r m)
  exact get_meth I.kIn O (c.get m) k.at_ k.fn hn h

theorem setattr_ok {y : V} {u : Value} {Q : Unit → Shared → Prop} (I : Inv X pins σ H s) (e : H a = some (.ins C dx fs)) (c : Cls X.K C) (n : NoAttr X.K C f) (hl : fs.length < 1000) (ry : RelV y u)
    (h : ∀ s', Inv X pins σ (upd H a (.ins C dx (putF f y fs))) s' → Q () s') : wpAny (model X.prog X.w) A (setAttr (.ref a) f u) Q E s := by
  obtain ⟨mA, O, r, wi, _, ho⟩ := ins_get I.hok e
  have hz : (fs.map (·.1)).length ≤ sizeLine := by rw [List.length_map, sizeLine_eq]; omega
  refine set_map I.kIn O c.sa c.po n.taker c.hd wi hz fun h' O' sb => h _ ?_
  have hd : ∃ o, h'.get? dx = some o := let ⟨o, _, _, e', _⟩ := O'.ns; ⟨o, e'⟩
  refine I.write (x := a) (e := dx) (by rw [e]; exact True.intro) (.inr ho) (fun b q hb z => (sb.2 b hb).trans z) hd ?_
  refine ⟨by rw [upd_ne O.ne]; exact ho, ?_, O.ne, O'.obj, _, O'.ns, fun g => ?_, fun g hg => ?_⟩
  · have := length_putF f y fs; omega
  · show RelO ((putF f y fs).lookup g) (if g = f then some u else mA g)
    rw [lookup_putF]
    by_cases q : g = f
    · rw [if_pos q, if_pos q]; exact ry
    · rw [if_neg q, if_neg q]; exact r g
  · by_cases q : g = f
    · rw [q]; exact (keys_putF f y fs).1
    · refine (keys_putF f y fs).2 g (wi g fun z => hg ?_)
      show (if g = f then some u else mA g) = none
      rw [if_neg q]; exact z

/-- a new instance, tracked, without attributes -/
theorem Inv.made (I : Inv X pins σ H s) : Inv X pins σ (upd (upd H s.heap.objs.size (.own (s.heap.objs.size + 1))) (s.heap.objs.size + 1) (.ins C s.heap.objs.size []))
    { s with heap := (s.heap.push PySem.W.emptyDict).push (PySem.W.instObj C s.heap.objs.size) } := by
  have e1 : (s.heap.push PySem.W.emptyDict).get? s.heap.objs.size = some PySem.W.emptyDict := Heap.get?_push_size s.heap rfl
  have e2 : ((s.heap.push PySem.W.emptyDict).push (PySem.W.instObj C s.heap.objs.size)).get? (s.heap.objs.size + 1) = some (PySem.W.instObj C s.heap.objs.size) := by
    have := Heap.get?_push_size (s.heap.push PySem.W.emptyDict) (o := PySem.W.instObj C s.heap.objs.size) rfl
    rwa [Heap.size_push] at this
  have e3 : (s.heap.push PySem.W.emptyDict).Ns s.heap.objs.size (fun _ => none) := ⟨PySem.W.emptyDict, #[], _, e1, rfl, (fun e he => absurd he (by simp)), fun _ => rfl⟩
  have I1 := I.laid (a := s.heap.objs.size) (o := .own (s.heap.objs.size + 1)) (h' := s.heap.push PySem.W.emptyDict) (t' := s.toks) (fun b u q => Heap.get?_push_of_some _ q) (Nat.le_refl _) ⟨_, e1⟩
  refine I1.laid (a := s.heap.objs.size + 1) (o := .ins C s.heap.objs.size []) (t' := s.toks) (fun b u q => Heap.get?_push_of_some _ q) (Nat.le_of_eq (Heap.size_push _ _)) ?_
  have ne : s.heap.objs.size ≠ s.heap.objs.size + 1 := Nat.ne_of_lt (Nat.lt_succ_self _)
  refine ⟨by rw [upd_ne ne, upd_same], Nat.zero_le _, ne, e2, fun _ => none, (Heap.Ns1.of_empty e3).at fun o q => Heap.get?_push_of_some _ q, fun _ => True.intro, fun y hy => absurd rfl hy⟩

/-- e.f where nothing but the object is asked: through attributeBase (super) and the last hold -/
theorem attr_of {prog : Program} {w : World} {env : Env} {e : Expr} {f : Str} {pos : Pos} {s : Shared} {Q : Value → Shared → Prop} (hb : attributeBase e f env (eval e env) = eval e env)
    (h : wpAny (model prog w) A (eval e env) (fun o s₁ => wpAny (model prog w) A (getAttr o f true) Q E s₁) E s) : wpAny (model prog w) A (eval (.Attribute e f pos) env) Q E s :=
  Attribute_any_ h (by rw [arm_eval_Attribute, hb])
end

/-! ### readings and rules -/
/-- e.f, an attribute of the instance -/
def tFld (K : PySem.W.Frag) (ta : TE) (f : Str) : TE := fun σ H Q => ta σ H fun x H1 => ∃ a C dx fs v, x = .ref a ∧ H1 a = some (.ins C dx fs) ∧ Cls K C ∧ NoAttr K C f ∧ fs.lookup f = some v ∧ Q v H1
/-- e.f = value -/
def sFld (K : PySem.W.Frag) (ta tv : TE) (f : Str) : TS := fun D σ H => tv σ H fun y H1 => ta σ H1 fun x H2 => ∃ a C dx fs, x = .ref a ∧ H2 a = some (.ins C dx fs) ∧ Cls K C ∧ NoAttr K C f ∧ fs.length < 1000 ∧
  D.nx σ (upd H2 a (.ins C dx (putF f y fs)))
/-- an augmented operator on two values -/
def InOp (X : Cx) (op : Operator) (rd : V → V → Hp → VK → Prop) : Prop :=
  ∀ (pins : List (Addr × Obj)) (s : Shared) (σ : St) (H : Hp) (x y : V) (u v : Value) (Q : VK), Inv X pins σ H s → RelV x u → RelV y v → rd x y H Q → wpAny (model X.prog X.w) X.A (inplaceOp op u v) (EP X pins σ Q) X.xe s
/-- e.f op= value -/
def sFldAug (K : PySem.W.Frag) (ta tv : TE) (rd : V → V → Hp → VK → Prop) (f : Str) : TS := fun D σ H => ta σ H fun x H1 => ∃ a C dx fs v, x = .ref a ∧ H1 a = some (.ins C dx fs) ∧ Cls K C ∧ NoAttr K C f ∧ fs.lookup f = some v ∧
  tv σ H1 fun y H2 => rd v y H2 fun z H3 => ∃ dx' fs', H3 a = some (.ins C dx' fs') ∧ fs'.length < 1000 ∧ D.nx σ (upd H3 a (.ins C dx' (putF f z fs')))

section
variable {X : Cx} {o e value : Expr} {f : Str} {pos pos' tpos : Pos} {ta tv : TE}
theorem pe_fld (he : PE X e ta) (hb : attributeBase e f X.env (eval e X.env) = eval e X.env) : PE X (.Attribute e f pos) (tFld X.K ta f) := by
  intro pins s σ H Q I h
  refine attr_of hb (thn (he pins s σ H _ I h) fun u s1 ⟨x, H1, I1, rx, a, C, dx, fs, v, ex, ea, c, n, l, q⟩ => ?_)
  subst ex
  obtain rfl : u = Value.ref a := rx
  exact getattr_ok I1 ea c n l fun u' s2 I2 ru => ⟨v, H1, I2, ru, q⟩
theorem ps_fld (ha : PE X o ta) (hv : PE X value tv) (hs : swapsWith value (some (.Attribute o f pos')) pos.line X.env = pure false) : PS X (.Assign [.Attribute o f pos'] value pos) (sFld X.K ta tv f) := by
  intro pins s σ H D I h
  refine plainObj_wpAny_Assign_Attribute (thn (hv pins s σ H _ I h) fun u s1 ⟨y, H1, I1, ry, q⟩ => thn (ha pins s1 σ H1 _ I1 q) fun ov s2 ⟨x, H2, I2, rx, a, C, dx, fs, ex, ea, c, n, l, q2⟩ => ?_) hs
  subst ex
  obtain rfl : ov = Value.ref a := rx
  exact setattr_ok I2 ea c n l ry fun s3 I3 => ⟨σ, _, I3, q2⟩
theorem ps_fldaug {op : Operator} {rd : V → V → Hp → VK → Prop} (ha : PE X o ta) (hv : PE X value tv) (hop : InOp X op rd) : PS X (.AugAssign (.Attribute o f tpos) op value pos) (sFldAug X.K ta tv rd f) := by
  intro pins s σ H D I h
  refine wpAny_AugAssign_AttributeAny (thn (ha pins s σ H _ I h) fun ov s1 ⟨x, H1, I1, rx, a, C, dx, fs, v, ex, ea, c, n, l, q⟩ => ?_)
  subst ex
  obtain rfl : ov = Value.ref a := rx
  refine getattr_ok I1 ea c n l fun u s2 I2 ru => thn (hv pins s2 σ H1 _ I2 q) fun w3 s3 ⟨y, H2, I3, ry, q3⟩ => thn (hop pins s3 σ H2 v y u w3 _ I3 ru ry q3) fun w4 s4 ⟨z, H3, I4, rz, dx', fs', ea', l', q4⟩ => ?_
  exact setattr_ok I4 ea' c n l' rz fun s5 I5 => ⟨σ, _, I5, q4⟩
def rAdd : V → V → Hp → VK → Prop := fun x y H Q => ∃ i j, x = .int i ∧ y = .int j ∧ Q (.int (i + j)) H
theorem in_add : InOp X .Add rAdd := by
  rintro pins s σ H x y u v Q I rx ry ⟨i, j, rfl, rfl, q⟩
  obtain ⟨t, rfl⟩ := (show ∃ t, u = Value.int i t from rx)
  obtain ⟨t', rfl⟩ := (show ∃ t', v = Value.int j t' from ry)
  exact PyProof.Rows.iadd_int ⟨.int (i + j), H, I.tok _, ⟨_, rfl⟩, q⟩
end

/-! ### isinstance -/
section
variable {X : Cx} {pins : List (Addr × Obj)} {σ : St} {H : Hp} {s : Shared} {A : Around} {E : Value → Shared → Prop} {Q : Value → Shared → Prop} {c : Value} {b : Bool}
/-- the type of a value, as the fragment's deciders take it; for an instance its class -/
inductive TyOf (K : PySem.W.Frag) (H : Hp) : V → Value → Prop where
  | non : TyOf K H .non (.type "NoneType")
  | bl (x : Bool) : TyOf K H (.bl x) (.type "bool")
  | int (i : Int) : TyOf K H (.int i) (.type "int")
  | str (x : Str) : TyOf K H (.str x) (.type "str")
  | flt (x : UInt64) : TyOf K H (.flt x) (.type "float")
  | lst {a : Addr} {xs : List V} (e : H a = some (.lst xs)) : TyOf K H (.ref a) (.type "list")
  | frz {a : Addr} {o : Obj} {xs : List V} (e : H a = some (.frz o (.lst xs))) : TyOf K H (.ref a) (.type "list")
  | tup {a : Addr} {xs : List V} (e : H a = some (.tup xs)) : TyOf K H (.ref a) (.type "tuple")
  | dK {a : Addr} {kvs : List (Key × V)} (e : H a = some (.dK kvs)) : TyOf K H (.ref a) (.type "dict")
  | dT {a : Addr} {kvs : List (List Key × V)} (e : H a = some (.dT kvs)) : TyOf K H (.ref a) (.type "dict")
  | ins {a C dx : Addr} {fs : List (Str × V)} (e : H a = some (.ins C dx fs)) (cl : Cls K C) (ha : PySem.W.findIn K (.ref C) "__class__" = some (some (.builtin "object.__class__")))
      (hn : PySem.W.specialIn K (.builtin "object.__class__") "__get__" = some (some (.builtin "getset_descriptor.__get__"))) (htk : PySem.W.takesIn K (.builtin "object.__class__") = some true)
      (hm : PySem.W.mroIn K C (.type "object") = some true) : TyOf K H (.ref a) (.ref C)
/-- isinstance(x, c) for one class c, a built-in or an own one: kitOne's answer -/
theorem isinst_ok {x : V} {u t : Value} (I : Inv X pins σ H s) (rx : RelV x u) (ty : TyOf X.K H x t) (e : PySem.W.kitOne X.K t c = some b) (h : ∀ tk, Q (.bool b) { s with toks := tk }) :
    wpAny (model X.prog X.w) A (call (.builtin "isinstance") [u, c]) Q E s := by
  cases ty with
  | non => cases (show u = Value.none from rx); exact PySem.W.kia_one PySem.W.kitx_none I.kIn True.intro e (fun z => nomatch z) h
  | bl y => cases (show u = Value.bool y from rx); exact PySem.W.kia_one PySem.W.kitx_bool I.kIn True.intro e (fun z => nomatch z) h
  | int i => obtain ⟨t, q⟩ := (show ∃ t, u = Value.int i t from rx); cases q; exact PySem.W.kia_one PySem.W.kitx_int I.kIn True.intro e (fun z => nomatch z) h
  | str y => obtain ⟨t, q⟩ := (show ∃ t, u = Value.str y t from rx); cases q; exact PySem.W.kia_one PySem.W.kitx_str I.kIn True.intro e (fun z => nomatch z) h
  | flt y => obtain ⟨t, q⟩ := (show ∃ t, u = Value.float y t from rx); cases q; exact PySem.W.kia_one PySem.W.kitx_float I.kIn True.intro e (fun z => nomatch z) h
  | @lst a xs ea =>
    cases (show u = Value.ref a from rx)
    obtain ⟨_, _, n, _, h1⟩ := (show ObjOk X.prog X.w H s.heap a (.lst xs) from I.hok a _ ea)
    exact PySem.W.kia_one PySem.W.kitx_list I.kIn ⟨_, h1, rfl⟩ e (fun z => nomatch z) h
  | @frz a ob xs ea =>
    cases (show u = Value.ref a from rx)
    obtain ⟨_, _, _, n, _, h1⟩ := (show ObjOk X.prog X.w H s.heap a (.frz ob (.lst xs)) from I.hok a _ ea)
    exact PySem.W.kia_one PySem.W.kitx_list I.kIn ⟨_, h1, rfl⟩ e (fun z => nomatch z) h
  | @tup a xs ea =>
    cases (show u = Value.ref a from rx)
    obtain ⟨_, _, _, p⟩ := (show ObjOk X.prog X.w H s.heap a (.tup xs) from I.hok a _ ea)
    obtain ⟨o, h1, h2, _⟩ := p
    exact PySem.W.kia_one PySem.W.kitx_tuple I.kIn ⟨o, h1, h2⟩ e (fun z => nomatch z) h
  | @dK a kvs ea =>
    cases (show u = Value.ref a from rx)
    obtain ⟨_, _, vs, _, p⟩ := (show ObjOk X.prog X.w H s.heap a (.dK kvs) from I.hok a _ ea)
    obtain ⟨o, es, ep, h1, h2, _⟩ := p
    exact PySem.W.kia_one PySem.W.kitx_dict I.kIn ⟨o, h1, h2.1⟩ e (fun z => nomatch z) h
  | @dT a kvs ea =>
    cases (show u = Value.ref a from rx)
    obtain ⟨_, _, xs, _, o, es, ep, h1, h2, _⟩ := (show ObjOk X.prog X.w H s.heap a (.dT kvs) from I.hok a _ ea)
    exact PySem.W.kia_one PySem.W.kitx_dict I.kIn ⟨o, h1, h2.1⟩ e (fun z => nomatch z) h
  | @ins a C dx fs ea cl ha hn htk hm =>
    cases (show u = Value.ref a from rx)
    obtain ⟨mA, O, _⟩ := ins_get I.hok ea
    obtain ⟨od, J, _⟩ := O.look
    exact PySem.W.kia_one (PySem.W.kitx_own (cl.get _) cl.hd ha hn htk hm) I.kIn J e (fun z => nomatch z) h
end
end L2

namespace L2
open PySem PySem.Spec PyProof.Rows

/-! ### room -/
structure Room (k : Nat) (A : Around) : Prop where
  hd : A.handled = none
  dp : A.depth + 3 * k + 5 < recursionLimit
  un : A.units + 16 * k + 200 < cLine
  gd : A.guards = some []
theorem Room.mono {j k : Nat} {A : Around} (r : Room k A) (h : j ≤ k) : Room j A := ⟨r.hd, by have := r.dp; omega, by have := r.un; omega, r.gd⟩
theorem Room.deeper {k : Nat} {A : Around} (r : Room (k + 1) A) (env : Env) : Room k (A.deeper env) :=
  ⟨r.hd, by have := r.dp; show A.depth + 1 + 3 * k + 5 < _; omega, by have := r.un; show A.units + 3 + 16 * k + 200 < _; omega, r.gd⟩
theorem Room.in1 {k : Nat} {A : Around} (r : Room (k + 1) A) : Room k A.in1 :=
  ⟨r.hd, by have := r.dp; show A.depth + 3 * k + 5 < _; omega, by have := r.un; show A.units + 1 + 16 * k + 200 < _; omega, r.gd⟩
theorem make_depth {A : Around} {C : Addr} {us : List Value} {kw : List (Str × Value)} : (A.under (.builtin "type.__call__" ⟨.ref C :: us, kw⟩)).depth = A.depth + 1 := by
  first | rfl | simp [Around.under, Code.weight, Code.isCreation, Code.isGuard, Code.isCaller, Code.frames, Code.isFrame, guardIds]
theorem make_units {A : Around} {C : Addr} {us : List Value} {kw : List (Str × Value)} : (A.under (.builtin "type.__call__" ⟨.ref C :: us, kw⟩)).units = A.units + 1 := by
  first | rfl | simp [Around.under, Code.cUnits, Code.frames, Code.isFrame]
theorem Room.make {k : Nat} {A : Around} (r : Room (k + 1) A) (C : Addr) (us : List Value) (kw : List (Str × Value)) : Room k (A.under (.builtin "type.__call__" ⟨.ref C :: us, kw⟩)) :=
  ⟨r.hd, by have := r.dp; rw [make_depth]; omega, by have := r.un; rw [make_units]; omega, by have := r.gd; simp [Around.under, Code.guards, Code.isGuard, guardIds, pushGuards, this]⟩
theorem Room.depth {k : Nat} {A : Around} (r : Room k A) : A.depth < recursionLimit := by have := r.dp; omega
theorem Room.units {k : Nat} {A : Around} (r : Room k A) : A.units + 64 < cLine := by have := r.un; omega
theorem Room.units0 {k : Nat} {A : Around} (r : Room k A) : A.units < cLine := by have := r.un; omega

/-! ### argument lists and displays -/
def tNil : TA := fun _ H Q => Q [] H
def tCons (ta : TE) (tr : TA) : TA := fun σ H Q => ta σ H fun x H1 => tr σ H1 fun xs H2 => Q (x :: xs) H2
section
variable {X : Cx} {e : Expr} {es : List Expr} {te : TE} {t : TA} {pos : Pos}
theorem pa_nil : PA X [] tNil := fun _ _ _ _ H Q I h => Calls.spliced_nil ⟨[], H, I, .nil, h⟩
theorem pa_cons (ha : PE X e te) (hr : PA X es t) (hs : starEach (e :: es) X.env = (false, eval e X.env) :: starEach es X.env := by rfl) : PA X (e :: es) (tCons te t) := by
  intro pos pins s σ H Q I h
  rw [hs]
  show wpAny _ _ (spliced ((false, eval e X.env) :: backTo pos (starEach es X.env))) _ _ s
  refine Calls.spliced_cons (thn (ha pins s σ H _ I h) fun u s1 ⟨x, H1, I1, r1, q1⟩ => ?_)
  exact thn (hr pos pins s1 σ H1 _ I1 q1) fun us s2 ⟨xs, H2, I2, r2, q2⟩ => ⟨x :: xs, H2, I2, .cons r1 r2, q2⟩

/-- a tuple, a list of written items -/
def tTup (t : TA) : TE := fun σ H Q => t σ H fun xs H1 => xs.length ≤ sizeLine ∧ ∀ p, H1 p = none → Q (.ref p) (upd H1 p (.tup xs))
def tLst (t : TA) : TE := fun σ H Q => t σ H fun xs H1 => xs.length ≤ sizeLine ∧ ∀ p, H1 p = none → Q (.ref p) (upd H1 p (.lst xs))
theorem pe_tup {x1} (h : PA X es t) : PE X (.Tuple es x1 pos) (tTup t) := by
  intro pins s σ H Q I hq
  refine wpAny_Tuple_spliced (thn (h pos pins s σ H _ I hq) fun us s1 ⟨xs, H1, I1, r, z, q⟩ => ⟨by rw [← r.length]; exact z, ?_⟩)
  have hf : H1 s1.heap.objs.size = none := I1.hok.fresh (Nat.le_refl _)
  refine ⟨.ref s1.heap.objs.size, upd H1 s1.heap.objs.size (.tup xs), I1.laid (t' := s1.toks) (fun b u e => Heap.get?_push_of_some _ e) (Nat.le_refl _) ?_, rfl, q _ hf⟩
  exact ⟨z, us, r, ⟨_, Heap.get?_push_size _ rfl, rfl, _, rfl, rfl⟩⟩
theorem pe_lst (h : PA X es t) : PE X (.List es pos) (tLst t) := by
  intro pins s σ H Q I hq
  refine wpAny_List_spliced (thn (h pos pins s σ H _ I hq) fun us s1 ⟨xs, H1, I1, r, z, q⟩ => ⟨by rw [← r.length]; exact z, ?_⟩)
  have hf : H1 s1.heap.objs.size = none := I1.hok.fresh (Nat.le_refl _)
  refine ⟨.ref s1.heap.objs.size, upd H1 s1.heap.objs.size (.lst xs), I1.laid (t' := s1.toks) (fun b u e => Heap.get?_push_of_some _ e) (Nat.le_refl _) ?_, rfl, q _ hf⟩
  exact ⟨z, us, 0, r, Heap.get?_push_size _ rfl⟩
end

/-! ### what a def promises -/
/-- a def's promise: the bound arguments in the parameters' order, the heap, the wanted end, the wanted exception -/
abbrev Sp := List V → Hp → VK → XK → Prop
/-- how an exception lies behind a call (file 08 gives it): the callers' frames, abstract heap and state ahead of the call, the wish, the exception, the state -/
abbrev CXT := List Env → Hp → Shared → XK → Value → Shared → Prop

/-- the state at a call -/
structure Env0 (P : Program) (w : World) (K : PySem.W.Frag) (mg : Str → Option Value) (base : Heap) (A : Around) (outer : List Env) (s : Shared) (H : Hp) : Prop where
  frames : A.frames = some outer
  mod : Mod K mg base
  bs : ∀ b o, base.get? b = some o → s.heap.get? b = some o ∧ H b = none
  bsz : base.objs.size ≤ s.heap.objs.size
  funs : s.heap.FunFrames base outer
  frf : ∀ b ∈ frs outer, H b = none
  hok : HOk P w H s.heap
  bare : AllBare s.gens
/-- a call's end -/
def CE (outer : List Env) (P : Program) (w : World) (H : Hp) (s : Shared) (Q : VK) (u : Value) (s' : Shared) : Prop :=
  ∃ v H', s'.os = s.os ∧ AllBare s'.gens ∧ Un (frs outer) [] H H' s.heap s'.heap ∧ HOk P w H' s'.heap ∧ RelV v u ∧ Q v H'
def CR (CX : CXT) (outer : List Env) (P : Program) (w : World) (H : Hp) (s : Shared) (Q : VK) (E : XK) (r : Result) (s' : Shared) : Prop :=
  match r with
  | .ok (.ret u) => CE outer P w H s Q u s'
  | .ok _ => False
  | .error e => CX outer H s E e s'
structure FnOk (P : Program) (w : World) (K : PySem.W.Frag) (mg : Str → Option Value) (base : Heap) (CX : CXT) (k : Nat) (f : Addr) (fd : FuncData) (ps : List Str) (sp : Sp) : Prop where
  len : ∀ vs H Q E, sp vs H Q E → vs.length = ps.length
  run : ∀ (A : Around) (outer : List Env) (s : Shared) (H : Hp) (args : Args) (us : List Value) (vs : List V) (Q : VK) (E : XK), Room k A → Env0 P w K mg base A outer s H → BindsTo s fd args (ps.zip us) → Vals vs us → sp vs H Q E →
    codeAny (model P w) A (.call (.ref f) args) (CR CX outer P w H s Q E) s
/-- a weaker promise -/
theorem FnOk.imp {P : Program} {w : World} {K : PySem.W.Frag} {mg : Str → Option Value} {base : Heap} {CX : CXT} {k : Nat} {f : Addr} {fd : FuncData} {ps : List Str} {sp sp' : Sp} (F : FnOk P w K mg base CX k f fd ps sp)
    (h : ∀ vs H Q E, sp' vs H Q E → sp vs H Q E) : FnOk P w K mg base CX k f fd ps sp' :=
  ⟨fun vs H Q E q => F.len vs H Q E (h _ _ _ _ q), fun A outer s H args us vs Q E hr he hb hv hs => F.run A outer s H args us vs Q E hr he hb hv (h _ _ _ _ hs)⟩

theorem Env0.make {P : Program} {w : World} {K : PySem.W.Frag} {mg : Str → Option Value} {base : Heap} {A : Around} {outer : List Env} {s : Shared} {H : Hp} (e : Env0 P w K mg base A outer s H) (C : Addr) (us : List Value) (kw : List (Str × Value)) :
    Env0 P w K mg base (A.under (.builtin "type.__call__" ⟨.ref C :: us, kw⟩)) outer s H := ⟨by first | exact e.frames | (simpa [Around.under, Code.envs, Code.isFrame, pushEnvs] using e.frames), e.mod, e.bs, e.bsz, e.funs, e.frf, e.hok, e.bare⟩
theorem Env0.in1 {P : Program} {w : World} {K : PySem.W.Frag} {mg : Str → Option Value} {base : Heap} {A : Around} {outer : List Env} {s : Shared} {H : Hp} (e : Env0 P w K mg base A outer s H) :
    Env0 P w K mg base A.in1 outer s H := ⟨e.frames, e.mod, e.bs, e.bsz, e.funs, e.frf, e.hok, e.bare⟩

section
variable {X : Cx} {pins : List (Addr × Obj)} {σ : St} {H : Hp} {s s' : Shared}
/-- from a body: what a callee wants -/
theorem Inv.env0 (I : Inv X pins σ H s) : Env0 X.prog X.w X.K X.mg X.base X.A X.stack s H :=
  ⟨I.ok.frames, I.ok.mod, I.bs, Nat.le_trans I.ok.bsz I.sz, I.stack, I.stkFree, I.hok, I.bare⟩
/-- behind a call -/
theorem Inv.after {Q : VK} {u : Value} (I : Inv X pins σ H s) (h : CE X.stack X.prog X.w H s Q u s') : EP X pins σ Q u s' := by
  obtain ⟨v, H', os, bare, un, hok, r, q⟩ := h
  obtain ⟨hh, g, d, t, os'⟩ := s'
  obtain rfl : os' = s.os := os
  exact ⟨v, H', I.call (h' := hh) (g' := g) (d' := d) (t' := t) (ch := []) un hok bare (fun b z => absurd z (by simp)), r, q⟩
end

/-! ### calls -/
/-- f(..): the written arguments, then the defaults dvs; E: what is wanted of an exception -/
def tCall (sp : Sp) (dvs : List V) (E : XK) (t : TA) : TE := fun σ H Q => t σ H fun vs H1 => sp (vs ++ dvs) H1 Q E
/-- o.m(..) of an instance of the class at C -/
def tMeth (C : Addr) (m : Str) (sp : Sp) (dvs : List V) (E : XK) (ta : TE) (t : TA) : TE := fun σ H Q => ta σ H fun x H1 => ∃ a dx fs, x = .ref a ∧ H1 a = some (.ins C dx fs) ∧ fs.lookup m = none ∧
  t σ H1 fun vs H2 => sp (x :: (vs ++ dvs)) H2 Q E
/-- C(..): a new instance and its dict, then __init__ -/
def tMake (C : Addr) (sp : Sp) (dvs : List V) (E : XK) (t : TA) : TE := fun σ H Q => t σ H fun vs H1 => ∀ x dx, H1 x = none → H1 dx = none → dx ≠ x →
  sp (.ref x :: (vs ++ dvs)) (upd (upd H1 dx (.own x)) x (.ins C dx [])) (fun v H2 => v = .non ∧ Q (.ref x) H2) E

/-- how the parameters are bound: us the positional arguments, kw the keywords' values by name, ds the defaults that fill up -/
def Binds (K : PySem.W.Frag) (fd : FuncData) (ps : List Str) (ds : List Value) : Prop :=
  ∀ (s : Shared) (us : List Value), K.In s.heap → (us ++ ds).length = ps.length → BindsTo s fd ⟨us, []⟩ (ps.zip (us ++ ds))
/-- every parameter is given -/
theorem Binds.all {K : PySem.W.Frag} {fd : FuncData} {ps : List Str} (h : ∀ us : List Value, us.length = ps.length → bindArgs fd ⟨us, []⟩ = pure (ps.zip us)) : Binds K fd ps [] := fun s us _ hl => by
  rw [List.append_nil] at hl ⊢
  exact .of_eq (h us hl)

/-- an exception of a callee reaches what this body wants of exceptions -/
def Passes (CX : CXT) (X : Cx) (E : XK) : Prop := ∀ (pins : List (Addr × Obj)) (σ : St) (H : Hp) (s : Shared) (e : Value) (s' : Shared), Inv X pins σ H s → CX X.stack H s E e s' → X.xe e s'

section
variable {X : Cx} {CX : CXT} {k : Nat} {f C : Addr} {fd : FuncData} {ps : List Str} {sp : Sp} {dvs : List V} {ds : List Value} {E : XK} {x m : Str} {p pos apos : Pos} {e o : Expr} {es : List Expr} {ta : TE} {t : TA}

/-- the callee runs -/
theorem run_fn {pins : List (Addr × Obj)} {σ : St} {H : Hp} {s : Shared} {Q : VK} {us : List Value} {vs : List V} (F : FnOk X.prog X.w X.K X.mg X.base CX k f fd ps sp) (hr : Room k X.A) (hb : Binds X.K fd ps ds) (hd : Vals dvs ds) (hx : Passes CX X E)
    (I : Inv X pins σ H s) (r : Vals vs us) (h : sp (vs ++ dvs) H Q E) : wpAny (model X.prog X.w) X.A (call (.ref f) us) (EP X pins σ Q) X.xe s := by
  have r2 : Vals (vs ++ dvs) (us ++ ds) := r.append hd
  have hl : (us ++ ds).length = ps.length := by rw [← r2.length]; exact F.len _ _ _ _ h
  refine wpAny_call (codeAny_mono (F.run X.A X.stack s H ⟨us, []⟩ (us ++ ds) (vs ++ dvs) Q E hr I.env0 (hb s us I.kIn hl) r2 h) fun r s' hq => ?_)
  cases r with
  | error e => exact hx pins σ H s e s' I hq
  | ok fl =>
    cases fl with
    | ret u => exact I.after hq
    | next => exact False.elim hq
    | brk => exact False.elim hq
    | cont => exact False.elim hq

theorem pe_call (F : FnOk X.prog X.w X.K X.mg X.base CX k f fd ps sp) (hr : Room k X.A) (hg : Gl X x) (hm : X.mg x = some (.ref f)) (hk : PySem.W.keepIn X.K (.ref f) = true) (hb : Binds X.K fd ps ds) (hd : Vals dvs ds) (hx : Passes CX X E)
    (ha : PA X (e :: es) t) (hdb : (x == ("__debug__" : Str)) = false := by decide) (he : starEach (e :: es) X.env = (false, eval e X.env) :: starEach es X.env := by rfl) (hpl : (backTo pos (starEach es X.env)).any (·.1) = false := by rfl) :
    PE X (.Call (.Name x p) (e :: es) [] pos) (tCall sp dvs E t) := by
  intro pins s σ H Q I h
  refine wpAny_Call_Name_kw (ld_glob I hg hm ?_ hdb)
  refine PySem.W.callWith_K (h₀ := X.base) I.ok.mod.kin hk (thn (ha pos pins s σ H _ I h) fun us s1 ⟨vs, H1, I1, r, q⟩ => ⟨I1.kIn, ?_⟩) he hpl
  exact run_fn F hr hb hd hx I1 r q
/-- o.m(e, ..) -/
theorem pe_meth {pl : Sem Bool} (he : PE X o ta) (c : Cls X.K C) (hm : Meth X.K C m f) (F : FnOk X.prog X.w X.K X.mg X.base CX k f fd ps sp) (hr : Room k X.A) (hb : Binds X.K fd ps ds) (hd : Vals dvs ds) (hx : Passes CX X E) (ha : PA X (e :: es) t)
    (hst : starEach (e :: es) X.env = (false, eval e X.env) :: starEach es X.env := by rfl) (hpl : (backTo pos (starEach es X.env)).any (·.1) = false := by rfl)
    (ht : eval (.Call (.Attribute o m apos) (e :: es) [] pos) X.env = (do
      let ov ← eval o X.env
      standAt apos.atName
      let (f, first) ← holding [ov] (getMethod ov m pl)
      callWith pos f first (backTo pos (starEach (e :: es) X.env)) (backToKw pos (keywordEach [] X.env))) := by rfl) :
    PE X (.Call (.Attribute o m apos) (e :: es) [] pos) (tMeth C m sp dvs E ta t) := by
  intro pins s σ H Q I h
  refine PySem.W.methodCall_KW (pl := pl) (thn (he pins s σ H _ I h) fun u s1 ⟨x, H1, I1, rx, a, dx, fs, ex, ea, l, q⟩ => ?_) ht
  subst ex
  obtain rfl : u = Value.ref a := rx
  refine getmeth_ok I1 ea c hm l ?_
  refine PySem.W.callWith_K (first := [.ref a]) (h₀ := X.base) I.ok.mod.kin hm.kp (thn (ha pos pins s1 σ H1 _ I1 q) fun us s2 ⟨vs, H2, I2, r, q2⟩ => ⟨I2.kIn, ?_⟩) hst hpl
  exact run_fn (us := .ref a :: us) (vs := .ref a :: vs) F hr hb hd hx I2 (.cons rfl r) q2
/-- o.m() -/
theorem pe_meth0 {pl : Sem Bool} (he : PE X o ta) (c : Cls X.K C) (hm : Meth X.K C m f) (F : FnOk X.prog X.w X.K X.mg X.base CX k f fd ps sp) (hr : Room k X.A) (hb : Binds X.K fd ps ds) (hd : Vals dvs ds) (hx : Passes CX X E)
    (ht : eval (.Call (.Attribute o m apos) [] [] pos) X.env = (do
      let ov ← eval o X.env
      standAt apos.atName
      let (f, first) ← holding [ov] (getMethod ov m pl)
      callWith pos f first (backTo pos (starEach [] X.env)) (backToKw pos (keywordEach [] X.env))) := by rfl) :
    PE X (.Call (.Attribute o m apos) [] [] pos) (tMeth C m sp dvs E ta tNil) := by
  intro pins s σ H Q I h
  refine PySem.W.methodCall_KW (pl := pl) (thn (he pins s σ H _ I h) fun u s1 ⟨x, H1, I1, rx, a, dx, fs, ex, ea, l, q⟩ => ?_) ht
  subst ex
  obtain rfl : u = Value.ref a := rx
  refine getmeth_ok I1 ea c hm l ?_
  exact PySem.W.callWith_K0 (first := [.ref a]) I1.kIn hm.kp (run_fn (us := [.ref a]) (vs := [.ref a]) F hr hb hd hx I1 (.cons rfl .nil) q)

/-- what a class must have to be made -/
structure Mk (K : PySem.W.Frag) (C f : Addr) : Prop where
  makes : PySem.W.makesIn K C = true
  init : PySem.W.findIn K (.ref C) "__init__" = some (some (.ref f))
  fn : PySem.W.isFn K (.ref f) = true
  kp : PySem.W.keepIn K (.ref C) = true

theorem run_make {pins : List (Addr × Obj)} {σ : St} {H : Hp} {s : Shared} {Q : VK} {us : List Value} {vs : List V} (M : Mk X.K C f) (F : FnOk X.prog X.w X.K X.mg X.base CX k f fd ps sp) (hr : Room (k + 1) X.A) (hb : Binds X.K fd ps ds) (hd : Vals dvs ds)
    (hx : Passes CX X E) (I : Inv X pins σ H s) (r : Vals vs us)
    (h : ∀ x dx, H x = none → H dx = none → dx ≠ x → sp (.ref x :: (vs ++ dvs)) (upd (upd H dx (.own x)) x (.ins C dx [])) (fun v H2 => v = .non ∧ Q (.ref x) H2) E) :
    wpAny (model X.prog X.w) X.A (call (.ref C) us) (EP X pins σ Q) X.xe s := by
  have hq := h (s.heap.objs.size + 1) s.heap.objs.size (I.hok.fresh (Nat.le_succ _)) (I.hok.fresh (Nat.le_refl _)) (Nat.ne_of_lt (Nat.lt_succ_self _))
  have I2 := Inv.made (C := C) I
  have r2 : Vals (V.ref (s.heap.objs.size + 1) :: (vs ++ dvs)) (Value.ref (s.heap.objs.size + 1) :: (us ++ ds)) := .cons rfl (r.append hd)
  have hl : (Value.ref (s.heap.objs.size + 1) :: us ++ ds).length = ps.length := by
    have e := r2.length
    rw [F.len _ _ _ _ hq] at e
    exact e.symm
  refine wpAny_call (make_map (f := f) I.kIn M.makes M.init (beq_iff_eq.mp M.fn) (codeAny_mono (F.run _ X.stack _ _ ⟨Value.ref (s.heap.objs.size + 1) :: us, []⟩ (Value.ref (s.heap.objs.size + 1) :: (us ++ ds)) _ _ E (hr.make C us [])
    (I2.env0.make C us []) (hb _ (Value.ref (s.heap.objs.size + 1) :: us) I2.kIn hl) r2 hq) fun r s' hq' => ?_))
  cases r with
  | error e => exact hx pins σ _ _ e s' I2 hq'
  | ok fl =>
    cases fl with
    | ret u =>
      obtain ⟨v, H', I3, rv, ev, q3⟩ := I2.after hq'
      subst ev
      exact ⟨rv, ⟨V.ref (s.heap.objs.size + 1), H', I3, rfl, q3⟩⟩
    | next => exact False.elim hq'
    | brk => exact False.elim hq'
    | cont => exact False.elim hq'
theorem pe_make (M : Mk X.K C f) (F : FnOk X.prog X.w X.K X.mg X.base CX k f fd ps sp) (hr : Room (k + 1) X.A) (hg : Gl X x) (hm : X.mg x = some (.ref C)) (hb : Binds X.K fd ps ds) (hd : Vals dvs ds) (hx : Passes CX X E)
    (ha : PA X (e :: es) t) (hdb : (x == ("__debug__" : Str)) = false := by decide) (he : starEach (e :: es) X.env = (false, eval e X.env) :: starEach es X.env := by rfl) (hpl : (backTo pos (starEach es X.env)).any (·.1) = false := by rfl) :
    PE X (.Call (.Name x p) (e :: es) [] pos) (tMake C sp dvs E t) := by
  intro pins s σ H Q I h
  refine wpAny_Call_Name_kw (ld_glob I hg hm ?_ hdb)
  refine PySem.W.callWith_K (h₀ := X.base) I.ok.mod.kin M.kp (thn (ha pos pins s σ H _ I h) fun us s1 ⟨vs, H1, I1, r, q⟩ => ⟨I1.kIn, ?_⟩) he hpl
  exact run_make M F hr hb hd hx I1 r q
end

/-! ### keywords -/
section
variable {X : Cx} {CX : CXT} {k : Nat} {f C : Addr} {fd : FuncData} {ps ks : List Str} {sp : Sp} {E : XK} {x m : Str} {p pos apos kpos : Pos} {e o : Expr} {es : List Expr} {kws : List Keyword} {te ta : TE} {t tk : TA} {nm : Option Str}
variable {g : List Value → List Value → List Value} {gV : List V → List V → List V}
end

/-! ### a def's body keeps its promise -/
/-- names: the parameters first -/
structure FnScope (N P : List Str) (sc : Scope) : Prop where
  kind : sc.kind = .function
  co : sc.isCoroutine = false
  gen : sc.isGenerator = false
  nd : N.Nodup
  pre : N.take P.length = P
  par : ∀ x ∈ P, sc.names.lookup x = some .local ∨ sc.names.lookup x = some .cell
  nofree : ∀ y ∈ sc.names, y.2 ≠ .free

theorem bindL_out {kindOf : Str → Option NameKind} {x : Str} : ∀ {binds : List (Str × Value)} {m : Str → Option Value}, (∀ v, (x, v) ∉ binds) → bindL kindOf binds m x = m x
  | [], _, _ => rfl
  | (n, v) :: r, m, h => by
    unfold bindL
    rw [bindL_out fun w hw => h w (List.mem_cons_of_mem _ hw)]
    split
    · have : x ≠ n := by rintro rfl; exact h v List.mem_cons_self
      simp [this]
    · rfl
theorem bindC_out {kindOf : Str → Option NameKind} {x : Str} : ∀ {binds : List (Str × Value)} {m : Str → Option Value}, (∀ v, (x, v) ∉ binds) → bindC kindOf binds m x = m x
  | [], _, _ => rfl
  | (n, v) :: r, m, h => by
    unfold bindC
    rw [bindC_out fun w hw => h w (List.mem_cons_of_mem _ hw)]
    split
    · rfl
    · have : x ≠ n := by rintro rfl; exact h v List.mem_cons_self
      simp [this]
theorem bindL_get {kindOf : Str → Option NameKind} {x : Str} {v : Value} : ∀ {P : List Str} {vs : List Value} {i : Nat} {m : Str → Option Value}, P.Nodup → P[i]? = some x → vs[i]? = some v → kindOf x = some .local →
    bindL kindOf (P.zip vs) m x = some v
  | [], _, _, _, _, h, _, _ => by simp at h
  | _ :: _, [], _, _, _, _, h, _ => by simp at h
  | p :: P, w :: vs, 0, m, nd, h1, h2, hk => by
    simp at h1 h2; subst h1; subst h2
    show bindL kindOf ((p, w) :: P.zip vs) m p = _
    unfold bindL
    rw [bindL_out fun v hv => (List.nodup_cons.mp nd).1 (List.of_mem_zip hv).1, if_pos hk]
    simp
  | p :: P, w :: vs, i + 1, m, nd, h1, h2, hk => by
    show bindL kindOf ((p, w) :: P.zip vs) m x = _
    unfold bindL
    exact bindL_get (i := i) (List.nodup_cons.mp nd).2 (by simpa using h1) (by simpa using h2) hk
theorem bindC_get {kindOf : Str → Option NameKind} {x : Str} {v : Value} : ∀ {P : List Str} {vs : List Value} {i : Nat} {m : Str → Option Value}, P.Nodup → P[i]? = some x → vs[i]? = some v → kindOf x ≠ some .local →
    bindC kindOf (P.zip vs) m x = some v
  | [], _, _, _, _, h, _, _ => by simp at h
  | _ :: _, [], _, _, _, _, h, _ => by simp at h
  | p :: P, w :: vs, 0, m, nd, h1, h2, hk => by
    simp at h1 h2; subst h1; subst h2
    show bindC kindOf ((p, w) :: P.zip vs) m p = _
    unfold bindC
    rw [bindC_out fun v hv => (List.nodup_cons.mp nd).1 (List.of_mem_zip hv).1, if_neg hk]
    simp
  | p :: P, w :: vs, i + 1, m, nd, h1, h2, hk => by
    show bindC kindOf ((p, w) :: P.zip vs) m x = _
    unfold bindC
    exact bindC_get (i := i) (List.nodup_cons.mp nd).2 (by simpa using h1) (by simpa using h2) hk

/-- the names' values at the entry -/
def start (N : List Str) (vs : List V) : St := vs.map some ++ List.replicate (N.length - vs.length) none

/-- the context of a def's body, at its entry; an exception leaves the frame, then lies as CX says -/
def cxOf (CX : CXT) (P : Program) (w : World) (K : PySem.W.Frag) (mg : Str → Option Value) (base : Heap) (N : List Str) (qual : Str) (scope : Scope) (f : Addr) (cd : Value) (A : Around) (outer : List Env) (s : Shared) (H : Hp) (E : XK) : Cx where
  prog := P
  w := w
  K := K
  mg := mg
  base := base
  A := A.deeper (envOfC qual scope s.heap.objs.size f cd)
  N := N
  s₀ := s
  H₀ := H
  env := envOfC qual scope s.heap.objs.size f cd
  outer := outer
  stack := envOfC qual scope s.heap.objs.size f cd :: outer
  ex := []
  calm := true
  fn := fun _ => true
  pn := []
  xe := fun e s' => wpAny (model P w) (A.deeper (envOfC qual scope s.heap.objs.size f cd)) (leaving (envOfC qual scope s.heap.objs.size f cd) e) (fun _ s'' => CX outer H s E e s'') (fun e' s'' => CX outer H s E e' s'') s'

theorem cell_has {sc : Scope} {n : Nat} {x : Str} (h : sc.names.lookup x = some .cell) : ∃ c, (cellsFrom n sc.names []).lookup x = some c := by
  have q := PySem.W.cellsFrom_some sc.names n [] (.inl h)
  exact Option.isSome_iff_exists.mp q

theorem inv_start {CX : CXT} {P : Program} {w : World} {K : PySem.W.Frag} {mg : Str → Option Value} {base : Heap} {N ps : List Str} {qual : Str} {scope : Scope} {f : Addr} {cd : Value} {A : Around} {outer : List Env} {s s1 : Shared} {H : Hp} {E : XK} {us : List Value} {vs : List V}
    (S : FnScope N ps scope) (hd : A.handled = none) (e0 : Env0 P w K mg base A outer s H) (hl : vs.length = ps.length) (r : Vals vs us)
    (x : InCallC s s.heap.objs.size (bindL (envOfC qual scope s.heap.objs.size f cd).kindOf (ps.zip us) fun _ => none) (cellsFrom (s.heap.objs.size + 1) scope.names []) (bindC (envOfC qual scope s.heap.objs.size f cd).kindOf (ps.zip us) fun _ => none) s1) :
    Inv (cxOf CX P w K mg base N qual scope f cd A outer s H E) [] (start N vs) H s1 := by
  have hpl : ps.length ≤ N.length := by have := congrArg List.length S.pre; rw [List.length_take] at this; omega
  obtain ⟨h1, tk, rfl, hk⟩ := x.done
  have noA : ∀ b : Addr, b ∉ (cxOf CX P w K mg base N qual scope f cd A outer s H E).ex := fun b z => absurd (show b ∈ ([] : List Addr) from z) (by simp)
  refine ⟨⟨e0.mod, S.kind, rfl, rfl, Nat.le_refl _, fun y z c h1 h2 => ?_, fun y hy => ?_, fun y c _ h => ?_, fun _ => hd, Around.frames_deeper e0.frames, .inr ⟨rfl, rfl⟩, fun b z => absurd z (noA b), e0.bs, e0.bsz, fun b _ _ => noA b, fun b z => absurd z (noA b), e0.funs, e0.frf⟩,
    rfl, e0.bare, Un.kept hk, ⟨_, x.toInCall.ns, fun i y v h1 h2 h3 => ?_⟩, fun y c h => ⟨_, x.cell y c h⟩, e0.hok.fresh (Nat.le_refl _), fun y c h => ?_, fun p hp => absurd (show p ∈ ([] : List (Addr × Obj)) from hp) (by simp), e0.hok.kept hk, ?_⟩
  · exact name_of_addr x.apart (PySem.mem_of_lookup h1) (PySem.mem_of_lookup h2)
  · have hy : scope.names.lookup y = some .cell ∨ scope.names.lookup y = some .free := hy
    rcases hy with hy | hy
    · exact cell_has hy
    · exact absurd rfl (S.nofree _ (PySem.mem_of_lookup hy))
  · exact Nat.le_of_lt (x.above y c (PySem.mem_of_lookup h))
  · have hi : i < vs.length := by
      unfold start at h2
      by_cases hi : i < vs.length
      · exact hi
      · rw [List.getElem?_append_right (by simpa using hi)] at h2
        rw [List.getElem?_replicate] at h2
        split at h2 <;> cases h2
    have ha : vs[i]? = some v := by
      unfold start at h2
      rw [List.getElem?_append_left (by simpa using hi), List.getElem?_map] at h2
      cases e : vs[i]? with
      | none => rw [e] at h2; cases h2
      | some a => rw [e] at h2; cases h2; rfl
    obtain ⟨u, hu, rv⟩ := r.get ha
    have hp : ps[i]? = some y := by
      rw [← S.pre, List.getElem?_take_of_lt (by omega)]; exact h1
    have ndP : ps.Nodup := by rw [← S.pre]; exact S.nd.sublist (List.take_sublist _ _)
    refine ⟨u, rv, ?_⟩
    rcases S.par y (List.mem_of_getElem? hp) with k | k
    · exact .inl ⟨k, bindL_get ndP hp hu k⟩
    · obtain ⟨c, e⟩ := cell_has (n := s.heap.objs.size + 1) k
      refine .inr ⟨.inl k, c, e, ?_⟩
      have q := x.cell y c e
      rw [bindC_get ndP hp hu (by show scope.names.lookup y ≠ _; rw [k]; decide)] at q
      exact q
  · exact e0.hok.fresh (Nat.le_of_lt (x.above y c (PySem.mem_of_lookup h)))
  · unfold start
    show _ = N.length
    rw [List.length_append, List.length_map, List.length_replicate]
    omega

/-- THE RULE: a def (or a method) of the text, by its body. The body's reading t is chosen for each entry; it is run at the parameters' values -/
theorem fn_of {CX : CXT} {P : Program} {w : World} {K : PySem.W.Frag} {mg : Str → Option Value} {base : Heap} {k : Nat} {f : Addr} {name qual : Str} {params : Arguments} {body : List Stmt} {scope : Scope} {dV kV doc pm cdv ct oc : Value} {an od : Option Addr}
    {osl : Array (Option Value)} {N ps : List Str} {sp : Sp} (lk : K.lookup f = some ⟨oc, od, .func (PySem.W.fnOf name qual params body scope dV kV doc pm an cdv ct), osl⟩) (hcd : PySem.W.codeIn K cdv qual = true) (S : FnScope N ps scope)
    (len : ∀ vs H Q E, sp vs H Q E → vs.length = ps.length)
    (hbody : ∀ (A : Around) (outer : List Env) (s : Shared) (H : Hp) (vs : List V) (Q : VK) (E : XK), Room k (A.deeper (envOfC qual scope s.heap.objs.size f cdv)) → sp vs H Q E →
      ∃ t, PSs (cxOf CX P w K mg base N qual scope f cdv A outer s H E) body t ∧ t { nx := fun _ H' => Q .non H', rt := Q } (start N vs) H) :
    FnOk P w K mg base CX (k + 1) f (PySem.W.fnOf name qual params body scope dV kV doc pm an cdv ct) ps sp := by
  refine ⟨len, fun A outer s H args us vs Q E hr e0 hb r hsp => ?_⟩
  have hl := len _ _ _ _ hsp
  have KX : K.In s.heap := e0.mod.kin.keeps fun b o e => (e0.bs b o e).1
  have lim : s.heap.NoLimit := e0.mod.nolimit.keeps fun b o e => (e0.bs b o e).1
  have hkind : ∀ y ∈ ps.zip us, scope.names.lookup y.1 = some .local ∨ (scope.names.lookup y.1 = some .cell ∧ ((cellsFrom (s.heap.objs.size + 1) scope.names []).lookup y.1).isSome = true) := fun ⟨n, v⟩ hy => by
    rcases S.par n (List.of_mem_zip hy).1 with q | q
    · exact .inl q
    · exact .inr ⟨q, PySem.W.cellsFrom_some _ _ _ (.inl q)⟩
  refine codeAny_call_function hr.depth (KX _ _ lk) rfl S.co S.gen rfl (PySem.W.codeRec_of KX hcd) (hb _ _ _ _ ?_)
  refine wpAny_newFunctionEnv_cells S.kind hkind fun env he s1 x => ?_
  subst he
  refine ⟨lim.keeps x.toInCall.keep, codeAny_func ?_⟩
  obtain ⟨t, ht, hq⟩ := hbody A outer s H vs Q E (hr.deeper _) hsp
  have I : Inv (cxOf CX P w K mg base N qual scope f cdv A outer s H E) [] (start N vs) H s1 := inv_start S hr.hd e0 hl r x
  refine wpAny_mono (ht [] s1 (start N vs) H _ I hq) (fun fl s' hs => ?_) fun e s' hs => hs
  have fin : ∀ {σ' : St} {H' : Hp} {v : V} {u : Value}, Inv (cxOf CX P w K mg base N qual scope f cdv A outer s H E) [] σ' H' s' → RelV v u → Q v H' → CE outer P w H s Q u s' :=
    fun {σ' H' v u} J rv q => ⟨v, H', J.os, J.bare, J.base, J.hok, rv, q⟩
  cases fl with
  | ret u =>
    obtain ⟨v, σ', H', J, rv, q⟩ := hs
    exact fin J rv q
  | next =>
    obtain ⟨σ', H', J, q⟩ := hs
    exact fin (v := V.non) (u := Value.none) J rfl q
  | brk =>
    obtain ⟨_, _, _, q⟩ := hs
    exact False.elim q
  | cont =>
    obtain ⟨_, _, _, q⟩ := hs
    exact False.elim q
end L2

namespace L2
open PySem PySem.Spec PyProof.Rows
section
variable {X : Cx} {x : Str} {p pos : Pos} {e : Expr} {es : List Expr} {t : TA} {id T : String} {r : List V → Hp → VK → Prop}

def tCB (r : List V → Hp → VK → Prop) (t : TA) : TE := fun σ H Q => t σ H fun vs H1 => r vs H1 Q
/-- f(e, ..), f a built-in function -/
theorem pe_callB (hc : CallR X (.builtin id) r) (hg : Gl X x) (hm : X.mg x = none) (hv : bootBuiltins x = some (.builtin id)) (ha : PA X (e :: es) t) (hn : x ≠ "__name__" := by decide) (hdb : (x == ("__debug__" : Str)) = false := by decide)
    (he : starEach (e :: es) X.env = (false, eval e X.env) :: starEach es X.env := by rfl) (hpl : (backTo pos (starEach es X.env)).any (·.1) = false := by rfl) : PE X (.Call (.Name x p) (e :: es) [] pos) (tCB r t) := by
  intro pins s σ H Q I h
  refine wpAny_Call_Name_kw (ld_blt I hg hm hv ?_ hn hdb)
  exact PyProof.Rows.callWith_builtin1 (thn (ha pos pins s σ H _ I h) fun us s1 ⟨vs, H1, I1, r1, q1⟩ => hc pins s1 σ H1 vs us Q I1 r1 q1) he hpl
/-- T(e, ..), T a built-in type -/
theorem pe_callTy (hc : CallR X (.type T) r) (hg : Gl X x) (hm : X.mg x = none) (hv : bootBuiltins x = some (.type T)) (ha : PA X (e :: es) t) (hn : x ≠ "__name__" := by decide) (hdb : (x == ("__debug__" : Str)) = false := by decide)
    (he : starEach (e :: es) X.env = (false, eval e X.env) :: starEach es X.env := by rfl) (hpl : (backTo pos (starEach es X.env)).any (·.1) = false := by rfl) : PE X (.Call (.Name x p) (e :: es) [] pos) (tCB r t) := by
  intro pins s σ H Q I h
  refine wpAny_Call_Name_kw (ld_blt I hg hm hv ?_ hn hdb)
  exact PyProof.Rows.callWith_type1 (thn (ha pos pins s σ H _ I h) fun us s1 ⟨vs, H1, I1, r1, q1⟩ => hc pins s1 σ H1 vs us Q I1 r1 q1) he hpl
end
end L2

namespace HT
open PySem PyProof.Rows

section
open PySem.SeqAt
open PySem.AutoSeq1 (wpAny_loadPart')
open PySem.MeetsSeq PySem.MeetsSeq2 PySem.MeetsSeq3

end

section
variable {prog : Program} {w : World} {A : Around} {E : Value → Shared → Prop} {s : Shared}

/-! ### t[a:b], not the whole -/
/-- a slice's bound as a place among n (d where it is left out) -/
def sIx (n d : Nat) : Option Int → Nat
  | none => d
  | some v => if v < 0 then (v + (n : Int)).toNat else min v.toNat n
theorem sIx_none (n d : Nat) : sIx n d none = d := rfl
theorem sIx_nat (n d k : Nat) : sIx n d (some (k : Int)) = min k n := by
  show (if (k : Int) < 0 then ((k : Int) + (n : Int)).toNat else min (k : Int).toNat n) = min k n
  rw [if_neg (by omega), Int.toNat_natCast]
theorem sIx_le (n d : Nat) (hd : d ≤ n) (o : Option Int) : sIx n d o ≤ n := by
  cases o with
  | none => exact hd
  | some v =>
    show (if v < 0 then (v + (n : Int)).toNat else min v.toNat n) ≤ n
    by_cases hv : v < 0
    · rw [if_pos hv]; omega
    · rw [if_neg hv]; exact Nat.min_le_right _ _
theorem clip_eq (v : Int) (n d : Nat) : (if v < 0 then max (v + (n : Int)) 0 else min v (n : Int)) = ((sIx n d (some v) : Nat) : Int) := by
  show (if v < 0 then max (v + (n : Int)) 0 else min v (n : Int)) = (((if v < 0 then (v + (n : Int)).toNat else min v.toNat n) : Nat) : Int)
  by_cases hv : v < 0
  · simp only [if_pos hv]; omega
  · simp only [if_neg hv]; omega
theorem adjust_gen (lo hi : Option Int) (n : Nat) : Builtin.Slice.sliceAdjust lo hi 1 (n : Int) = (((sIx n 0 lo : Nat) : Int), ((sIx n n hi : Nat) : Int)) := by
  have h1 : ¬ ((1 : Int) < 0) := by omega
  unfold Builtin.Slice.sliceAdjust
  simp only [h1, if_false]
  refine Prod.ext ?_ ?_
  · cases lo with
    | none => rfl
    | some v => exact clip_eq v n 0
  · cases hi with
    | none => rfl
    | some v => exact clip_eq v n n
theorem places_gen (i j : Nat) : Builtin.Slice.slicePlaces (i : Int) (j : Int) 1 = j - i := by
  unfold Builtin.Slice.slicePlaces
  have h1 : (1 : Int) > 0 := by omega
  simp only [h1, if_true, Int.ediv_one]
  split <;> omega
theorem slicePart_ {v : Value} {o : Option Int} {Q : Option Int → Shared → Prop} (p : IsPart v o) (h : Q o s) : wpAny (model prog w) A (Builtin.Slice.slicePartIndex v) Q E s := by
  cases p with
  | none => exact slicePart_none h
  | int i t => exact slicePart_int h
theorem sliceApplied_gen {sl : Addr} {vl vu : Value} {lo hi : Option Int} {n : Nat} {Q : Int × Int × Nat → Shared → Prop} (hs : s.heap.IsSliceOf sl vl vu .none) (pl : IsPart vl lo) (pu : IsPart vu hi)
    (h : Q (((sIx n 0 lo : Nat) : Int), 1, sIx n n hi - sIx n 0 lo) s) : wpAny (model prog w) A (Builtin.Slice.sliceApplied (.ref sl) (pure (n : Int))) Q E s := by
  obtain ⟨os, hos, hcs, hds⟩ := id hs
  unfold Builtin.Slice.sliceApplied Builtin.Slice.sliceFields
  refine wpAny_bind (wpAny_bind (wpAny_field hos hds (x := vl) rfl (wpAny_bind (wpAny_field hos hds (x := vu) rfl (wpAny_bind (wpAny_field hos hds (x := .none) rfl (wpAny_pure ?_)))))))
  refine wpAny_bind (slicePart_none ?_)
  show wpAny _ _ (if ((1 : Int) == 0) = true then _ else _) _ _ s
  rw [if_neg (by decide)]
  refine wpAny_bind (slicePart_ pl (wpAny_bind (slicePart_ pu (wpAny_bind (wpAny_pure ?_)))))
  show wpAny _ _ (match Builtin.Slice.sliceAdjust lo hi 1 (n : Int) with | (lo, hi) => pure (lo, (1 : Int), Builtin.Slice.slicePlaces lo hi 1)) _ _ s
  rw [adjust_gen lo hi n]
  show wpAny _ _ (pure (((sIx n 0 lo : Nat) : Int), (1 : Int), Builtin.Slice.slicePlaces ((sIx n 0 lo : Nat) : Int) ((sIx n n hi : Nat) : Int) 1)) _ _ s
  rw [places_gen]
  exact wpAny_pure h
theorem pick_gen (xs : Array Value) (i k : Nat) : ((List.range k).filterMap fun (m : Nat) => xs[((i : Int) + (m : Int) * 1).toNat]?).toArray = ((xs.toList.drop i).take k).toArray := by
  have e : (fun (m : Nat) => xs[((i : Int) + (m : Int) * 1).toNat]?) = fun m => xs[i + m]? := by
    funext m
    have : ((i : Int) + (m : Int) * 1).toNat = i + m := by omega
    rw [this]
  rw [e]
  have := pick_run xs i k
  rw [List.filterMap_map] at this
  have e2 : ((fun x => xs[x]?) ∘ fun x => i + x) = fun m => xs[i + m]? := rfl
  rw [e2] at this
  rw [this]

theorem getItem_tuple_cut {t sl : Addr} {items : Array Value} {vl vu : Value} {lo hi : Option Int} {Q : Value → Shared → Prop} (ht : IsTup s.heap t items) (hs : s.heap.IsSliceOf sl vl vu .none) (pl : IsPart vl lo) (pu : IsPart vu hi)
    (hw : ¬ (sIx items.size 0 lo = 0 ∧ sIx items.size items.size hi = items.size))
    (h : Q (.ref s.heap.objs.size) { s with heap := s.heap.push { cls := .type "tuple", data := .seq ((items.toList.drop (sIx items.size 0 lo)).take (sIx items.size items.size hi - sIx items.size 0 lo)).toArray } })
    (hsz : items.size ≤ sizeLine) : wpAny (model prog w) A (getItem (.ref t) (.ref sl)) Q E s := by
  have htake : sizeOk (.seq ((items.toList.drop (sIx items.size 0 lo)).take (sIx items.size items.size hi - sIx items.size 0 lo)).toArray) := by
    show ((items.toList.drop (sIx items.size 0 lo)).take (sIx items.size items.size hi - sIx items.size 0 lo)).toArray.size ≤ sizeLine
    rw [List.size_toArray, List.length_take, List.length_drop, Array.length_toList]
    omega
  have hj : sIx items.size items.size hi ≤ items.size := sIx_le _ _ (Nat.le_refl _) hi
  obtain ⟨os, hos, hcs, hds⟩ := id hs
  have hTs : s.TypeIs (.ref sl) "slice" := ⟨os, hos, hcs⟩
  unfold getItem
  try with_reducible refine wpAny_holding ?_
  first | refine wpAny_bind (wpAny_pure ?_) | skip
  refine wpAny_bind (wpAny_sequenceKey ht.typeIs (by decide) ?_)
  refine wpAny_bind (wpAny_callSpecial?_slot (name := Str.ofString "__getitem__") ht.typeIs PyProof.Rows.slot_tuple_getitem
    (wpAny_call_entry PyProof.Rows.slot_tuple_getitem ht.typeIs entry_tuple_getitem ?_ (args_tuple_getitem _ _)))
  show wpAny _ _ (Builtin.Tuple.tupleItemsOf (.ref t) >>= _) _ _ s
  refine wpAny_bind (tupleItemsOf_ ht ?_)
  refine wpAny_bind (wpAny_typeOf hTs ?_)
  rw [if_pos (by decide)]
  refine wpAny_bind (sliceApplied_gen hs pl pu ?_)
  have hno : ¬ ((((sIx items.size 0 lo : Nat) : Int) == 0 && (1 : Int) == 1 && (sIx items.size items.size hi - sIx items.size 0 lo) == items.size) = true) := by
    intro q
    rw [Bool.and_eq_true, Bool.and_eq_true] at q
    have q1 : ((sIx items.size 0 lo : Nat) : Int) = 0 := eq_of_beq q.1.1
    have q2 : sIx items.size items.size hi - sIx items.size 0 lo = items.size := eq_of_beq q.2
    exact hw ⟨by omega, by omega⟩
  show wpAny _ _ (if (((sIx items.size 0 lo : Nat) : Int) == 0 && (1 : Int) == 1 && (sIx items.size items.size hi - sIx items.size 0 lo) == items.size) = true then _ else _) _ _ s
  rw [if_neg hno, pick_gen]
  first
    | exact wpAny_bind (m := Builtin.Tuple.tupleExact _) (wpAny_newObj_type (wpAny_pure ⟨_, rfl, wpAny_pure h⟩) htake)
    | exact wpAny_bind (m := Builtin.Tuple.tupleExact _) (wpAny_newObj_type (wpAny_bind (wpAny_pure (wpAny_pure ⟨_, rfl, wpAny_pure h⟩))) htake)
    | exact wpAny_bind (wpAny_bind (m := Builtin.Tuple.tupleExact _) (wpAny_newObj_type (wpAny_pure (wpAny_pure ⟨_, rfl, wpAny_pure h⟩)) htake))
    | exact wpAny_bind (wpAny_bind (m := Builtin.Tuple.tupleExact _) (wpAny_newObj_type (wpAny_pure ⟨_, rfl, wpAny_pure h⟩) htake))
end
end HT

namespace L2
open PySem PySem.Spec PyProof.Rows

/-! ### the parts of a slice -/
abbrev TO := St → Hp → (Option Int → Hp → Prop) → Prop
/-- a slice's part (left out, or an int) -/
def PO (X : Cx) (e : Option Expr) (t : TO) : Prop :=
  ∀ (pins : List (Addr × Obj)) (s : Shared) (σ : St) (H : Hp) (Q : Option Int → Hp → Prop), Inv X pins σ H s → t σ H Q →
    wpAny (model X.prog X.w) X.A (evalPart e X.env) (fun u s' => ∃ o H', Inv X pins σ H' s' ∧ IsPart u o ∧ Q o H') X.xe s
def tNoPart : TO := fun _ H Q => Q none H
def tPart (t : TE) : TO := fun σ H Q => t σ H fun x H1 => ∃ i, x = .int i ∧ Q (some i) H1

theorem intsAre_of {ns : List Int} : ∀ {us : List Value}, Vals (ns.map V.int) us → IntsAre us ns := by
  induction ns with
  | nil => intro us r; rw [List.map_nil] at r; cases r; exact .nil
  | cons n ns ih =>
    intro us r
    rw [List.map_cons] at r
    cases r with
    | cons r1 r2 =>
      obtain ⟨t, e⟩ := r1
      subst e
      exact .cons n t (ih r2)

section
variable {X : Cx} {e : Expr} {te : TE} {lo hi : Option Expr} {tl th : TO} {pos p2 : Pos}

theorem po_none : PO X none tNoPart := by
  intro pins s σ H Q I h
  rw [evalPart_none]
  exact wpAny_pure ⟨none, H, I, .none, h⟩
theorem po_some (h : PE X e te) : PO X (some e) (tPart te) := by
  intro pins s σ H Q I hw
  rw [evalPart_some]
  refine thn (h pins s σ H _ I hw) fun u s1 ⟨x, H1, I1, r1, q1⟩ => ?_
  obtain ⟨i, rfl, q⟩ := q1
  obtain ⟨t, rfl⟩ := r1
  exact ⟨some i, H1, I1, .int i t, q⟩

/-- what a slice of a value is, by values: the slice object stands at sl -/
def SlR (X : Cx) (r : V → Option Int → Option Int → Hp → VK → Prop) : Prop :=
  ∀ (pins : List (Addr × Obj)) (s : Shared) (σ : St) (H : Hp) (x : V) (v vl vu : Value) (lo hi : Option Int) (sl : Addr) (Q : VK), Inv X pins σ H s → RelV x v → s.heap.IsSliceOf sl vl vu .none → IsPart vl lo → IsPart vu hi → r x lo hi H Q →
    ∃ T id, typeLookup (.type T) "__getitem__" = pure (some (.builtin id)) ∧ s.TypeIs v T ∧ wpAny (model X.prog X.w) X.A (getItem v (.ref sl)) (EP X pins σ Q) X.xe s
def tSl (r : V → Option Int → Option Int → Hp → VK → Prop) (te : TE) (tl th : TO) : TE := fun σ H Q => te σ H fun x H1 => tl σ H1 fun l H2 => th σ H2 fun u H3 => r x l u H3 Q
/-- a[lo:hi], any a -/
theorem pe_slice {r : V → Option Int → Option Int → Hp → VK → Prop} (hr : SlR X r) (he : PE X e te) (hl : PO X lo tl) (hu : PO X hi th) : PE X (.Subscript e (.Slice lo hi none p2) pos) (tSl r te tl th) := by
  intro pins s σ H Q I h
  refine Subscript_ (thn (he pins s σ H _ I h) fun v s1 ⟨x, H1, I1, r1, q1⟩ => ?_)
  refine wpAny_Slice (thn (hl pins s1 σ H1 _ I1 q1) fun vl s2 ⟨l, H2, I2, pl, q2⟩ => thn (hu pins s2 σ H2 _ I2 q2) fun vu s3 ⟨u, H3, I3, pu, q3⟩ => ?_)
  rw [evalPart_none]
  refine wpAny_pure ?_
  have I4 : Inv X pins σ H3 { s3 with heap := s3.heap.push { cls := .type "slice", data := .fields #[vl, vu, .none] } } := I3.kept (t' := s3.toks) fun b ob q => Heap.get?_push_of_some _ q
  obtain ⟨T, id, hT, ht, hg⟩ := hr pins { s3 with heap := s3.heap.push { cls := .type "slice", data := .fields #[vl, vu, .none] } } σ H3 x v vl vu l u s3.heap.objs.size Q I4 r1 (Heap.IsSliceOf.new ..) pl pu q3
  show wpAny (model X.prog X.w) X.A (subscriptTail e (.Slice lo hi none p2) v (.ref s3.heap.objs.size)) (EP X pins σ Q) X.xe { s3 with heap := s3.heap.push { cls := .type "slice", data := .fields #[vl, vu, .none] } }
  exact tail_any (ops := [.ref s3.heap.objs.size, v]) ht hT hg (by with_unfolding_all rfl)

/-- the items of xs[lo:hi] -/
def cutV (xs : List V) (lo hi : Option Int) : List V := (xs.drop (HT.sIx xs.length 0 lo)).take (HT.sIx xs.length xs.length hi - HT.sIx xs.length 0 lo)
theorem cutV_length (xs : List V) (lo hi : Option Int) : (cutV xs lo hi).length ≤ xs.length := by
  unfold cutV
  rw [List.length_take, List.length_drop]
  omega
/-- t[lo:hi], not the whole of it (the whole would be t itself) -/
def rSlT (K : PySem.W.Frag) : V → Option Int → Option Int → Hp → VK → Prop := fun x lo hi H Q => ∃ a xs, x = .ref a ∧ SqT K H a xs ∧
  ¬ (HT.sIx xs.length 0 lo = 0 ∧ HT.sIx xs.length xs.length hi = xs.length) ∧ ∀ p, H p = none → Q (.ref p) (upd H p (.tup (cutV xs lo hi)))
theorem sl_tup : SlR X (rSlT X.K) := by
  intro pins s σ H x v vl vu lo hi sl Q I rx hs pl pu h
  obtain ⟨a, xs, rfl, hx, hw, q⟩ := h
  cases rx
  obtain ⟨its, r, ht, hz⟩ := I.tuple hx
  have hlen : its.toArray.size = xs.length := by rw [List.size_toArray]; exact r.length.symm
  refine ⟨"tuple", _, PyProof.Rows.slot_tuple_getitem.lookup, ht.typeIs, ?_⟩
  refine HT.getItem_tuple_cut ht hs pl pu (by rw [hlen]; exact hw) ?_ (by rw [hlen]; exact hz)
  rw [hlen]
  refine ⟨.ref s.heap.objs.size, _, I.laid (t' := s.toks) (o := .tup (cutV xs lo hi)) (fun b ob q => Heap.get?_push_of_some _ q) (Nat.le_refl _) ?_, rfl, q _ (I.hok.fresh (Nat.le_refl _))⟩
  exact ⟨Nat.le_trans (cutV_length xs lo hi) hz, _, (r.drop (HT.sIx xs.length 0 lo)).take (HT.sIx xs.length xs.length hi - HT.sIx xs.length 0 lo), IsTupN.new _ _⟩

/-! ### t < u, t + u -/
theorem Vals.nil_iff {xs : List V} {us : List Value} (r : Vals xs us) : us = [] ↔ xs = [] := by
  cases r with
  | nil => simp
  | cons _ _ => simp
end
end L2

namespace L2
open PySem PySem.Spec PyProof.Rows

/-! ### places -/
/-- the place that an index of any sign means -/
def ixN (n : Nat) (i : Int) : Option Nat := if 0 ≤ i then (if i < n then some i.toNat else none) else if -(n : Int) ≤ i then some (i + n).toNat else none
def atI {α : Type} (xs : List α) (i : Int) : Option α := (ixN xs.length i).bind fun j => xs[j]?
theorem ixN_seq {n : Nat} {i : Int} {j : Nat} (h : ixN n i = some j) : seqIndex? i n = some j ∧ j < n ∧ -(n : Int) ≤ i ∧ i < n := by
  unfold ixN at h
  by_cases h0 : 0 ≤ i
  · rw [if_pos h0] at h
    by_cases h1 : i < n
    · rw [if_pos h1] at h
      have e : i.toNat = j := Option.some.inj h
      exact ⟨by rw [seqIndex_of h0 h1, e], by omega, by omega, h1⟩
    · rw [if_neg h1] at h; cases h
  · rw [if_neg h0] at h
    by_cases h1 : -(n : Int) ≤ i
    · rw [if_pos h1] at h
      have e : (i + n).toNat = j := Option.some.inj h
      exact ⟨by rw [seqIndex_neg (by omega) h1, e], by omega, h1, by omega⟩
    · rw [if_neg h1] at h; cases h
theorem atI_get {α : Type} {xs : List α} {i : Int} {v : α} (h : atI xs i = some v) : ∃ j, seqIndex? i xs.length = some j ∧ xs[j]? = some v ∧ j < xs.length ∧ -(xs.length : Int) ≤ i ∧ i < xs.length := by
  unfold atI at h
  cases e : ixN xs.length i with
  | none => rw [e] at h; cases h
  | some j =>
    rw [e] at h
    obtain ⟨h1, h2, h3, h4⟩ := ixN_seq e
    exact ⟨j, h1, h, h2, h3, h4⟩
theorem atI_nat {α : Type} {xs : List α} {j : Nat} {v : α} (h : xs[j]? = some v) : atI xs (j : Int) = some v := by
  have hj : j < xs.length := (List.getElem?_eq_some_iff.mp h).1
  have e : ixN xs.length (j : Int) = some j := by
    unfold ixN
    rw [if_pos (by omega), if_pos (by omega)]; simp
  unfold atI; rw [e]; exact h
/-! ### what may be subscripted -/
/-- what stands as an index of a plain subscript -/
def PlainIx (b : Expr) : Prop := ∀ o i, subscripted b false o i = operate [o, i] (getItem o i)
/-- a subscript by values -/
def IxR (X : Cx) (r : R2) : Prop :=
  ∀ (value slice : Expr) (pins : List (Addr × Obj)) (s : Shared) (σ : St) (H : Hp) (x y : V) (v u : Value) (Q : VK), Inv X pins σ H s → RelV x v → RelV y u → r x y H Q →
    subscripted slice false v u = operate [v, u] (getItem v u) → wpAny (model X.prog X.w) X.A (subscriptTail value slice v u) (EP X pins σ Q) X.xe s
/-- a call of a builtin's method by values: the receiver, the arguments -/
def MtR (X : Cx) (id : String) (r : V → List V → Hp → VK → Prop) : Prop :=
  ∀ (pins : List (Addr × Obj)) (s : Shared) (σ : St) (H : Hp) (x : V) (xs : List V) (v : Value) (us : List Value) (Q : VK), Inv X pins σ H s → RelV x v → Vals xs us → r x xs H Q →
    wpAny (model X.prog X.w) X.A (call (.builtin id) (v :: us)) (EP X pins σ Q) X.xe s
section
variable {X : Cx} {a b : Expr} {ta tb : TE} {pos : Pos}
/-- a[b] -/
theorem pe_ix {r : R2} (hr : IxR X r) (ha : PE X a ta) (hb : PE X b tb) (hs : PlainIx b) : PE X (.Subscript a b pos) (tOp r ta tb) := by
  intro pins s σ H Q I h
  exact Subscript_ (binT ha hb I h fun v u s2 x y H2 I2 rx ry q => hr a b pins s2 σ H2 x y v u Q I2 rx ry q (hs _ _))

def rIxL (K : PySem.W.Frag) : R2 := fun x y H Q => ∃ p xs i v, x = .ref p ∧ y = .int i ∧ SqL K H p xs ∧ atI xs i = some v ∧ Q v H
def rIxT (K : PySem.W.Frag) : R2 := fun x y H Q => ∃ p xs i v, x = .ref p ∧ y = .int i ∧ SqT K H p xs ∧ atI xs i = some v ∧ Q v H
theorem ix_list : IxR X (rIxL X.K) := by
  intro value slice pins s σ H x y v u Q I rx ry h hs
  obtain ⟨p, xs, i, z, rfl, rfl, hq, he, q⟩ := h
  cases rx
  obtain ⟨t, rfl⟩ := ry
  obtain ⟨its, r, pl, hz⟩ := I.list hq
  obtain ⟨j, h1, h2, h3, h4, h5⟩ := atI_get he
  obtain ⟨w, ew, rw'⟩ := r.get h2
  have hl := r.length
  have hn := line63
  have fin : EP X pins σ Q w s := ⟨z, H, I, rw', q⟩
  by_cases h0 : 0 ≤ i
  · have hj : i.toNat = j := by
      rw [seqIndex_of h0 h5] at h1
      exact Option.some.inj h1
    exact item_listR pl.isList h0 (by omega) (by rw [hj]; simpa using ew) fin hs
  · have hj : (i + (its.toArray.size : Int)).toNat = j := by
      rw [seqIndex_neg (by omega) h4] at h1
      rw [List.size_toArray, ← hl]
      exact Option.some.inj h1
    exact subscriptTail_builtinR (x := w) pl.isList.typeIs slot_list_getitem.lookup
      (wpAny_getItem_list_neg (Q := fun r s' => r = w ∧ EP X pins σ Q r s') pl.isList (by omega) (by rw [List.size_toArray] <;> omega) (by omega) (by rw [hj]; simpa using ew) ⟨rfl, fin⟩) hs
theorem ix_tup : IxR X (rIxT X.K) := by
  intro value slice pins s σ H x y v u Q I rx ry h hs
  obtain ⟨p, xs, i, z, rfl, rfl, hq, he, q⟩ := h
  cases rx
  obtain ⟨t, rfl⟩ := ry
  obtain ⟨its, r, pl, hz⟩ := I.tuple hq
  obtain ⟨j, h1, h2, h3, h4, h5⟩ := atI_get he
  obtain ⟨w, ew, rw'⟩ := r.get h2
  have hl := r.length
  have hn := line63
  have fin : EP X pins σ Q w s := ⟨z, H, I, rw', q⟩
  exact subscriptTail_builtinR (x := w) pl.typeIs slot_tuple_getitem.lookup
    (getItem_tuple (j := j) (Q := fun r s' => r = w ∧ EP X pins σ Q r s') pl (by omega) (by omega) (by rw [List.size_toArray, ← hl]; exact h1) (by simpa using ew) ⟨rfl, fin⟩) hs
/-! ### xs[i] = v, any sign -/
/-- the list's object behind a store -/
theorem mapSeq_set (its : List Value) (n j : Nat) (u : Value) : Obj.mapSeq (·.setIfInBounds j u) { cls := .type "list", data := .seq its.toArray n } = { cls := .type "list", data := .seq (its.set j u).toArray n } := by
  simp [Obj.mapSeq]
theorem Inv.lst {pins : List (Addr × Obj)} {σ : St} {H : Hp} {s : Shared} {p : Addr} {xs : List V} (I : Inv X pins σ H s) (h : H p = some (.lst xs)) :
    ∃ (its : List Value) (n : Nat), Vals xs its ∧ s.heap.get? p = some { cls := .type "list", data := .seq its.toArray n } ∧ xs.length ≤ sizeLine := by
  obtain ⟨z, its, n, r, e⟩ := I.hok p _ h
  exact ⟨its, n, r, e, z⟩
/-- the list at p is written by an update of its object -/
theorem Inv.lstUpd {pins : List (Addr × Obj)} {σ : St} {H : Hp} {s : Shared} {p : Addr} {xs ys : List V} {its its' : List Value} {n n' : Nat} {f : Obj → Obj} (I : Inv X pins σ H s) (h : H p = some (.lst xs))
    (ho : s.heap.get? p = some { cls := .type "list", data := .seq its.toArray n }) (hf : f { cls := .type "list", data := .seq its.toArray n } = { cls := .type "list", data := .seq its'.toArray n' }) (r : Vals ys its') (hz : ys.length ≤ sizeLine) (t : Nat) :
    Inv X pins σ (upd H p (.lst ys)) { s with heap := s.heap.update p f, toks := t } := by
  have e : (s.heap.update p f).get? p = some { cls := .type "list", data := .seq its'.toArray n' } := by
    rw [Heap.get?_update_self f ho (by rw [hf] <;> rfl), hf]
  refine I.write (x := p) (e := p) (by rw [h]; trivial) (.inl rfl) (fun b u hb q => (Heap.get?_update_other _ _ (Ne.symm hb)).trans q) ⟨_, e⟩ ?_
  exact ⟨hz, its', n', r, e⟩
def rSetL : V → V → V → Hp → (Hp → Prop) → Prop := fun o i v H Q => ∃ p xs k j, o = .ref p ∧ i = .int k ∧ H p = some (.lst xs) ∧ ixN xs.length k = some j ∧ Q (upd H p (.lst (xs.set j v)))
theorem set_list : PSet X rSetL := by
  intro pins s σ H o i v ov iv u Q I ro ri rv h
  obtain ⟨p, xs, k, j, rfl, rfl, hp, hj, q⟩ := h
  cases ro
  obtain ⟨t, rfl⟩ := ri
  obtain ⟨its, n, r, ho, hz⟩ := I.lst hp
  obtain ⟨h1, h2, h3, h4⟩ := ixN_seq hj
  have hl := r.length
  have hn := line63
  have I' : Inv X pins σ (upd H p (.lst (xs.set j v))) { s with heap := s.heap.update p (Obj.mapSeq (·.setIfInBounds j u)) } :=
    I.lstUpd hp ho (mapSeq_set its n j u) (r.set rv j) (by rw [List.length_set]; exact hz) s.toks
  by_cases h0 : 0 ≤ k
  · have hk : k.toNat = j := by
      rw [seqIndex_of h0 h4] at h1
      exact Option.some.inj h1
    exact PySem.W.ki_setAt ho h0 (by omega) (by rw [List.size_toArray, ← hl]; exact h4) (by rw [hk]; exact ⟨_, I', q⟩)
  · have hk : (k + (its.toArray.size : Int)).toNat = j := by
      rw [seqIndex_neg (by omega) h3] at h1
      rw [List.size_toArray, ← hl]
      exact Option.some.inj h1
    exact PySem.W.ki_setBack ho (by omega) (by rw [List.size_toArray, ← hl]; exact h3) (by omega) (by rw [hk]; exact ⟨_, I', q⟩)

/-! ### slices -/
theorem slice_bounds (lo hi : Option Int) (n : Nat) : (sliceBounds lo hi none n).1 = ((HT.sIx n 0 lo : Nat) : Int) ∧ (sliceBounds lo hi none n).2.1 = ((HT.sIx n n hi : Nat) : Int) ∧ (sliceBounds lo hi none n).2.2 = 1 := by
  refine ⟨?_, ?_, rfl⟩
  · cases lo with
    | none => simp [sliceBounds, HT.sIx]
    | some i =>
      simp only [sliceBounds, HT.sIx, Option.getD_none, show (1 : Int) > 0 by decide, if_true]
      by_cases h : i < 0
      · simp only [h, if_true] <;> omega
      · simp only [h, if_false] <;> omega
  · cases hi with
    | none => simp [sliceBounds, HT.sIx]
    | some i =>
      simp only [sliceBounds, HT.sIx, Option.getD_none, show (1 : Int) > 0 by decide, if_true]
      by_cases h : i < 0
      · simp only [h, if_true] <;> omega
      · simp only [h, if_false] <;> omega
theorem slicePick_cut (its : List Value) (lo hi : Option Int) : slicePick its.toArray lo hi none = ((its.drop (HT.sIx its.length 0 lo)).take (HT.sIx its.length its.length hi - HT.sIx its.length 0 lo)).toArray := by
  obtain ⟨h1, h2, h3⟩ := slice_bounds lo hi its.toArray.size
  unfold slicePick
  rw [h1, h2, h3]
  simp only [sliceRange_one, pick_run, List.size_toArray] <;> rfl
/-- xs[lo:hi] of a list: a new list -/
def rSlL (K : PySem.W.Frag) : V → Option Int → Option Int → Hp → VK → Prop := fun x lo hi H Q => ∃ a xs, x = .ref a ∧ SqL K H a xs ∧ ∀ p, H p = none → Q (.ref p) (upd H p (.lst (cutV xs lo hi)))
theorem sl_list : SlR X (rSlL X.K) := by
  intro pins s σ H x v vl vu lo hi sl Q I rx hs pl pu h
  obtain ⟨a, xs, rfl, hx, q⟩ := h
  cases rx
  obtain ⟨its, r, ht, hz⟩ := I.list hx
  have hlen := r.length
  refine ⟨"list", _, slot_list_getitem.lookup, ht.isList.typeIs, ?_⟩
  refine wpAny_getItem_list_slice ht.isList hs pl pu .none (by simp) ?_ (by rw [List.size_toArray] <;> omega)
  rw [slicePick_cut, ← hlen]
  refine ⟨.ref s.heap.objs.size, _, I.laid (t' := s.toks) (o := .lst (cutV xs lo hi)) (fun b ob q => Heap.get?_push_of_some _ q) (Nat.le_refl _) ?_, rfl, q _ (I.hok.fresh (Nat.le_refl _))⟩
  exact ⟨Nat.le_trans (cutV_length xs lo hi) hz, _, 0, (r.drop (HT.sIx xs.length 0 lo)).take (HT.sIx xs.length xs.length hi - HT.sIx xs.length 0 lo), Heap.get?_push_size _ rfl⟩

/-! ### in, not in: flat items -/
def flatV : V → Bool
  | .non => true
  | .bl _ => true
  | .int _ => true
  | .str _ => true
  | _ => false
/-- == of flat values -/
def eqV : V → V → Bool
  | .non, .non => true
  | .bl a, .bl b => a == b
  | .bl a, .int b => (if a then 1 else 0) == b
  | .int a, .bl b => a == (if b then 1 else 0)
  | .int a, .int b => a == b
  | .str a, .str b => a == b
  | _, _ => false
theorem eqAt_V {A : Around} {s : Shared} {y x : V} {u v : Value} (ry : RelV y u) (rx : RelV x v) (fy : flatV y = true) (fx : flatV x = true) : SeqAt.EqAt A s u v (eqV y x) := by
  cases y with
  | non =>
    cases ry
    cases x with
    | non => cases rx; exact SeqAt.EqAt.same _
    | bl b => cases rx; exact SeqAt.EqAt.none_bool b
    | int b => obtain ⟨t, rfl⟩ := rx; exact SeqAt.EqAt.none_int b t
    | str b => obtain ⟨t, rfl⟩ := rx; exact SeqAt.EqAt.none_str b t
    | _ => exact absurd (show false = true from fx) Bool.false_ne_true
  | bl a =>
    cases ry
    cases x with
    | non => cases rx; exact SeqAt.EqAt.bool_none a
    | bl b => cases rx; exact SeqAt.EqAt.bool_bool a b
    | int b => obtain ⟨t, rfl⟩ := rx; exact SeqAt.EqAt.bool_int a b t
    | str b => obtain ⟨t, rfl⟩ := rx; exact SeqAt.EqAt.bool_str a b t
    | _ => exact absurd (show false = true from fx) Bool.false_ne_true
  | int a =>
    obtain ⟨t', rfl⟩ := ry
    cases x with
    | non => cases rx; exact SeqAt.EqAt.int_none a t'
    | bl b => cases rx; exact SeqAt.EqAt.int_bool a t' b
    | int b => obtain ⟨t, rfl⟩ := rx; exact SeqAt.EqAt.int_int a t' b t
    | str b => obtain ⟨t, rfl⟩ := rx; exact SeqAt.EqAt.int_str a t' b t
    | _ => exact absurd (show false = true from fx) Bool.false_ne_true
  | str a =>
    obtain ⟨t', rfl⟩ := ry
    cases x with
    | non => cases rx; exact SeqAt.EqAt.str_none a t'
    | bl b => cases rx; exact SeqAt.EqAt.str_bool a t' b
    | int b => obtain ⟨t, rfl⟩ := rx; exact SeqAt.EqAt.str_int a t' b t
    | str b => obtain ⟨t, rfl⟩ := rx; exact SeqAt.EqAt.str_str a t' b t
    | _ => exact absurd (show false = true from fx) Bool.false_ne_true
  | _ => exact absurd (show false = true from fy) Bool.false_ne_true
/-! ### len, list(x), tuple(x) of any list or tuple that is read -/
theorem call_len_seq : CallR X (.builtin "len") (fun xs H Q => ∃ p ys, xs = [.ref p] ∧ (SqL X.K H p ys ∨ SqT X.K H p ys) ∧ Q (.int ys.length) H) := by
  intro pins s σ H xs us Q I r h
  obtain ⟨p, ys, rfl, hq, q⟩ := h
  obtain ⟨u, rfl, rx⟩ := vals1 r
  cases rx
  have hn := line63
  rcases hq with hq | hq
  · obtain ⟨its, r', pl, hz⟩ := I.list hq
    have hlen := r'.length
    exact Calls.call_len_list pl.isList (by simp only [List.size_toArray] <;> omega) ⟨.int ys.length, H, I.tok _, ⟨s.toks + 1, by rw [List.size_toArray, hlen]⟩, q⟩
  · obtain ⟨its, r', pl, hz⟩ := I.tuple hq
    have hlen := r'.length
    exact len_tuple pl (by simp only [List.size_toArray] <;> omega) ⟨.int ys.length, H, I.tok _, ⟨s.toks + 1, by rw [List.size_toArray, hlen]⟩, q⟩
theorem call_list_of : CallR X (.type "list") (fun xs H Q => ∃ p ys, xs = [.ref p] ∧ (SqL X.K H p ys ∨ SqT X.K H p ys) ∧ ∀ l, H l = none → Q (.ref l) (upd H l (.lst ys))) := by
  intro pins s σ H xs us Q I r h
  obtain ⟨p, ys, rfl, hq, q⟩ := h
  obtain ⟨u, rfl, rx⟩ := vals1 r
  cases rx
  have fin : ∀ (its : List Value), Vals ys its → ys.length ≤ sizeLine → ∀ (h' : Heap) (c' : Nat), (∀ b o', s.heap.get? b = some o' → h'.get? b = some o') →
      h'.get? s.heap.objs.size = some { cls := .type "list", dict := none, data := .seq its.toArray c', slots := #[] } → EP X pins σ Q (.ref s.heap.objs.size) { s with heap := h' } := fun its r' hz h' c' kp e =>
    ⟨.ref s.heap.objs.size, _, I.laid (t' := s.toks) kp (Nat.le_refl _) (show ObjOk X.prog X.w _ h' _ (.lst ys) from ⟨hz, its, c', r', e⟩), rfl, q _ (I.hok.fresh (Nat.le_refl _))⟩
  rcases hq with hq | hq
  · obtain ⟨its, r', pl, hz⟩ := I.list hq
    have hlen := r'.length
    obtain ⟨o, ho, hc, n, hd⟩ := pl.isList
    exact call_list_seq p (.inl rfl) ho hc hd (fun h' c' kp e => fin its r' hz h' c' kp e) (by simp only [List.size_toArray] <;> omega)
  · obtain ⟨its, r', pl, hz⟩ := I.tuple hq
    have hlen := r'.length
    obtain ⟨o, ho, hc, n, hd⟩ := pl
    exact call_list_seq p (.inr rfl) ho hc hd (fun h' c' kp e => fin its r' hz h' c' kp e) (by simp only [List.size_toArray] <;> omega)
theorem call_tuple_of : CallR X (.type "tuple") (fun xs H Q => ∃ p ys, xs = [.ref p] ∧ ((SqL X.K H p ys ∧ ∀ l, H l = none → Q (.ref l) (upd H l (.tup ys))) ∨ (SqT X.K H p ys ∧ Q (.ref p) H))) := by
  intro pins s σ H xs us Q I r h
  obtain ⟨p, ys, rfl, h⟩ := h
  obtain ⟨u, rfl, rx⟩ := vals1 r
  cases rx
  rcases h with ⟨hq, q⟩ | ⟨hq, q⟩
  · obtain ⟨its, r', pl, hz⟩ := I.list hq
    have hlen := r'.length
    refine call_tuple_list pl.isList (fun h' kp => ?_) (by simp only [List.size_toArray] <;> omega)
    have I1 : Inv X pins σ H { s with heap := h' } := I.kept (t' := s.toks) kp
    have I2 : Inv X pins σ (upd H h'.objs.size (.tup ys)) { s with heap := h'.push { cls := .type "tuple", data := .seq its.toArray } } :=
      I1.laid (t' := s.toks) (fun b o e => Heap.get?_push_of_some _ e) (Nat.le_refl _) (show ObjOk X.prog X.w _ _ _ (.tup ys) from ⟨hz, its, r', IsTupN.new _ _⟩)
    exact ⟨.ref h'.objs.size, _, I2, rfl, q _ (I1.hok.fresh (Nat.le_refl _))⟩
  · obtain ⟨its, r', pl, hz⟩ := I.tuple hq
    exact call_tuple_same pl ⟨.ref p, H, I, rfl, q⟩

/-! ### the call of a builtin's method: o.m(..) -/
/-- the value is of that builtin type -/
def tyV (K : PySem.W.Frag) (T : String) (x : V) (H : Hp) : Prop := match x with
  | .str _ => T = "str"
  | .int _ => T = "int"
  | .ref p => (T = "list" ∧ ∃ xs, SqL K H p xs) ∨ (T = "tuple" ∧ ∃ o, K.lookup p = some o ∧ o.cls = .type "tuple" ∧ o.dict = none) ∨
      (T = "dict" ∧ ((∃ kvs, H p = some (.dK kvs)) ∨ ∃ kvs, H p = some (.dT kvs))) ∨ (T = "set" ∧ ∃ S n, H p = some (.set S n))
  | _ => False
theorem tyV_is {pins : List (Addr × Obj)} {σ : St} {H : Hp} {s : Shared} {T : String} {x : V} {v : Value} (I : Inv X pins σ H s) (r : RelV x v) (ty : tyV X.K T x H) :
    s.TypeIs v T ∧ ∀ a, v = .ref a → ∃ ob, s.heap.get? a = some ob ∧ ob.dict = none := by
  cases x with
  | str z =>
    obtain ⟨t, rfl⟩ := r
    cases (show T = "str" from ty)
    exact ⟨typeIs_str s z t, fun _ e => nomatch e⟩
  | int i =>
    obtain ⟨t, rfl⟩ := r
    cases (show T = "int" from ty)
    exact ⟨typeIs_int s i t, fun _ e => nomatch e⟩
  | ref p =>
    cases r
    rcases ty with ⟨rfl, xs, hq⟩ | ⟨rfl, o, hk, hc, hd⟩ | ⟨rfl, hk⟩ | ⟨rfl, S, n, hk⟩
    · obtain ⟨its, _, pl, _⟩ := I.list hq
      refine ⟨pl.isList.typeIs, fun a e => ?_⟩
      cases e
      obtain ⟨o, n, e, c, hd, _⟩ := pl
      exact ⟨o, e, hd⟩
    · refine ⟨⟨o, I.kIn p o hk, hc⟩, fun a e => ?_⟩
      cases e
      exact ⟨o, I.kIn _ o hk, hd⟩
    · have z : ∃ o, s.heap.get? p = some o ∧ o.ExactDict := by
        rcases hk with ⟨kvs, hk⟩ | ⟨kvs, hk⟩
        · obtain ⟨_, _, _, _, o, _, _, e, ex, _⟩ := I.hok p _ hk
          exact ⟨o, e, ex⟩
        · obtain ⟨_, _, _, _, o, _, _, e, ex, _⟩ := I.hok p _ hk
          exact ⟨o, e, ex⟩
      obtain ⟨o, e, ex⟩ := z
      refine ⟨⟨o, e, ex.1⟩, fun a e2 => ?_⟩
      cases e2
      exact ⟨o, e, ex.2.1⟩
    · obtain ⟨o, _, _, _, e, ex, _⟩ := I.hok p _ hk
      refine ⟨⟨o, e, ex.1⟩, fun a e2 => ?_⟩
      cases e2
      exact ⟨o, e, ex.2.1⟩
  | _ => exact False.elim ty
def tBM0 (K : PySem.W.Frag) (T : String) (r : V → List V → Hp → VK → Prop) (to : TE) : TE := fun σ H Q => to σ H fun x H1 => tyV K T x H1 ∧ r x [] H1 Q
def tBM (K : PySem.W.Frag) (T : String) (r : V → List V → Hp → VK → Prop) (to : TE) (t : TA) : TE := fun σ H Q => to σ H fun x H1 => tyV K T x H1 ∧ t σ H1 fun xs H2 => r x xs H2 Q
variable {o e : Expr} {es : List Expr} {to : TE} {t : TA} {name : Str} {apos cpos : Pos} {T id : String} {r : V → List V → Hp → VK → Prop}
theorem pe_bm0 (pa : PlainAttrs T) (slot : Slot T name id) (hty : typeOf (.builtin id) = pure (.type "method_descriptor")) (hm : MtR X id r) (ho : PE X o to)
    (hbase : attributeBase o name X.env (eval o X.env) = eval o X.env := by rfl) (hline : (apos.endLine == cpos.line) = true := by rfl) : PE X (.Call (.Attribute o name apos) [] [] cpos) (tBM0 X.K T r to) := by
  intro pins s σ H Q I h
  refine wpAny_Call_method0_late hbase hline (thn (ho pins s σ H _ I h) fun v s1 ⟨x, H1, I1, r1, ty, q1⟩ => ?_)
  obtain ⟨h1, h2⟩ := tyV_is I1 r1 ty
  exact ⟨T, id, pa, slot, hty, h1, h2, Calls.callWith_builtin rfl (PySem.evalArgs_none (hm pins s1 σ H1 x [] v [] Q I1 r1 .nil q1))⟩
theorem pe_bm (pa : PlainAttrs T) (slot : Slot T name id) (hty : typeOf (.builtin id) = pure (.type "method_descriptor")) (hm : MtR X id r) (ho : PE X o to) (ha : PA X (e :: es) t)
    (hbase : attributeBase o name X.env (eval o X.env) = eval o X.env := by rfl)
    (hfew : ((backTo cpos (starEach (e :: es) X.env)).all (fun x => !x.1) && (backToKw cpos (keywordEach [] X.env)).all (fun x => x.1.isSome)
      && decide ((e :: es).length + ([] : List Keyword).length + (if ([] : List Keyword).isEmpty then 0 else 1) < 30)) = true := by rfl)
    (hline : (apos.endLine == cpos.line) = true := by rfl) (hs : starEach (e :: es) X.env = (false, eval e X.env) :: starEach es X.env := by rfl) (hplain : (backTo cpos (starEach es X.env)).any (·.1) = false := by rfl) :
    PE X (.Call (.Attribute o name apos) (e :: es) [] cpos) (tBM X.K T r to t) := by
  intro pins s σ H Q I h
  refine wpAny_Call_method_late hbase hfew hline rfl (thn (ho pins s σ H _ I h) fun v s1 ⟨x, H1, I1, r1, ty, q1⟩ => ?_)
  obtain ⟨h1, h2⟩ := tyV_is I1 r1 ty
  refine ⟨T, id, pa, slot, hty, h1, h2, ?_⟩
  have hA := ha cpos pins s1 σ H1 _ I1 q1
  rw [hs] at hA ⊢
  refine Calls.callWith_builtin (by show (false || (backTo cpos (starEach es X.env)).any (·.1)) = false; rw [hplain] <;> rfl) (Calls.evalArgs_plain ?_)
  exact thn hA fun us s2 ⟨vs, H2, I2, r2, q2⟩ => hm pins s2 σ H2 x vs v us Q I2 r1 r2 q2
/- xs.append(e), list.index on a module's tuple .. are MtR facts of 06m -/
end
end L2

namespace L2
open PySem PySem.Spec PyProof.Rows

def MtM (X : Cx) (id : String) (r : V → List V → Hp → VK → Prop) : Prop :=
  ∀ (pins : List (Addr × Obj)) (s : Shared) (σ : St) (H : Hp) (x : V) (xs : List V) (v : Value) (us : List Value) (Q : VK), Inv X pins σ H s → RelV x v → Vals xs us → r x xs H Q →
    wpAny (model X.prog X.w) X.A (call (.builtin id) (v :: us)) (EP X pins σ Q) X.xe s

/-! ### lists of values -/
theorem Vals.one : ∀ {x : V} {us : List Value}, Vals [x] us → ∃ u, us = [u] ∧ RelV x u
  | _, _, .cons r .nil => ⟨_, rfl, r⟩
theorem Vals.zero : ∀ {us : List Value}, Vals [] us → us = []
  | _, .nil => rfl
theorem Vals.dropLast {xs : List V} {us : List Value} (h : Vals xs us) : Vals xs.dropLast us.dropLast := by
  induction h with
  | nil => exact .nil
  | cons r t ih =>
    cases t with
    | nil => exact .nil
    | cons q t' => exact .cons r ih
theorem Vals.eraseIdx : ∀ {xs : List V} {us : List Value} (i : Nat), Vals xs us → Vals (xs.eraseIdx i) (us.eraseIdx i)
  | _, _, _, .nil => .nil
  | _, _, 0, .cons _ t => t
  | _, _, i + 1, .cons r t => .cons r (Vals.eraseIdx i t)
theorem Vals.reverse {xs : List V} {us : List Value} (h : Vals xs us) : Vals xs.reverse us.reverse := by
  induction h with
  | nil => exact .nil
  | cons r t ih => rw [List.reverse_cons, List.reverse_cons]; exact Vals.append ih (.cons r .nil)
theorem Vals.rep {xs : List V} {us : List Value} (h : Vals xs us) : ∀ k : Nat, Vals (List.replicate k xs).flatten (List.replicate k us).flatten
  | 0 => .nil
  | k + 1 => by
    rw [List.replicate_succ, List.replicate_succ, List.flatten_cons, List.flatten_cons]
    exact Vals.append h (Vals.rep h k)
theorem erase_last {α : Type} (l : List α) : l.eraseIdx (l.length - 1) = l.dropLast := by
  induction l with
  | nil => rfl
  | cons a r ih =>
    cases r with
    | nil => rfl
    | cons b r =>
      have e : (a :: b :: r).length - 1 = ((b :: r).length - 1) + 1 := by
        have h1 : (a :: b :: r).length = r.length + 2 := rfl
        have h2 : (b :: r).length = r.length + 1 := rfl
        omega
      rw [e, List.eraseIdx_cons_succ, ih]
      all_goals rfl
theorem len_erase {α : Type} : ∀ (l : List α) (i : Nat), (l.eraseIdx i).length ≤ l.length
  | [], _ => Nat.le_refl _
  | _ :: _, 0 => Nat.le_succ _
  | _ :: r, i + 1 => Nat.succ_le_succ (len_erase r i)
theorem foldl_rep (its : List Value) : ∀ (k : Nat) (acc : List Value),
    List.foldl (fun x1 x2 => x1 ++ x2) acc.toArray (List.replicate k its.toArray) = (acc ++ (List.replicate k its).flatten).toArray
  | 0, acc => by simp
  | k + 1, acc => by
    have e : acc.toArray ++ its.toArray = (acc ++ its).toArray := by simp
    have e2 : (acc ++ its) ++ (List.replicate k its).flatten = acc ++ (List.replicate (k + 1) its).flatten := by
      rw [List.replicate_succ, List.flatten_cons, List.append_assoc]
    rw [← e2, ← foldl_rep its k (acc ++ its), ← e, List.replicate_succ, List.foldl_cons]

section
variable {X : Cx} {pins : List (Addr × Obj)} {σ : St} {H : Hp} {s : Shared} {l b : Addr} {xs ys zs : List V}

/-! ### the two steps: a tracked list is rewritten, a new list is laid -/
theorem Inv.lset {its its' : List Value} {n : Nat} {f : Array Value → Array Value} {t' : Nat} (I : Inv X pins σ H s) (hH : H l = some (.lst xs))
    (e : s.heap.get? l = some { cls := .type "list", data := .seq its.toArray n }) (hf : f its.toArray = its'.toArray) (hv : Vals ys its') (hz : ys.length ≤ sizeLine) :
    Inv X pins σ (upd H l (.lst ys)) { s with heap := s.heap.update l (Obj.mapSeq f), toks := t' } := by
  have q := PySem.IsL.update e f
  rw [hf] at q
  refine I.write (x := l) (e := l) (by rw [hH]; exact trivial) (.inl rfl) (fun b' u hb hu => (Heap.get?_update_other s.heap (Obj.mapSeq f) (Ne.symm hb)).trans hu) ⟨_, q⟩ ?_
  exact ⟨hz, its', _, hv, q⟩
theorem Inv.lnew {its : List Value} {t' : Nat} (I : Inv X pins σ H s) (hv : Vals ys its) (hz : ys.length ≤ sizeLine) :
    Inv X pins σ (upd H s.heap.objs.size (.lst ys)) { s with heap := s.heap.push { cls := .type "list", data := .seq its.toArray }, toks := t' } :=
  I.laid (fun _ _ q => Heap.get?_push_of_some _ q) (Nat.le_refl _) ⟨hz, its, 0, hv, Heap.get?_push_size _ rfl⟩
theorem Inv.fresh (I : Inv X pins σ H s) : H s.heap.objs.size = none := I.hok.fresh (Nat.le_refl _)
theorem Inv.lstM (I : Inv X pins σ H s) (hH : H l = some (.lst xs)) : xs.length ≤ sizeLine ∧ ∃ (its : List Value) (n : Nat), Vals xs its ∧ xs.length = its.length ∧ s.heap.get? l = some { cls := .type "list", data := .seq its.toArray n } := by
  obtain ⟨z, its, n, r, e⟩ := I.hok l _ hH
  exact ⟨z, its, n, r, r.length, e⟩

theorem notLongL {n : Nat} (h : n ≤ sizeLine) : Builtin.List.listTooLong n = false := by
  unfold Builtin.List.listTooLong
  exact decide_eq_false (by omega)
end

section
variable {X : Cx}

/-! ### methods -/
def rAppend : V → List V → Hp → VK → Prop := fun x vs H Q => ∃ l xs y, x = .ref l ∧ vs = [y] ∧ H l = some (.lst xs) ∧ xs.length < sizeLine ∧ Q .non (upd H l (.lst (xs ++ [y])))
theorem mt_append : MtM X "list.append" rAppend := by
  intro pins s σ H x vs v us Q I rx rv h
  obtain ⟨l, xs, y, rfl, rfl, hH, hz, q⟩ := h
  cases rx
  obtain ⟨u, rfl, ru⟩ := rv.one
  obtain ⟨z, its, n, r, hl, e⟩ := I.lstM hH
  refine call_meets F.slot_list_append ⟨_, e, rfl⟩ F.entry_list_append (F.args_list_append_2 _ _) (PySem.list_append l its.toArray n u (by rw [List.size_toArray]; omega)) ⟨e, ?_⟩
  refine ⟨.non, _, I.lset (its' := its ++ [u]) hH e (by simp) (r.append (.cons ru .nil)) ?_, rfl, q⟩
  rw [List.length_append, List.length_singleton]
  omega

def rPop : V → List V → Hp → VK → Prop := fun x vs H Q => ∃ l xs y, x = .ref l ∧ vs = [] ∧ H l = some (.lst xs) ∧ xs[xs.length - 1]? = some y ∧ Q y (upd H l (.lst xs.dropLast))
theorem mt_pop : MtM X "list.pop" rPop := by
  intro pins s σ H x vs v us Q I rx rv h
  obtain ⟨l, xs, y, rfl, rfl, hH, hy, q⟩ := h
  cases rx
  have hus := rv.zero
  subst hus
  obtain ⟨z, its, n, r, hl, e⟩ := I.lstM hH
  obtain ⟨u, hu, ru⟩ := r.get hy
  have hy' : its.toArray[its.toArray.size - 1]? = some u := by
    show its.toArray[its.length - 1]? = some u
    rw [← Array.getElem?_toList, ← hl]
    exact hu
  refine call_meets F.slot_list_pop ⟨_, e, rfl⟩ F.entry_list_pop (F.args_list_pop_1 _) (MeetsSeq.list_pop_last l its.toArray n u hy' (by rw [List.size_toArray]; omega)) ⟨e, ?_⟩
  refine ⟨y, _, I.lset (its' := its.dropLast) hH e ?_ r.dropLast ?_, ru, q⟩
  · show its.toArray.eraseIdxIfInBounds (its.toArray.size - 1) = its.dropLast.toArray
    rw [List.size_toArray, List.eraseIdxIfInBounds_toArray, erase_last]
  · rw [List.length_dropLast]
    omega

def rPopAt : V → List V → Hp → VK → Prop := fun x vs H Q => ∃ l xs i k y, x = .ref l ∧ vs = [.int i] ∧ H l = some (.lst xs) ∧ -(2 ^ 63) ≤ i ∧ i < 2 ^ 63 ∧ seqIndex? i xs.length = some k ∧ xs[k]? = some y ∧ Q y (upd H l (.lst (xs.eraseIdx k)))
theorem mt_popAt : MtM X "list.pop" rPopAt := by
  intro pins s σ H x vs v us Q I rx rv h
  obtain ⟨l, xs, i, k, y, rfl, rfl, hH, h1, h2, hk, hy, q⟩ := h
  cases rx
  obtain ⟨u, rfl, ru⟩ := rv.one
  obtain ⟨t, rfl⟩ := ru
  obtain ⟨z, its, n, r, hl, e⟩ := I.lstM hH
  obtain ⟨w, hw, rw'⟩ := r.get hy
  refine call_meets F.slot_list_pop ⟨_, e, rfl⟩ F.entry_list_pop (F.args_list_pop_2 _ _)
    (MeetsSeq.list_pop_at l its.toArray n i t k w (fitsIndex_both h1 h2) (by rw [List.size_toArray, ← hl]; exact hk) (by rw [← Array.getElem?_toList]; exact hw) (by rw [List.size_toArray]; omega)) ⟨e, ?_⟩
  refine ⟨y, _, I.lset (its' := its.eraseIdx k) hH e ?_ (r.eraseIdx k) ?_, rw', q⟩
  · show its.toArray.eraseIdxIfInBounds k = (its.eraseIdx k).toArray
    rw [List.eraseIdxIfInBounds_toArray]
  · have := len_erase xs k
    omega

/-! ### list + list, list += list, list * int -/
/-- a list times an int (a negative one is nothing) -/
def rRep : R2 := fun x y H Q => ∃ l k xs, x = .ref l ∧ y = .int k ∧ H l = some (.lst xs) ∧ -(2 ^ 63) ≤ k ∧ k < 2 ^ 63 ∧ xs.length * k.toNat ≤ sizeLine ∧
  ∀ p, H p = none → Q (.ref p) (upd H p (.lst (List.replicate k.toNat xs).flatten))
theorem len_rep {α : Type} (xs : List α) (k : Nat) : (List.replicate k xs).flatten.length = k * xs.length := by
  induction k with
  | zero => simp
  | succ k ih => rw [List.replicate_succ, List.flatten_cons, List.length_append, ih, Nat.succ_mul, Nat.add_comm]
theorem op_rep : OpR X (binaryOp .Mult) rRep := by
  intro pins s σ H x y v u Q I rx ry h
  obtain ⟨l, k, xs, rfl, rfl, hH, h1, h2, hz, q⟩ := h
  cases rx
  obtain ⟨t, rfl⟩ := ry
  obtain ⟨z, its, n, r, hl, e⟩ := I.lstM hH
  have hlen : its.toArray.size * k.toNat ≤ sizeLine := by rw [List.size_toArray, ← hl]; exact hz
  have hcap : ¬ its.toArray.size * k.toNat > (2 ^ 63 - 1) / 8 := by
    have : (sizeLine : Nat) ≤ (2 ^ 63 - 1) / 8 := by decide
    omega
  have hfit : ¬ (!Builtin.List.listFitsIndex k) = true := by
    rw [fitsIndex_both h1 h2]
    exact Bool.false_ne_true
  have hlong : ¬ Builtin.List.listTooLong (its.toArray.size * k.toNat) = true := by
    rw [notLongL hlen]
    exact Bool.false_ne_true
  have hnew : List.foldl (fun x1 x2 => x1 ++ x2) #[] (List.replicate (if its.toArray.isEmpty = true then 0 else k.toNat) its.toArray) = (List.replicate k.toNat its).flatten.toArray := by
    have f0 : ∀ m : Nat, List.foldl (fun x1 x2 => x1 ++ x2) #[] (List.replicate m its.toArray) = (List.replicate m its).flatten.toArray := fun m => by
      have := foldl_rep its m []
      rw [List.nil_append] at this
      exact this
    rw [f0]
    cases its with
    | nil => simp
    | cons a r' => rw [if_neg (by simp)]
  refine wpAny_binaryOp_repeat_ref (T := "list") (U := "int") (by decide) ⟨_, e, rfl⟩ (fun s' => typeIs_int s' k t) noFill_list_mul F.fills_int_mul F.slot_int_rmul repeat_list F.slot_int_index.lookup
    (call_meets F.slot_int_rmul (typeIs_int s k t) F.entry_int_rmul (F.args_int_rmul_2 _ _) (int___rmul___int_list k t l its.toArray n)
      ⟨e, rfl, ⟨_, e, rfl⟩, call_meets F.slot_list_mul ⟨_, e, rfl⟩ F.entry_list_mul (F.args_list_mul_2 _ _) (AutoListH.list___mul___list_int_3 l its.toArray n k t hfit hcap hlong) ⟨e, ?_⟩⟩)
  rw [hnew]
  exact ⟨.ref _, _, I.lnew (t' := s.toks) (r.rep k.toNat) (by rw [len_rep, Nat.mul_comm]; exact hz), rfl, q _ I.fresh⟩

/-! ### del xs[i] -/
end

/-! ### xs[a:b] = ys -/
section
variable {prog : Program} {w : World} {A : Around} {E : Value → Shared → Prop} {s : Shared}
end

section
variable {X : Cx}
end
end L2
namespace L2
open PySem PySem.Spec PyProof.Rows

/-! ### lists of pairs as tables -/
section
variable {κ : Type} [DecidableEq κ]
def valV (kvs : List (κ × V)) (k : κ) : Option V := (kvs.find? fun kv => decide (kv.1 = k)).map (·.2)
/-- in its place, or at the end -/
def putK (kvs : List (κ × V)) (k : κ) (v : V) : List (κ × V) :=
  if (kvs.any fun kv => decide (kv.1 = k)) = true then kvs.map (fun kv => if kv.1 = k then (kv.1, v) else kv) else kvs ++ [(k, v)]
def dropK (kvs : List (κ × V)) (k : κ) : List (κ × V) := kvs.filter fun kv => decide (kv.1 ≠ k)

theorem valV_nil {k : κ} : valV ([] : List (κ × V)) k = none := rfl
theorem valV_pos {p : κ × V} {r : List (κ × V)} {k : κ} (e : p.1 = k) : valV (p :: r) k = some p.2 := by simp [valV, List.find?_cons, e]
theorem valV_neg {p : κ × V} {r : List (κ × V)} {k : κ} (e : ¬ p.1 = k) : valV (p :: r) k = valV r k := by simp [valV, List.find?_cons, e]
theorem valV_any (k : κ) : ∀ kvs : List (κ × V), (kvs.any fun kv => decide (kv.1 = k)) = (valV kvs k).isSome
  | [] => rfl
  | p :: r => by
    rw [List.any_cons]
    by_cases e : p.1 = k
    · simp only [valV_pos e, decide_eq_true e, Bool.true_or, Option.isSome_some]
    · rw [valV_neg e, decide_eq_false e, Bool.false_or]; exact valV_any k r
theorem valV_map (k j : κ) (y : V) : ∀ kvs : List (κ × V), valV (kvs.map fun kv => if kv.1 = k then (kv.1, y) else kv) j = (valV kvs j).map fun x => if j = k then y else x
  | [] => rfl
  | p :: r => by
    have ih := valV_map k j y r
    rw [List.map_cons]
    by_cases h : p.1 = k
    · rw [if_pos h]
      by_cases e : p.1 = j
      · rw [valV_pos (p := (p.1, y)) e, valV_pos e, Option.map_some, if_pos (e.symm.trans h)]
      · rw [valV_neg (p := (p.1, y)) e, valV_neg e, ih]
    · rw [if_neg h]
      by_cases e : p.1 = j
      · rw [valV_pos (p := p) e, valV_pos e, Option.map_some, if_neg (fun z => h (e.trans z))]
      · rw [valV_neg (p := p) e, valV_neg e, ih]
theorem valV_snoc (k j : κ) (y : V) : ∀ kvs : List (κ × V), valV kvs k = none → valV (kvs ++ [(k, y)]) j = if j = k then some y else valV kvs j
  | [], _ => by
    by_cases e : k = j
    · rw [if_pos e.symm]; exact valV_pos (p := (k, y)) e
    · rw [if_neg (fun z => e z.symm)]; exact valV_neg (p := (k, y)) e
  | p :: r, hn => by
    rw [List.cons_append]
    have hk : ¬ p.1 = k := fun z => by rw [valV_pos z] at hn; cases hn
    rw [valV_neg hk] at hn
    have ih := valV_snoc k j y r hn
    by_cases e : p.1 = j
    · rw [valV_pos e, valV_pos e, if_neg (fun z => hk (e.trans z))]
    · rw [valV_neg e, valV_neg e, ih]
theorem valV_put (kvs : List (κ × V)) (k j : κ) (y : V) : valV (putK kvs k y) j = if j = k then some y else valV kvs j := by
  unfold putK
  by_cases a : (kvs.any fun kv => decide (kv.1 = k)) = true
  · rw [if_pos a, valV_map]
    rw [valV_any] at a
    by_cases e : j = k
    · obtain ⟨x, hx⟩ := Option.isSome_iff_exists.mp a
      rw [if_pos e, e, hx, Option.map_some, if_pos rfl]
    · rw [if_neg e]
      cases valV kvs j with
      | none => rfl
      | some x => rw [Option.map_some, if_neg e]
  · rw [if_neg a]
    refine valV_snoc k j y kvs ?_
    rw [valV_any] at a
    cases q : valV kvs k with
    | none => rfl
    | some x => rw [q] at a; exact (a rfl).elim
theorem length_putK (kvs : List (κ × V)) (k : κ) (v : V) : (putK kvs k v).length ≤ kvs.length + 1 := by
  unfold putK
  split
  · rw [List.length_map]; omega
  · rw [List.length_append, List.length_cons, List.length_nil]; omega
theorem putK_new {kvs : List (κ × V)} {k : κ} (v : V) (h : valV kvs k = none) : putK kvs k v = kvs ++ [(k, v)] := by
  unfold putK
  rw [valV_any, h]
  exact if_neg (by decide)

theorem RelO.isSome_eq {o : Option V} {u : Option Value} (r : RelO o u) : o.isSome = u.isSome := by
  cases o with
  | none => cases u with
    | none => rfl
    | some _ => exact (show False from r).elim
  | some _ => cases u with
    | none => exact (show False from r).elim
    | some _ => rfl
/-- raw tables of the same keys -/
theorem KV.val {kvs : List (κ × V)} {vs : List (κ × Value)} (r : KV kvs vs) (k : κ) : RelO (valV kvs k) (valueAt vs k) := by
  unfold KV at r
  induction r with
  | nil => exact True.intro
  | @cons p q ps qs h t ih =>
    obtain ⟨h1, h2⟩ := h
    by_cases e : p.1 = k
    · have e' : q.1 = k := h1.symm.trans e
      have b : valueAt (q :: qs) k = some q.2 := by simp [valueAt, List.find?_cons, e']
      rw [valV_pos e, b]; exact h2
    · have e' : ¬ q.1 = k := fun z => e (h1.trans z)
      have b : valueAt (q :: qs) k = valueAt qs k := by simp [valueAt, List.find?_cons, e']
      rw [valV_neg e, b]; exact ih
theorem KV.any {kvs : List (κ × V)} {vs : List (κ × Value)} (r : KV kvs vs) (k : κ) : (kvs.any fun kv => decide (kv.1 = k)) = vs.any fun kv => decide (kv.1 = k) := by
  unfold KV at r
  induction r with
  | nil => rfl
  | cons h t ih => rw [List.any_cons, List.any_cons, ih, h.1]
theorem KV.repl {kvs : List (κ × V)} {vs : List (κ × Value)} (r : KV kvs vs) (k : κ) {y : V} {u : Value} (ry : RelV y u) :
    KV (kvs.map fun kv => if kv.1 = k then (kv.1, y) else kv) (vs.map fun kv => if kv.1 = k then (kv.1, u) else kv) := by
  unfold KV at r ⊢
  induction r with
  | nil => exact .nil
  | @cons p q ps qs h t ih =>
    rw [List.map_cons, List.map_cons]
    refine .cons ?_ ih
    obtain ⟨h1, h2⟩ := h
    by_cases e : p.1 = k
    · rw [if_pos e, if_pos (h1.symm.trans e)]; exact ⟨h1, ry⟩
    · rw [if_neg e, if_neg (fun z => e (h1.trans z))]; exact ⟨h1, h2⟩
theorem KV.put {kvs : List (κ × V)} {vs : List (κ × Value)} (r : KV kvs vs) (k : κ) {y : V} {u : Value} (ry : RelV y u) : KV (putK kvs k y) (stored vs k u) := by
  unfold putK stored
  rw [r.any k]
  by_cases e : (vs.any fun kv => decide (kv.1 = k)) = true
  · rw [if_pos e, if_pos e]; exact r.repl k ry
  · rw [if_neg e, if_neg e]; exact Paired.snoc r ⟨rfl, ry⟩
theorem KV.drop {kvs : List (κ × V)} {vs : List (κ × Value)} (r : KV kvs vs) (k : κ) : KV (dropK kvs k) (without vs k) := by
  unfold KV at r ⊢
  unfold dropK without
  induction r with
  | nil => exact .nil
  | @cons p q ps qs h t ih =>
    obtain ⟨h1, h2⟩ := h
    rw [List.filter_cons, List.filter_cons]
    by_cases e : p.1 = k
    · have a : ¬ decide (p.1 ≠ k) = true := by simp [e]
      have b : ¬ decide (q.1 ≠ k) = true := by simp [h1.symm.trans e]
      rw [if_neg a, if_neg b]; exact ih
    · have e' : ¬ q.1 = k := fun z => e (h1.trans z)
      have a : decide (p.1 ≠ k) = true := by simp [e]
      have b : decide (q.1 ≠ k) = true := by simp [e']
      rw [if_pos a, if_pos b]; exact .cons ⟨h1, h2⟩ ih
theorem KV.length {kvs : List (κ × V)} {vs : List (κ × Value)} (r : KV kvs vs) : kvs.length = vs.length := Paired.length r
theorem dropK_le (kvs : List (κ × V)) (k : κ) : (dropK kvs k).length ≤ kvs.length := List.length_filter_le _ _
end


/-! ### a tracked dict, its keys ints and texts or tuples of these -/
theorem kV_is {P : Program} {w : World} {k : Key} {u : Value} (r : RelV (kV k) u) : (mixKind P w).is k u = true := by
  cases k with
  | inl i => obtain ⟨t, e⟩ := (show ∃ t, u = Value.int i t from r); subst e; exact mixKind_int P w i t
  | inr x => obtain ⟨t, e⟩ := (show ∃ t, u = Value.str x t from r); subst e; exact mixKind_str P w x t
theorem items_are {P : Program} {w : World} : ∀ {ks : List Key} {us : List Value}, Vals (ks.map kV) us → ItemsAre (mixKind P w) ks us
  | [], _, r => by rw [List.map_nil] at r; cases r; exact .nil
  | k :: ks, _, r => by
    rw [List.map_cons] at r
    cases r with
    | cons h t => exact .cons (kV_is h) (items_are t)

/-- raw entries of a dict with tuple keys -/
abbrev KT (H : Hp) : List (List Key × V) → List (List Key × Addr × Value) → Prop := Paired fun p q => p.1 = q.1 ∧ H q.2.1 = some (.tup (p.1.map kV)) ∧ RelV p.2 q.2.2
theorem KT.val {H : Hp} {kvs : List (List Key × V)} {xs : List (List Key × Addr × Value)} (r : KT H kvs xs) (k : List Key) : RelO (valV kvs k) ((atKey xs k).map (·.2)) := by
  induction r with
  | nil => exact True.intro
  | @cons p q ps qs h t ih =>
    obtain ⟨h1, _, h2⟩ := h
    by_cases e : p.1 = k
    · have e' : q.1 = k := h1.symm.trans e
      have b : atKey (q :: qs) k = some q.2 := by simp [atKey, List.find?_cons, e']
      rw [valV_pos e, b]; exact h2
    · have e' : ¬ q.1 = k := fun z => e (h1.trans z)
      have b : atKey (q :: qs) k = atKey qs k := by simp [atKey, List.find?_cons, e']
      rw [valV_neg e, b]; exact ih
theorem KT.repl {H : Hp} {kvs : List (List Key × V)} {xs : List (List Key × Addr × Value)} (r : KT H kvs xs) (k : List Key) {y : V} {u : Value} (ry : RelV y u) :
    KT H (kvs.map fun kv => if kv.1 = k then (kv.1, y) else kv) (xs.map (putAt k u)) := by
  induction r with
  | nil => exact .nil
  | @cons p q ps qs h t ih =>
    rw [List.map_cons, List.map_cons]
    refine .cons ?_ ih
    obtain ⟨h1, h2, h3⟩ := h
    unfold putAt
    by_cases e : p.1 = k
    · rw [if_pos e, if_pos (h1.symm.trans e)]; exact ⟨h1, h2, ry⟩
    · rw [if_neg e, if_neg (fun z => e (h1.trans z))]; exact ⟨h1, h2, h3⟩
theorem KT.put {H : Hp} {kvs : List (List Key × V)} {xs : List (List Key × Addr × Value)} (r : KT H kvs xs) (k : List Key) {b : Addr} {y : V} {u : Value} (hb : H b = some (.tup (k.map kV))) (ry : RelV y u) :
    KT H (putK kvs k y) (storedH xs k b u) := by
  have e : (kvs.any fun kv => decide (kv.1 = k)) = (atKey xs k).isSome := by
    rw [valV_any, (r.val k).isSome_eq, Option.isSome_map]
  unfold putK storedH
  rw [e]
  by_cases q : (atKey xs k).isSome = true
  · rw [if_pos q, if_pos q]; exact r.repl k ry
  · rw [if_neg q, if_neg q]; exact Paired.snoc r ⟨rfl, hb, ry⟩
theorem KT.keeps {H H' : Hp} {kvs : List (List Key × V)} {xs : List (List Key × Addr × Value)} (r : KT H kvs xs) (ht : ∀ b ys, H b = some (.tup ys) → H' b = some (.tup ys)) : KT H' kvs xs :=
  Paired.mapP r fun _ _ z => ⟨z.1, ht _ _ z.2.1, z.2.2⟩

section
variable {P : Program} {w : World} {H : Hp} {h : Heap} {a : Addr}
theorem rd_of {u : HO} (ok : HOk P w H h) (e : Rd H a u) : ObjOk P w H h a u := e.ok ok
theorem dk_rd {kvs : List (Key × V)} (ok : HOk P w H h) (e : Rd H a (.dK kvs)) : kvs.length ≤ sizeLine ∧ (a == sysModules) = false ∧ ∃ vs, KV kvs vs ∧ h.DictOf (mixKind P w) a vs :=
  show ObjOk P w H h a (.dK kvs) from rd_of ok e
theorem dk_of {kvs : List (Key × V)} (ok : HOk P w H h) (e : H a = some (.dK kvs)) : kvs.length ≤ sizeLine ∧ (a == sysModules) = false ∧ ∃ vs, KV kvs vs ∧ h.DictOf (mixKind P w) a vs := dk_rd ok (.inl e)
/-- a tracked tuple of ints and texts is a key -/
theorem key_of {ks : List Key} (ok : HOk P w H h) (e : H a = some (.tup (ks.map kV))) : (tupleKind (mixKind P w)).is h ks a := by
  obtain ⟨_, its, r, o, h1, h2, n, h3, _⟩ := (show ObjOk P w H h a (.tup (ks.map kV)) from ok a _ e)
  exact ⟨o, its.toArray, n, h1, h2, h3, by simpa using items_are r⟩
theorem dt_rd {kvs : List (List Key × V)} (ok : HOk P w H h) (e : Rd H a (.dT kvs)) : kvs.length ≤ sizeLine ∧ (a == sysModules) = false ∧
    ∃ xs, KT H kvs xs ∧ h.DictOfH (tupleKind (mixKind P w)) a xs := by
  obtain ⟨z, y, xs, r, o, es, ep, h1, h2, h3, h4, h5⟩ := (show ObjOk P w H h a (.dT kvs) from rd_of ok e)
  refine ⟨z, y, xs, r, o, es, ep, h1, h2, h3, h4, fun x hx => ?_, h5⟩
  have all : ∀ {l : List (List Key × V)} {m : List (List Key × Addr × Value)}, KT H l m → ∀ x ∈ m, (tupleKind (mixKind P w)).is h x.1 x.2.1 := by
    intro l m q
    induction q with
    | nil => intro x hx; exact nomatch hx
    | @cons p q ps qs hq t ih =>
      intro x hx
      rcases List.mem_cons.mp hx with e | hx
      · subst e
        exact key_of ok (by rw [← hq.1]; exact hq.2.1)
      · exact ih x hx
  exact all r x hx
theorem dt_of {kvs : List (List Key × V)} (ok : HOk P w H h) (e : H a = some (.dT kvs)) : kvs.length ≤ sizeLine ∧ (a == sysModules) = false ∧
    ∃ xs, KT H kvs xs ∧ h.DictOfH (tupleKind (mixKind P w)) a xs := dt_rd ok (.inl e)
end

/-- what the dict at a holds at the key y -/
def DGet (H : Hp) (a : Addr) (y : V) (r : Option V) : Prop :=
  (∃ kvs k, Rd H a (.dK kvs) ∧ y = kV k ∧ r = valV kvs k) ∨ ∃ kvs k b, Rd H a (.dT kvs) ∧ y = .ref b ∧ H b = some (.tup (k.map kV)) ∧ r = valV kvs k
/-- the heap behind a[y] = v -/
def DPut (H : Hp) (a : Addr) (y v : V) (H' : Hp) : Prop :=
  (∃ kvs k, H a = some (.dK kvs) ∧ y = kV k ∧ kvs.length < sizeLine ∧ H' = upd H a (.dK (putK kvs k v))) ∨
  ∃ kvs k b, H a = some (.dT kvs) ∧ y = .ref b ∧ H b = some (.tup (k.map kV)) ∧ kvs.length < sizeLine ∧ H' = upd H a (.dT (putK kvs k v))
theorem DGet.k {H : Hp} {a : Addr} {kvs : List (Key × V)} {k : Key} (e : H a = some (.dK kvs)) : DGet H a (kV k) (valV kvs k) := .inl ⟨kvs, k, .inl e, rfl, rfl⟩
theorem DPut.k {H : Hp} {a : Addr} {kvs : List (Key × V)} {k : Key} {v : V} (e : H a = some (.dK kvs)) (hl : kvs.length < sizeLine) : DPut H a (kV k) v (upd H a (.dK (putK kvs k v))) := .inl ⟨kvs, k, e, rfl, hl, rfl⟩
section
variable {X : Cx} {pins : List (Addr × Obj)} {σ : St} {H : Hp} {s : Shared} {a : Addr} {y v : V} {u r : Value} {o : Option V} {A : Around} {E : Value → Shared → Prop}

theorem Inv.big (I : Inv X pins σ H s) : sysModules < s.heap.objs.size := by
  have h : mainGlobals < s.heap.objs.size := (I.mod.glob.keeps I.bk).lt
  exact Nat.lt_trans (by decide) h

/-- d[y], there -/
theorem d_getItem {Q : Value → Shared → Prop} (hu : A.units + 1 < cLine) (I : Inv X pins σ H s) (g : DGet H a y (some v)) (ry : RelV y u) (h : ∀ w' s', Inv X pins σ H s' → RelV v w' → Q w' s') :
    wpAny (model X.prog X.w) A (getItem (.ref a) u) Q E s := by
  rcases g with ⟨kvs, k, e, ey, l⟩ | ⟨kvs, k, b, e, ey, eb, l⟩
  · subst ey
    obtain ⟨z, hd, vs, rel, dd⟩ := dk_rd I.hok e
    obtain ⟨w', hw, rw'⟩ := RelO.some_of (v := v) (o := valueAt vs k) (by rw [l]; exact rel.val k)
    exact wpAny_getItem_of (kV_is ry) dd.mapOf hw (h w' _ (I.tok _) rw')
  · subst ey
    cases (show u = Value.ref b from ry)
    obtain ⟨z, hd, xs, rel, dd⟩ := dt_rd I.hok e
    obtain ⟨w', hw, rw'⟩ := RelO.some_of (v := v) (o := (atKey xs k).map (·.2)) (by rw [l]; exact rel.val k)
    obtain ⟨p, hp, hp2⟩ := Option.map_eq_some_iff.mp hw
    refine wpAny_getItem_heap (tupleKind_room_in1 hu) (key_of I.hok eb) dd hp ?_
    rw [hp2]
    exact h w' _ (I.tok _) rw'
theorem d_notIn {Q : Value → Shared → Prop} (hu : A.units + 1 < cLine) (I : Inv X pins σ H s) (g : DGet H a y o) (ry : RelV y u) (h : ∀ s', Inv X pins σ H s' → Q (.bool (!o.isSome)) s') :
    wpAny (model X.prog X.w) A (compareOp .NotIn u (.ref a)) Q E s := by
  rcases g with ⟨kvs, k, e, ey, l⟩ | ⟨kvs, k, b, e, ey, eb, l⟩
  · subst ey
    obtain ⟨z, hd, vs, rel, dd⟩ := dk_rd I.hok e
    refine wpAny_notIn_of (kV_is ry) hd dd.mapOf ?_
    rw [← (rel.val k).isSome_eq, ← l]
    exact h _ (I.tok _)
  · subst ey
    cases (show u = Value.ref b from ry)
    obtain ⟨z, hd, xs, rel, dd⟩ := dt_rd I.hok e
    refine wpAny_notIn_heap (tupleKind_room_in1 hu) (key_of I.hok eb) hd dd ?_
    have q := (rel.val k).isSome_eq
    rw [Option.isSome_map] at q
    rw [← q, ← l]
    exact h _ (I.tok _)
/-- a dict's object is replaced -/
theorem d_write {h' : Heap} {t' : Nat} {ob : HO} (I : Inv X pins σ H s) (mu : Mut (H a)) (hs : Heap.SameBut a s.heap h') (he : ∃ q, h'.get? a = some q) (new : ObjOk X.prog X.w (upd H a ob) h' a ob) :
    Inv X pins σ (upd H a ob) { s with heap := h', toks := t' } :=
  I.write (x := a) (e := a) mu (.inl rfl) (fun b q hb z => (hs.2 b hb).trans z) he new
theorem dk_new {P : Program} {w : World} {H' : Hp} {h' : Heap} {kvs : List (Key × V)} {vs : List (Key × Value)} (z : kvs.length ≤ sizeLine) (hd : (a == sysModules) = false) (rel : KV kvs vs) (dd : h'.DictOf (mixKind P w) a vs) :
    ObjOk P w H' h' a (.dK kvs) := ⟨z, hd, vs, rel, dd⟩
/-- d[y] = v -/
theorem d_setItem {H' : Hp} {Q : Unit → Shared → Prop} (hu : A.units + 1 < cLine) (I : Inv X pins σ H s) (g : DPut H a y v H') (ry : RelV y u) (rv : RelV v r) (h : ∀ s', Inv X pins σ H' s' → Q () s') :
    wpAny (model X.prog X.w) A (setItem (.ref a) u r) Q E s := by
  rcases g with ⟨kvs, k, e, ey, l, eH⟩ | ⟨kvs, k, b, e, ey, eb, l, eH⟩
  · subst ey eH
    obtain ⟨z, hd, vs, rel, dd⟩ := dk_of I.hok e
    have hz : vs.length ≤ sizeLine := by rw [← rel.length]; exact z
    have hl : (putK kvs k v).length ≤ sizeLine := by have := length_putK kvs k v; omega
    refine wpAny_setItem_pairs (hsz := hz) (kV_is ry) dd fun h' dd' hs => h _ ?_
    have he : ∃ q, h'.get? a = some q := let ⟨q, _, _, hq, _⟩ := dd'; ⟨q, hq⟩
    exact d_write I (by rw [e]; exact True.intro) hs he (dk_new hl hd (rel.put k rv) dd')
  · subst ey eH
    cases (show u = Value.ref b from ry)
    obtain ⟨z, hd, xs, rel, dd⟩ := dt_of I.hok e
    have hz : xs.length ≤ sizeLine := by rw [← Paired.length rel]; exact z
    have hl : (putK kvs k v).length ≤ sizeLine := by have := length_putK kvs k v; omega
    refine wpAny_setItem_heap (hsz := hz) (tupleKind_room_in1 hu) (key_of I.hok eb) dd fun h' dd' hs => h _ ?_
    obtain ⟨q, es, ep, hq, h2, h3, h4, _, h5⟩ := dd'
    refine d_write I (by rw [e]; exact True.intro) hs ⟨q, hq⟩ ⟨hl, hd, _, (rel.put k eb rv).keeps fun c ys ec => ?_, q, es, ep, hq, h2, h3, h4, h5⟩
    rw [upd_ne (ne_of ec e (fun z => nomatch z))]
    exact ec
end

section
variable {X : Cx} {pins : List (Addr × Obj)} {σ : St} {H : Hp} {s : Shared} {a : Addr} {kvs : List (Key × V)} {k : Key} {u : Value} {A : Around} {E : Value → Shared → Prop}
/-- d.pop(k[, x]), there -/
theorem d_pop {v : V} {more : List Value} {Q : Value → Shared → Prop} (I : Inv X pins σ H s) (e : H a = some (.dK kvs)) (ry : RelV (kV k) u) (l : valV kvs k = some v) (hm : more = [] ∨ ∃ x, more = [x])
    (h : ∀ w' s', Inv X pins σ (upd H a (.dK (dropK kvs k))) s' → RelV v w' → Q w' s') : wpAny (model X.prog X.w) A (call (.builtin "dict.pop") (.ref a :: u :: more)) Q E s := by
  obtain ⟨z, hd, vs, rel, dd⟩ := dk_of I.hok e
  obtain ⟨w', hw, rw'⟩ := RelO.some_of (v := v) (o := valueAt vs k) (by rw [← l]; exact rel.val k)
  have hp : (keyPart u).isSome = true := by
    cases k with
    | inl i => obtain ⟨t, q⟩ := (show ∃ t, u = Value.int i t from ry); subst q; rfl
    | inr x => obtain ⟨t, q⟩ := (show ∃ t, u = Value.str x t from ry); subst q; rfl
  have ha : argsOk "dict.pop" ⟨.ref a :: u :: more, []⟩ := by
    rcases hm with q | ⟨x, q⟩
    · subst q; exact PySem.F.args_dict_pop_2 _ _
    · subst q; exact PySem.F.args_dict_pop_3 _ _ _
  refine call_meetsIn PySem.F.slot_dict_pop dd.typeIs PySem.F.entry_dict_pop ha (meets_dict_pop_there (mixKind X.prog X.w) a (kV_is ry) more hm hp)
    ⟨vs, w', dd, by rw [← rel.length]; exact z, hw, fun h' dd' hs => h w' _ ?_ rw'⟩
  have he : ∃ q, h'.get? a = some q := let ⟨q, _, _, hq, _⟩ := dd'; ⟨q, hq⟩
  exact d_write I (by rw [e]; exact True.intro) hs he (dk_new (Nat.le_trans (dropK_le kvs k) z) hd (rel.drop k) dd')
/-- len(d) -/
theorem d_len {Q : Value → Shared → Prop} (I : Inv X pins σ H s) (e : Rd H a (.dK kvs)) (h : ∀ t s', Inv X pins σ H s' → Q (.int kvs.length t) s') : wpAny (model X.prog X.w) A (call (.builtin "len") [.ref a]) Q E s := by
  obtain ⟨z, hd, vs, rel, dd⟩ := dk_rd I.hok e
  refine call_len_dict hd dd (by rw [← rel.length]; rw [sizeLine_eq] at z; omega) ?_
  rw [← rel.length]
  exact h _ _ (I.tok _)
end


/-! ### readings and rules -/
/-- the element of a subscription, not a slice -/
def NoSl (i : Expr) : Prop := ∀ ov iv, subscripted i false ov iv = operate [ov, iv] (getItem ov iv)
theorem subD_of {prog : Program} {w : World} {A : Around} {E : Value → Shared → Prop} {s : Shared} {env : Env} {value slice : Expr} {pos : Pos} {T id : String} {Q : Value → Shared → Prop}
    (hl : typeLookup (.type T) "__getitem__" = pure (some (.builtin id))) (hs : NoSl slice)
    (h : wpAny (model prog w) A (eval value env) (fun o s₁ => wpAny (model prog w) A (eval slice env) (fun i s₂ => s₂.TypeIs o T ∧ wpAny (model prog w) A (getItem o i) Q E s₂) E s₁) E s) :
    wpAny (model prog w) A (eval (.Subscript value slice pos) env) Q E s := by
  refine Subscript_ (wpAny_mono h (fun o s₁ h₁ => wpAny_mono h₁ (fun i s₂ h₂ => ?_) fun _ _ x => x) fun _ _ x => x)
  obtain ⟨hT, h₂⟩ := h₂
  unfold subscriptTail
  refine wpAny_bind ?_
  rw [getitemInPython_of_ne hT.not_modules]
  refine wpAny_bind (wpAny_specialOf hT hl ?_)
  have fin : wpAny (model prog w) A (subscripted slice false o i) (fun r s₃ => wpAny (model prog w) A (letTemporaryGo value o r >>= fun _ => pure r) Q E s₃) E s₂ := by
    rw [hs o i]
    exact wpAny_operating (wpAny_mono h₂ (fun r s₃ h₃ => wpAny_bind (wpAny_letTemporaryGo (wpAny_pure h₃))) fun _ _ x => x)
  first
    | exact wpAny_pure (wpAny_bind fin)
    | exact wpAny_bind (wpAny_pure (wpAny_bind fin))
    | exact wpAny_bind fin

theorem dict_typeIs {X : Cx} {pins : List (Addr × Obj)} {σ : St} {H : Hp} {s : Shared} {a : Addr} {y : V} {o : Option V} (I : Inv X pins σ H s) (g : DGet H a y o) : s.TypeIs (.ref a) "dict" := by
  rcases g with ⟨kvs, k, e, _, _⟩ | ⟨kvs, k, b, e, _, _, _⟩
  · obtain ⟨_, _, vs, _, dd⟩ := dk_rd I.hok e
    exact dd.typeIs
  · obtain ⟨_, _, xs, _, dd⟩ := dt_rd I.hok e
    exact dd.typeIs
/-- d[y] -/
def tDGet (td ty : TE) : TE := fun σ H Q => td σ H fun x H1 => ty σ H1 fun y H2 => ∃ a v, x = .ref a ∧ DGet H2 a y (some v) ∧ Q v H2
def tDNotIn (ty td : TE) : TE := fun σ H Q => ty σ H fun y H1 => td σ H1 fun x H2 => ∃ a o, x = .ref a ∧ DGet H2 a y o ∧ Q (.bl (!o.isSome)) H2
/-- d[y] = v -/
def sDPut (td ty tv : TE) : TS := fun D σ H => tv σ H fun v H1 => td σ H1 fun x H2 => ty σ H2 fun y H3 => ∃ a H4, x = .ref a ∧ DPut H3 a y v H4 ∧ D.nx σ H4
section
variable {X : Cx} {o i e value : Expr} {pos pos' tpos : Pos} {td ty tv : TE}
theorem pe_dget (hu : X.A.units + 1 < cLine) (ho : PE X o td) (hi : PE X i ty) (hs : NoSl i) : PE X (.Subscript o i pos) (tDGet td ty) := by
  intro pins s σ H Q I h
  refine subD_of PySem.F.slot_dict_getitem.lookup hs (thn (ho pins s σ H _ I h) fun u s1 ⟨x, H1, I1, rx, q1⟩ => thn (hi pins s1 σ H1 _ I1 q1) fun iv s2 ⟨y, H2, I2, ry, a, v, ex, g, q2⟩ => ?_)
  subst ex
  obtain rfl : u = Value.ref a := rx
  exact ⟨dict_typeIs I2 g, d_getItem hu I2 g ry fun w' s3 I3 rw' => ⟨v, H2, I3, rw', q2⟩⟩
theorem pc_dnotin (hu : X.A.units + 1 < cLine) (hi : PE X i ty) (ho : PE X o td) : PC X .NotIn i o (tDNotIn ty td) := by
  intro pins s σ H Q I h
  refine thn (hi pins s σ H _ I h) fun iv s1 ⟨y, H1, I1, ry, q1⟩ => thn (ho pins s1 σ H1 _ I1 q1) fun u s2 ⟨x, H2, I2, rx, a, ov, ex, g, q2⟩ => ?_
  subst ex
  obtain rfl : u = Value.ref a := rx
  exact d_notIn hu I2 g ry fun s3 I3 => ⟨.bl (!ov.isSome), H2, I3, rfl, q2⟩
theorem ps_dput (hu : X.A.units + 1 < cLine) (ho : PE X o td) (hi : PE X i ty) (hv : PE X value tv) (hs : swapsWith value (some (.Subscript o i pos')) pos.line X.env = pure false) :
    PS X (.Assign [.Subscript o i pos'] value pos) (sDPut td ty tv) := by
  intro pins s σ H D I h
  refine wpAny_Assign_Subscript (thn (hv pins s σ H _ I h) fun r s1 ⟨v, H1, I1, rv, q1⟩ => thn (ho pins s1 σ H1 _ I1 q1) fun u s2 ⟨x, H2, I2, rx, q2⟩ => thn (hi pins s2 σ H2 _ I2 q2) fun iv s3 ⟨y, H3, I3, ry, a, H4, ex, g, q3⟩ => ?_) hs
  subst ex
  obtain rfl : u = Value.ref a := rx
  exact d_setItem hu I3 g ry rv fun s4 I4 => ⟨σ, H4, I4, q3⟩
end


/-! ### displays -/
theorem dk_empty {P : Program} {w : World} {H : Hp} (h : Heap) (hb : sysModules < h.objs.size) : ObjOk P w H (h.push { cls := .type "dict", data := .dict #[] }) h.objs.size (.dK []) :=
  ⟨Nat.zero_le _, beq_eq_false_iff_ne.mpr (Ne.symm (Nat.ne_of_lt hb)), [], .nil, Heap.DictOf.new h⟩
/-- {}, to be a dict of the kind that is wanted -/
def tDNewK : TE := fun _ H Q => ∀ p, H p = none → Q (.ref p) (upd H p (.dK []))
section
variable {X : Cx} {pos : Pos}
theorem pe_dnewK : PE X (.Dict [] [] pos) tDNewK := fun pins s σ H Q I h =>
  wpAny_Dict_empty ⟨.ref s.heap.objs.size, _, I.laid (a := s.heap.objs.size) (o := .dK []) (t' := s.toks) (fun _ _ q => Heap.get?_push_of_some _ q) (Nat.le_refl _) (dk_empty s.heap I.big), rfl, h _ (I.hok.fresh (Nat.le_refl _))⟩
end

/-- the pairs of a display, from the left -/
def tPairs : List (TE × TE) → St → Hp → (List (V × V) → Hp → Prop) → Prop
  | [], _, H, Q => Q [] H
  | (tk, tv) :: r, σ, H, Q => tk σ H fun x H1 => tv σ H1 fun y H2 => tPairs r σ H2 fun ps H3 => Q ((x, y) :: ps) H3
abbrev VV : List (V × V) → List (Value × Value) → Prop := Paired fun p q => RelV p.1 q.1 ∧ RelV p.2 q.2
def PPs (X : Cx) (pos : Pos) (keys : List (Option Expr)) (values : List Expr) (trs : List (TE × TE)) : Prop :=
  ∀ (pins : List (Addr × Obj)) (s : Shared) (σ : St) (H : Hp) (Q : List (V × V) → Hp → Prop), Inv X pins σ H s → tPairs trs σ H Q →
    wpAny (model X.prog X.w) X.A (evalPairs (pairTrees keys values X.env pos)) (fun vs s' => ∃ ps H', Inv X pins σ H' s' ∧ VV ps vs ∧ Q ps H') X.xe s
theorem pps_nil {X : Cx} {pos : Pos} : PPs X pos [] [] [] := fun pins s σ H Q I h => pairTrees_nil_walk ⟨[], H, I, .nil, h⟩
theorem pps_cons {X : Cx} {pos : Pos} {k v : Expr} {ks : List (Option Expr)} {vs : List Expr} {tk tv : TE} {trs : List (TE × TE)} (hk : PE X k tk) (hv : PE X v tv) (hr : PPs X pos ks vs trs) :
    PPs X pos (some k :: ks) (v :: vs) ((tk, tv) :: trs) := fun pins s σ H Q I h =>
  pairTrees_cons_walk (thn (hk pins s σ H _ I h) fun u s1 ⟨x, H1, I1, rx, q1⟩ => thn (hv pins s1 σ H1 _ I1 q1) fun w2 s2 ⟨y, H2, I2, ry, q2⟩ =>
    thn (hr pins s2 σ H2 _ I2 q2) fun ws s3 ⟨ps, H3, I3, rel, q3⟩ => ⟨(x, y) :: ps, H3, I3, .cons ⟨rx, ry⟩ rel, q3⟩)

def mergeK (kvs more : List (Key × V)) : List (Key × V) := more.foldl (fun acc kv => putK acc kv.1 kv.2) kvs
theorem KV.merge : ∀ {more : List (Key × V)} {rs : List (Key × Value)} {kvs : List (Key × V)} {vs : List (Key × Value)}, KV more rs → KV kvs vs → KV (mergeK kvs more) (merged vs rs) := by
  intro more rs kvs vs r
  unfold KV at r
  induction r generalizing kvs vs with
  | nil => intro q; exact q
  | @cons p q ps qs h t ih =>
    intro r0
    have e : KV (putK kvs p.1 p.2) (stored vs q.1 q.2) := by
      have := r0.put p.1 h.2
      rw [← h.1]; exact this
    exact ih e
theorem length_mergeK : ∀ (more kvs : List (Key × V)), (mergeK kvs more).length ≤ kvs.length + more.length
  | [], kvs => by show kvs.length ≤ kvs.length + 0; omega
  | p :: r, kvs => by
    have h1 := length_mergeK r (putK kvs p.1 p.2)
    have h2 := length_putK kvs p.1 p.2
    show (mergeK (putK kvs p.1 p.2) r).length ≤ _
    rw [List.length_cons]; omega
theorem carries_of {P : Program} {w : World} : ∀ {kvs : List (Key × V)} {ws : List (Value × Value)}, VV (kvs.map fun kv => (kV kv.1, kv.2)) ws → ∃ rs, Carries (mixKind P w) ws rs ∧ KV kvs rs
  | [], _, r => by rw [List.map_nil] at r; cases r; exact ⟨[], True.intro, .nil⟩
  | p :: kvs, _, r => by
    rw [List.map_cons] at r
    cases r with
    | @cons a b as bs h t =>
      obtain ⟨rs, c, q⟩ := carries_of (P := P) (w := w) t
      obtain ⟨b1, b2⟩ := b
      exact ⟨(p.1, b2) :: rs, ⟨kV_is h.1, rfl, c⟩, .cons ⟨rfl, h.2⟩ q⟩
/-- {k: v, ..} with keys ints and texts; the new dict stands empty while the pairs are made -/
def tDisp (trs : List (TE × TE)) : TE := fun σ H Q => ∀ p, H p = none → tPairs trs σ (upd H p (.dK [])) fun ps H2 => H2 p = some (.dK []) ∧ ∃ kvs : List (Key × V), ps = kvs.map (fun kv => (kV kv.1, kv.2)) ∧ kvs.length ≤ 15 ∧ Q (.ref p) (upd H2 p (.dK (mergeK [] kvs)))
theorem pe_disp {X : Cx} {pos : Pos} {keys : List (Option Expr)} {values : List Expr} {trs : List (TE × TE)} (h : PPs X pos keys values trs) (hall : keys.all (·.isSome) = true) (hl : keys.length = values.length) (h0 : keys ≠ [])
    (h15 : keys.length ≤ 15) : PE X (.Dict keys values pos) (tDisp trs) := by
  intro pins s σ H Q I q
  have hn := I.hok.fresh (Nat.le_refl s.heap.objs.size)
  have I1 := I.laid (a := s.heap.objs.size) (o := .dK []) (h' := s.heap.push { cls := .type "dict", data := .dict #[] }) (t' := s.toks) (fun _ _ q => Heap.get?_push_of_some _ q) (Nat.le_refl _) (dk_empty s.heap I.big)
  refine wpAny_Dict_walk (knd := mixKind X.prog X.w) hall hl h0 h15 (thn (h pins _ σ _ _ I1 (q _ hn)) fun ws s2 ⟨ps, H2, I2, rel, e, kvs, ep, lk, q2⟩ => ?_)
  subst ep
  obtain ⟨rs, c, rk⟩ := carries_of (P := X.prog) (w := X.w) rel
  obtain ⟨z, hd, vs0, r0, dd⟩ := dk_of I2.hok e
  cases r0
  refine ⟨rs, c, dd, fun h' dd' hs => ⟨.ref s.heap.objs.size, _, ?_, rfl, q2⟩⟩
  have hz : (mergeK [] kvs).length ≤ sizeLine := by
    have h1 := length_mergeK kvs []
    rw [List.length_nil] at h1
    rw [sizeLine_eq]; omega
  have he : ∃ q, h'.get? s.heap.objs.size = some q := let ⟨q, _, _, hq, _⟩ := dd'; ⟨q, hq⟩
  exact d_write I2 (by rw [e]; exact True.intro) hs he (dk_new hz hd (rk.merge .nil) dd')


/-! ### methods -/
/-- a method call o.m(e) of a built-in, with one argument: what must be seen of the text -/
structure M1 (X : Cx) (o : Expr) (m : Str) (apos : Pos) (e : Expr) (cpos : Pos) : Prop where
  base : attributeBase o m X.env (eval o X.env) = eval o X.env
  few : ((backTo cpos (starEach [e] X.env)).all (fun x => !x.1) && (backToKw cpos (keywordEach [] X.env)).all (fun x => x.1.isSome)
    && decide (([e] : List Expr).length + ([] : List Keyword).length + (if ([] : List Keyword).isEmpty then 0 else 1) < 30)) = true
  line : (apos.endLine == cpos.line) = true
  trees : backTo cpos (starEach [e] X.env) = [(false, eval e X.env)]
/-- a is a dict, whatever its keys -/
def IsD (H : Hp) (a : Addr) : Prop := (∃ kvs, Rd H a (.dK kvs)) ∨ ∃ kvs, Rd H a (.dT kvs)
theorem isD_at {X : Cx} {pins : List (Addr × Obj)} {σ : St} {H : Hp} {s : Shared} {a : Addr} (I : Inv X pins σ H s) (d : IsD H a) :
    s.TypeIs (.ref a) "dict" ∧ (∀ b, Value.ref a = .ref b → ∃ ob, s.heap.get? b = some ob ∧ ob.dict = none) ∧ (a == sysModules) = false := by
  rcases d with ⟨kvs, e⟩ | ⟨kvs, e⟩
  · obtain ⟨_, hd, vs, _, dd⟩ := dk_rd I.hok e
    refine ⟨dd.typeIs, fun b q => ?_, hd⟩
    cases q
    obtain ⟨ob, _, _, h1, h2, _⟩ := dd
    exact ⟨ob, h1, h2.2.1⟩
  · obtain ⟨_, hd, xs, _, dd⟩ := dt_rd I.hok e
    refine ⟨dd.typeIs, fun b q => ?_, hd⟩
    cases q
    obtain ⟨ob, _, _, h1, h2, _⟩ := dd
    exact ⟨ob, h1, h2.2.1⟩

section
variable {X : Cx} {pins : List (Addr × Obj)} {σ : St} {H : Hp} {s : Shared} {a : Addr} {y d : V} {u r : Value} {o : Option V} {A : Around} {E : Value → Shared → Prop}
end

/-- d.pop(k): there; d.pop(k, x): there or not -/
def tDPop1 (td ty : TE) : TE := fun σ H Q => td σ H fun x H1 => ∃ a, x = .ref a ∧ IsD H1 a ∧ ty σ H1 fun y H2 => ∃ kvs k v, H2 a = some (.dK kvs) ∧ y = kV k ∧ valV kvs k = some v ∧ Q v (upd H2 a (.dK (dropK kvs k)))
section
variable {X : Cx} {o e f : Expr} {apos cpos : Pos} {td ty tx : TE}
theorem pe_dpop1 (ho : PE X o td) (he : PE X e ty) (m : M1 X o "pop" apos e cpos) : PE X (.Call (.Attribute o "pop" apos) [e] [] cpos) (tDPop1 td ty) := by
  intro pins s σ H Q I h
  refine wpAny_Call_method m.base m.few m.line PySem.F.plainAttrs_dict PySem.F.slot_dict_pop PySem.F.type_dict_pop (thn (ho pins s σ H _ I h) fun u s1 ⟨x, H1, I1, rx, a, ex, d, q1⟩ => ?_)
  subst ex
  obtain rfl : u = Value.ref a := rx
  obtain ⟨t1, t2, _⟩ := isD_at I1 d
  refine ⟨t1, t2, ?_⟩
  rw [m.trees]
  refine Calls.callWith_builtin rfl (Calls.evalArgs_plain (Calls.spliced_cons (thn (he pins s1 σ H1 _ I1 q1) fun iv s2 ⟨y, H2, I2, ry, kvs, k, v, ea, ey, l, q2⟩ => Calls.spliced_nil ?_)))
  subst ey
  exact d_pop I2 ea ry l (.inl rfl) fun w' s3 I3 rw' => ⟨v, _, I3, rw', q2⟩
end

/-! ### dict(d): a copy -/
section
variable {X : Cx} {pins : List (Addr × Obj)} {σ : St} {H : Hp} {s : Shared} {a : Addr} {kvs : List (Key × V)} {A : Around} {E : Value → Shared → Prop}
end


section
variable {X : Cx} {pins : List (Addr × Obj)} {σ : St} {H : Hp} {s : Shared} {a : Addr} {y : V} {u : Value} {A : Around} {E : Value → Shared → Prop}
end
end L2

namespace Att
open PySem PySem.W PySem.Calls PyProof.Rows

/-! ### the script -/
theorem ints_of_wellAll {P : Params} {h : Heap} : ∀ (ns : List Int) (vs : List Value), WellAll P h vs (ns.map WData.int) → IntsAre vs ns := by
  intro ns
  induction ns with
  | nil =>
    intro vs w
    rw [List.map_nil] at w
    cases w
    exact .nil
  | cons n ns ih =>
    intro vs w
    rw [List.map_cons] at w
    cases w with
    | cons a b =>
      cases a
      exact .cons _ _ (ih _ b)

theorem script_of {l : OpenLaw} {n : Nat} (hn : l.most = some n) {P : Params} {h : Heap} {args : List WData} {vals : List Value}
    (hpre : l.row.toRowW.claim.pre args = true) (hwl : WellAll P h vals args) :
    ∃ a vs ns, vals = [Value.ref a] ∧ args = [WData.list (ns.map WData.int)] ∧ h.get? a = some { cls := .type "list", data := .seq vs.toArray } ∧ IntsAre vs ns ∧ ns.length ≤ n := by
  have hsh : WShape.hasAll [] args [.list .int] = true := (pre_splitW hpre).1
  have hc : l.pre.holds [] { args := args } = true := (pre_splitW hpre).2
  obtain ⟨d, r, rfl, h1, h2⟩ := hasAllW_cons hsh
  obtain rfl := hasAllW_nil h2
  obtain ⟨xs, rfl, h3⟩ := hasW_list h1
  obtain ⟨ns, rfl⟩ := items_int h3
  have hlen : ns.length ≤ n := by
    unfold OpenLaw.pre at hc
    have h4 : (WTm.not (.lt (.lit (.int (n : Int))) (.len (.arg 0)))).holds [] { args := [.list (ns.map .int)] } = true := by
      have h4 := (holds_andW hc).1
      rw [hn] at h4
      exact h4
    have h5 := condW_of h4 (w_not (w_lt w_lit (w_len_list (w_arg rfl))))
    rw [List.length_map] at h5
    refine Nat.le_of_not_lt fun q => ?_
    have q' : (n : Int) < ((ns.length : Nat) : Int) := by omega
    first
      | (rw [decide_eq_true q'] at h5; exact absurd h5 (by decide))
      | (simp at h5; omega)
  cases hwl with
  | cons w1 w2 =>
    cases w2
    cases w1 with
    | list ho hall => exact ⟨_, _, ns, rfl, rfl, ho, ints_of_wellAll ns _ hall, hlen⟩

theorem post_true (l : OpenLaw) (args : List WData) : l.row.toRowW.claim.post args (.bool true) args = true :=
  postW_of (r := l.row.toRowW) (X := (true == true))
    (show WShape.has [] (.bool true) .bool = true by first | rfl | decide | simp [WShape.has, WShape.arms, WShape.armsAll])
    (show (WTm.eq .res (.lit (.bool true))).value [] { args := args, res := some (.bool true), after := args } = some (.bool (true == true)) from w_eq_bool (w_res rfl) w_lit) rfl

/-! ### the attachment: holds_open's last premise (the goal 'hc' behind k_head) from a wpAny of the law's body -/
/-- the same from a codeAny of the CALL (for a layer whose function contracts speak of calls) -/
theorem attach_call {l : OpenLaw} {n : Nat} {q : Program} {loose : List Str} {XP : (Str → Option Value) → Heap → Prop} {YP : World → Heap → Prop} {d : DefRec}
    (hn : l.most = some n) (hdf : d.params.defaults = [])
    (call : ∀ (w : World) (s₀ s₁ : Shared) (mg mb : Str → Option Value) (fa : Addr) (o : Obj) (pm cd doc : Value) (a : Addr) (vs : List Value) (ns : List Int),
      Ground q loose [] XP w s₀ mg mb s₁.heap → YP w s₁.heap →
      s₁.heap.get? fa = some o → o.data = .func (docDef d.name d.params d.body d.scope pm cd doc) → s₁.heap.CodeRec cd d.name → mg d.name = some (.ref fa) →
      s₁.heap.get? a = some { cls := .type "list", data := .seq vs.toArray } → IntsAre vs ns → ns.length ≤ n → s₁.gens = #[] →
      codeAny (model l.prog w) callerA (.call (.ref fa) ⟨[.ref a], []⟩) (fun r s' => r = .ok (.ret (.bool true)) ∧ OldK s₁.heap s'.heap ∧ s'.os = s₁.os ∧ AllBare s'.gens) s₁) :
    WalkO q loose XP YP l.row.toRowW d [] (fun f vs => PySem.call f vs) := by
  intro w s₀ s₁ mg mb G Y fa o pm cd doc dV kV ho hd hcd hD hmg hg args vals as hpre hlay hrd hwl hlo
  obtain rfl : dV = .none := Dflts.none hD hdf
  obtain rfl : kV = .none := Dflts.noKw hD
  obtain ⟨a, vs, ns, rfl, rfl, hobj, hints, hlen⟩ := script_of hn hpre hwl
  refine enter_call (codeAny_mono (call w s₀ s₁ mg mb fa o pm cd doc a vs ns G Y ho (fd_plain hd) hcd hmg hobj hints hlen hg) fun r s' hq => ?_)
  obtain ⟨rfl, h2, h3, h4⟩ := hq
  exact ⟨.inl ⟨.bool true, .bool true, [], rfl, fun _ => rfl, .bool true, post_true l _, fun _ => ⟨List.Pairwise.nil, fun _ hm => (nomatch hm)⟩⟩, h2, h3, h4⟩

/-! ### rules over ANY heap (no ledger) from facts about the written part K: the library's own take a ledger (News) for what they write -/
section
variable {prog : Program} {w : World} {A : Around} {E : Value → Shared → Prop} {s : Shared} {K : Frag}

/-! the whole heap as the ledger: makes every rule that writes through a ledger a rule over any heap -/
end
end Att

namespace L2
open PySem PySem.Spec PyProof.Rows

theorem vals_ints : ∀ {vs : List Value} {ns : List Int}, IntsAre vs ns → Vals (ns.map V.int) vs
  | _, _, .nil => .nil
  | _, _, .cons n t h => .cons ⟨t, rfl⟩ (vals_ints h)

end L2

namespace L2
open PySem PySem.Spec PyProof.Rows

abbrev KOf {K : PySem.W.Frag} {h : Heap} (_ : K.In h) : PySem.W.Frag := K

end L2

/- THE LAST THEOREM (shape; LID, My.* are yours):
   My.Adr: a structure of the addresses that your layer names (classes, functions); My.Txt K t: a structure (Prop) of the equations over K;
   My.txt_mk : {K} {implicit addresses ..} (e1 : nsIn K mainGlobals "law" = some (some (.ref f))) (e2 : K.lookup f = some ⟨oc, od, .func (fnOf "law" "law" params body scope dV kV doc pm an cdv ct), sl⟩) (e3 : codeIn K cdv "law" = true) .. : ∃ t, My.Txt K t

(the tactic k_is has no namespace: write k_is) -/

/-! SHORT WORDS over the layer: a def of the text, its body, what a loop and a test want. -/
namespace L2
open PySem PySem.Spec PyProof.Rows

/-! ### the text by places -/
/-- the j-th statement of a class's body -/
def inClass (s : Stmt) (j : Nat) : Stmt := match s with
  | .ClassDef _ _ _ body _ _ _ _ _ _ _ => body.getD j (.Pass ⟨0, 0, 0, 0⟩)
  | _ => .Pass ⟨0, 0, 0, 0⟩
def defArgs (s : Stmt) : Arguments := match s with
  | .FunctionDef _ a _ _ _ _ _ _ _ _ => a
  | _ => { posonlyargs := [], args := [], vararg := none, kwonlyargs := [], kw_defaults := [], kwarg := none, defaults := [] }
def defBody (s : Stmt) : List Stmt := match s with
  | .FunctionDef _ _ b _ _ _ _ _ _ _ => b
  | _ => []
def defScope (s : Stmt) : Scope := match s with
  | .FunctionDef _ _ _ _ _ _ sc _ _ _ => sc
  | _ => { kind := .function, names := [], isGenerator := false, isCoroutine := false }

/-! ### no exception leaves a def -/
abbrev CX0 : CXT := fun _ _ _ _ _ _ => False
abbrev E0 : XK := fun _ _ _ => False
theorem pass0 {X : Cx} : Passes CX0 X E0 := fun _ _ _ _ _ _ _ h => h.elim

/-! ### a def (or method) of the text as it stands behind the top -/
structure Fun (K : PySem.W.Frag) (x qual : Str) (st : Stmt) (f : Addr) (fd : FuncData) : Prop where
  ex : ∃ (oc : Value) (od : Option Addr) (kV doc pm : Value) (an : Option Addr) (cdv ct : Value) (osl : Array (Option Value)),
    fd = PySem.W.fnOf x qual (defArgs st) (defBody st) (defScope st) .none kV doc pm an cdv ct ∧ K.lookup f = some ⟨oc, od, .func fd, osl⟩ ∧ PySem.W.codeIn K cdv qual = true
  kp : PySem.W.keepIn K (.ref f) = true
section
variable {P : Program} {w : World} {K : PySem.W.Frag} {mg : Str → Option Value} {base : Heap}
/-- THE RULE for a def: its body as a term of rules, and the reading of that term -/
theorem Fun.ok {x qual : Str} {st : Stmt} {f : Addr} {fd : FuncData} {N ps : List Str} {k : Nat} {sp : Sp} (F : Fun K x qual st f fd) (S : FnScope N ps (defScope st)) (len : ∀ vs H Q E, sp vs H Q E → vs.length = ps.length)
    (hbody : ∀ (cdv : Value) (A : Around) (outer : List Env) (s : Shared) (H : Hp) (vs : List V) (Q : VK) (E : XK), Room k (A.deeper (envOfC qual (defScope st) s.heap.objs.size f cdv)) → sp vs H Q E →
      ∃ t, PSs (cxOf CX0 P w K mg base N qual (defScope st) f cdv A outer s H E).nox (defBody st) t ∧ t { nx := fun _ H' => Q .non H', rt := Q } (start N vs) H) : FnOk P w K mg base CX0 (k + 1) f fd ps sp := by
  obtain ⟨oc, od, kV, doc, pm, an, cdv, ct, osl, rfl, lk, hcd⟩ := F.ex
  refine fn_of lk hcd S len fun A outer s H vs Q E hr hsp => ?_
  obtain ⟨t, h, q⟩ := hbody cdv A outer s H vs Q E hr hsp
  exact ⟨t, h.nox, q⟩
/-- how its arguments bind (no defaults): h is «fun _ _ _ _ _ _ us hl => match us, hl with | [_, _], _ => rfl», one _ a parameter -/
theorem Fun.binds {x qual : Str} {st : Stmt} {f : Addr} {fd : FuncData} {ps : List Str} (F : Fun K x qual st f fd)
    (h : ∀ (kV doc pm : Value) (an : Option Addr) (cdv ct : Value) (us : List Value), us.length = ps.length → bindArgs (PySem.W.fnOf x qual (defArgs st) (defBody st) (defScope st) .none kV doc pm an cdv ct) ⟨us, []⟩ = pure (ps.zip us)) : Binds K fd ps [] := by
  obtain ⟨oc, od, kV, doc, pm, an, cdv, ct, osl, rfl, lk, hcd⟩ := F.ex
  exact .all (h kV doc pm an cdv ct)
theorem fun_mk {x qual : Str} {st : Stmt} {f : Addr} {oc : Value} {od an : Option Addr} {osl : Array (Option Value)} {kV doc pm cdv ct : Value} (l : K.lookup f = some ⟨oc, od, .func (PySem.W.fnOf x qual (defArgs st) (defBody st) (defScope st) .none kV doc pm an cdv ct), osl⟩)
    (c : PySem.W.codeIn K cdv qual = true) (k : PySem.W.keepIn K (.ref f) = true) : Fun K x qual st f (PySem.W.fnOf x qual (defArgs st) (defBody st) (defScope st) .none kV doc pm an cdv ct) := ⟨⟨oc, od, kV, doc, pm, an, cdv, ct, osl, rfl, l, c⟩, k⟩
end
theorem hu_of {A : Around} {k : Nat} (hr : Room k A) : A.units + 1 < cLine := Nat.lt_of_le_of_lt (Nat.add_le_add_left (by decide : 1 ≤ 64) _) hr.units
/-! ### expressions in short: the name that stands in the i-th slot -/
section
variable {X : Cx}
theorem pv (i : Nat) {x : Str} {pos : Pos} (hN : X.N[i]? = some x := by rfl) (hv : Vis X.env.scope x := by first | exact Or.inl rfl | exact Or.inr (Or.inl rfl) | exact Or.inr (Or.inr rfl)) (hd : (x == ("__debug__" : Str)) = false := by decide)
    (hcd : (x == ("__classdict__" : Str)) = false := by decide) : PE X (.Name x pos) (tVar i) := pe_var hN hv hd hcd
end

/-! ### tests -/
theorem iteF {A B : Prop} (h : B) : if false = true then A else B := by
  rw [if_neg Bool.false_ne_true]
  exact h
theorem iteT {A B : Prop} (h : A) : if true = true then A else B := by
  rw [if_pos rfl]
  exact h
theorem ite2 {c A B : Prop} [Decidable c] (h1 : c → A) (h2 : ¬ c → B) : if c then A else B := by
  by_cases h : c
  · rw [if_pos h]
    exact h1 h
  · rw [if_neg h]
    exact h2 h
/-! ### heaps -/
/-- all that was tracked is as it was -/
def Same (H H' : Hp) : Prop := ∀ b o, H b = some o → H' b = some o
theorem Same.refl (H : Hp) : Same H H := fun _ _ h => h
theorem Same.trans {H H1 H2 : Hp} (a : Same H H1) (b : Same H1 H2) : Same H H2 := fun c o h => b c o (a c o h)
theorem Same.free {H H' : Hp} (e : Same H H') {l : Addr} (h : H' l = Option.none) : H l = Option.none := by
  cases q : H l with
  | none => rfl
  | some o =>
    rw [e l o q] at h
    cases h
theorem Same.seq {K : PySem.W.Frag} {H H' : Hp} {a : Addr} {xs : List V} (e : Same H H') (h : SqL K H a xs) : SqL K H' a xs := by
  rcases h with (h | ⟨o, h⟩) | h
  · exact .inl (.inl (e _ _ h))
  · exact .inl (.inr ⟨o, e _ _ h⟩)
  · exact .inr h

end L2

namespace L2
open PySem PySem.Spec PyProof.Rows
section
variable {X : Cx}
/-- len of a dict -/
theorem call_lenD : CallR X (.builtin "len") (fun xs H Q => ∃ a kvs, xs = [V.ref a] ∧ H a = some (.dK kvs) ∧ Q (.int kvs.length) H) := by
  intro pins s σ H xs us Q I r h
  obtain ⟨a, kvs, rfl, ha, q⟩ := h
  obtain ⟨u, rfl, ru⟩ := vals1 r
  cases ru
  exact d_len I (.inl ha) fun t s' I' => ⟨.int kvs.length, H, I', ⟨t, rfl⟩, q⟩
end
/-! ### a dict's pairs: keys that differ -/
section
variable {κ : Type} [DecidableEq κ]
theorem valV_not {kvs : List (κ × V)} {k : κ} (h : valV kvs k = none) : ¬ k ∈ kvs.map (·.1) := by
  intro m
  obtain ⟨p, hp, e⟩ := List.mem_map.mp m
  have q : (kvs.any fun kv => decide (kv.1 = k)) = true := List.any_eq_true.mpr ⟨p, hp, decide_eq_true e⟩
  rw [valV_any, h] at q
  exact absurd q (by simp)
theorem valV_in {kvs : List (κ × V)} {k : κ} {v : V} (h : valV kvs k = some v) : k ∈ kvs.map (·.1) := by
  have q : (kvs.any fun kv => decide (kv.1 = k)) = true := by
    rw [valV_any, h]
    all_goals rfl
  obtain ⟨p, hp, e⟩ := List.any_eq_true.mp q
  exact List.mem_map.mpr ⟨p, hp, of_decide_eq_true e⟩
theorem nd_snoc : ∀ {l : List κ} {k : κ}, l.Nodup → ¬ k ∈ l → (l ++ [k]).Nodup
  | [], k, _, _ => by simp
  | a :: r, k, h, hk => by
    obtain ⟨h1, h2⟩ := List.nodup_cons.mp h
    show (a :: (r ++ [k])).Nodup
    refine List.nodup_cons.mpr ⟨fun m => ?_, nd_snoc h2 fun m => hk (List.mem_cons.mpr (Or.inr m))⟩
    rcases List.mem_append.mp m with q | q
    · exact h1 q
    · exact hk (List.mem_cons.mpr (Or.inl (List.mem_singleton.mp q).symm))
theorem nd_putK {kvs : List (κ × V)} {k : κ} (v : V) (hn : (kvs.map (·.1)).Nodup) (h : valV kvs k = none) : ((putK kvs k v).map (·.1)).Nodup := by
  rw [putK_new v h, List.map_append]
  exact nd_snoc hn (valV_not h)
theorem dropK_pos {p : κ × V} {r : List (κ × V)} {k : κ} (e : p.1 = k) : dropK (p :: r) k = dropK r k := by
  unfold dropK
  rw [List.filter_cons, if_neg (by simp [e])]
theorem dropK_neg {p : κ × V} {r : List (κ × V)} {k : κ} (e : ¬ p.1 = k) : dropK (p :: r) k = p :: dropK r k := by
  unfold dropK
  rw [List.filter_cons, if_pos (by simp [e])]
theorem dropK_no : ∀ {kvs : List (κ × V)} {k : κ}, ¬ k ∈ kvs.map (·.1) → dropK kvs k = kvs
  | [], _, _ => rfl
  | p :: r, k, h => by
    have h' : ¬ k ∈ r.map (·.1) := fun m => by
      obtain ⟨q, hq, e⟩ := List.mem_map.mp m
      exact h (List.mem_map.mpr ⟨q, List.mem_cons.mpr (Or.inr hq), e⟩)
    rw [dropK_neg fun e => h (List.mem_map.mpr ⟨p, List.mem_cons.mpr (Or.inl rfl), e⟩), dropK_no h']
theorem dropK_mem {kvs : List (κ × V)} {k : κ} {p : κ × V} (h : p ∈ dropK kvs k) : p ∈ kvs := (List.mem_filter.mp h).1
theorem nd_dropK : ∀ {kvs : List (κ × V)} {k : κ}, (kvs.map (·.1)).Nodup → ((dropK kvs k).map (·.1)).Nodup
  | [], _, _ => List.nodup_nil
  | p :: r, k, h => by
    have h : (p.1 :: r.map (·.1)).Nodup := h
    obtain ⟨h1, h2⟩ := List.nodup_cons.mp h
    by_cases e : p.1 = k
    · rw [dropK_pos e]
      exact nd_dropK h2
    · rw [dropK_neg e]
      show (p.1 :: (dropK r k).map (·.1)).Nodup
      refine List.nodup_cons.mpr ⟨fun m => h1 ?_, nd_dropK h2⟩
      obtain ⟨q, hq, eq⟩ := List.mem_map.mp m
      exact List.mem_map.mpr ⟨q, dropK_mem hq, eq⟩
theorem dropK_len : ∀ {kvs : List (κ × V)} {k : κ}, (kvs.map (·.1)).Nodup → k ∈ kvs.map (·.1) → (dropK kvs k).length + 1 = kvs.length
  | [], _, _, m => by simp at m
  | p :: r, k, h, m => by
    have h : (p.1 :: r.map (·.1)).Nodup := h
    have m : k = p.1 ∨ k ∈ r.map (·.1) := List.mem_cons.mp m
    obtain ⟨h1, h2⟩ := List.nodup_cons.mp h
    by_cases e : p.1 = k
    · subst e
      rw [dropK_pos rfl, dropK_no h1]
      all_goals rfl
    · have m' : k ∈ r.map (·.1) := m.resolve_left fun z => e z.symm
      have q := dropK_len h2 m'
      rw [dropK_neg e, List.length_cons, List.length_cons]
      omega
end

end L2

set_option Elab.async false
set_option linter.all false
set_option maxRecDepth 100000
set_option maxHeartbeats 4000000
namespace L2
open PySem PySem.Spec PyProof.Rows
section
variable {X : Cx}
/-- == of two tuples of flat values -/
def eqSeq (xs ys : List V) : Bool := (List.range (min xs.length ys.length)).all (fun j => eqV (xs.getD j .non) (ys.getD j .non)) && xs.length == ys.length
theorem getD_of {α : Type} {xs : List α} {d : α} {j : Nat} (h : j < xs.length) : xs.getD j d = xs[j] := by
  rw [List.getD_eq_getElem?_getD, List.getElem?_eq_getElem h]; rfl
theorem all_at {f : V → Bool} {xs : List V} (h : xs.all f = true) {j : Nat} (hj : j < xs.length) : f (xs.getD j .non) = true := by
  rw [getD_of hj]
  exact List.all_eq_true.mp h _ (List.getElem_mem hj)
theorem rel_at {xs : List V} {us : List Value} (r : Vals xs us) {j : Nat} (hj : j < us.toArray.size) : RelV (xs.getD j .non) (us.toArray[j]) := by
  have hl := r.length
  have hj' : j < us.length := by simpa using hj
  have hx : j < xs.length := by omega
  obtain ⟨u, h1, h2⟩ := r.get (i := j) (x := xs[j]) (List.getElem?_eq_getElem hx)
  rw [getD_of hx]
  have : us.toArray[j] = us[j] := by simp
  rw [this]
  rw [List.getElem?_eq_getElem hj'] at h1
  cases h1
  exact h2
def rEqT (K : PySem.W.Frag) : R2 := fun x y H Q => ∃ p q xs ys, x = .ref p ∧ y = .ref q ∧ SqT K H p xs ∧ SqT K H q ys ∧ xs.all flatV = true ∧ ys.all flatV = true ∧ Q (.bl (eqSeq xs ys)) H
def rNeT (K : PySem.W.Frag) : R2 := fun x y H Q => ∃ p q xs ys, x = .ref p ∧ y = .ref q ∧ SqT K H p xs ∧ SqT K H q ys ∧ xs.all flatV = true ∧ ys.all flatV = true ∧ Q (.bl (!eqSeq xs ys)) H
theorem op_eqT (hu : X.A.units < cLine) : OpR X (compareOp .Eq) (rEqT X.K) := by
  intro pins s σ H x y v u Q I rx ry h
  obtain ⟨p, q, xs, ys, rfl, rfl, h1, h2, f1, f2, k⟩ := h
  cases rx
  cases ry
  obtain ⟨us, r1, t1, z1⟩ := I.tuple h1
  obtain ⟨ws, r2, t2, z2⟩ := I.tuple h2
  refine SeqAt.eq_tupleAt (show s.heap.IsTuple p us.toArray from t1) (show s.heap.IsTuple q ws.toArray from t2) hu (fun j a b => ?_) (fin_bl I k ?_) (e := fun j => eqV (xs.getD j .non) (ys.getD j .non))
  · exact eqAt_V (rel_at r1 a) (rel_at r2 b) (all_at f1 (by have := r1.length; have := a; simp at this; omega)) (all_at f2 (by have := r2.length; have := b; simp at this; omega))
  · unfold eqSeq
    rw [List.size_toArray, List.size_toArray, r1.length, r2.length]
theorem op_neT (hu : X.A.units < cLine) : OpR X (compareOp .NotEq) (rNeT X.K) := by
  intro pins s σ H x y v u Q I rx ry h
  obtain ⟨p, q, xs, ys, rfl, rfl, h1, h2, f1, f2, k⟩ := h
  cases rx
  cases ry
  obtain ⟨us, r1, t1, z1⟩ := I.tuple h1
  obtain ⟨ws, r2, t2, z2⟩ := I.tuple h2
  refine PySem.W.cmp_ofNotEq (SeqAt.RcNeAt.tuples (e := fun j => eqV (xs.getD j .non) (ys.getD j .non)) (show s.heap.IsTuple p us.toArray from t1) (show s.heap.IsTuple q ws.toArray from t2) hu (fun j a b => ?_) X.prog X.w X.xe _ (fin_bl I k ?_))
  · exact eqAt_V (rel_at r1 a) (rel_at r2 b) (all_at f1 (by have := r1.length; have := a; simp at this; omega)) (all_at f2 (by have := r2.length; have := b; simp at this; omega))
  · unfold eqSeq
    rw [List.size_toArray, List.size_toArray, r1.length, r2.length]
end
end L2

set_option Elab.async false
set_option linter.all false
set_option maxRecDepth 100000
set_option maxHeartbeats 4000000
namespace L2
open PySem PySem.Spec PyProof.Rows
section
variable {X : Cx}
/-- isinstance(x, T), T a built-in -/
def rIsi (K : PySem.W.Frag) : List V → Hp → VK → Prop := fun xs H Q => ∃ x t T b, xs = [x, .ty T] ∧ TyOf K H x t ∧ PySem.W.kitOne K t (.type T) = some b ∧ Q (.bl b) H
theorem call_isi : CallR X (.builtin "isinstance") (rIsi X.K) := by
  intro pins s σ H xs us Q I r h
  obtain ⟨x, t, T, b, rfl, ty, e, q⟩ := h
  obtain ⟨u, w', rfl, rx, rt⟩ := vals2 r
  obtain rfl : w' = Value.type T := rt
  exact isinst_ok I rx ty e fun tk => ⟨.bl b, H, I.tok _, rfl, q⟩
example (K : PySem.W.Frag) : PySem.W.kitOne K (.type "int") (.type "bool") = some false := by rfl
example (K : PySem.W.Frag) : PySem.W.kitOne K (.type "tuple") (.type "tuple") = some true := by rfl
example (K : PySem.W.Frag) : PySem.W.kitOne K (.type "int") (.type "int") = some true := by rfl
end
/-- a def that may be called by its name -/
structure Cal (P : Program) (w : World) (K : PySem.W.Frag) (mg : Str → Option Value) (base : Heap) (x : Str) (ps : List Str) (k : Nat) (sp : Sp) : Prop where
  ex : ∃ f fd, FnOk P w K mg base CX0 k f fd ps sp ∧ mg x = some (.ref f) ∧ PySem.W.keepIn K (.ref f) = true ∧ Binds K fd ps []
structure FunAt (K : PySem.W.Frag) (mg : Str → Option Value) (x : Str) (ps : List Str) (st : Stmt) : Prop where
  ex : ∃ f fd, Fun K x x st f fd ∧ mg x = some (.ref f) ∧ Binds K fd ps []
theorem FunAt.cal {P : Program} {w : World} {K : PySem.W.Frag} {mg : Str → Option Value} {base : Heap} {x : Str} {ps N : List Str} {st : Stmt} {k : Nat} {sp : Sp} (F : FunAt K mg x ps st) (S : FnScope N ps (defScope st)) (len : ∀ vs H Q E, sp vs H Q E → vs.length = ps.length)
    (hbody : ∀ (f : Addr) (cdv : Value) (A : Around) (outer : List Env) (s : Shared) (H : Hp) (vs : List V) (Q : VK) (E : XK), Room k (A.deeper (envOfC x (defScope st) s.heap.objs.size f cdv)) → sp vs H Q E →
      ∃ t, PSs (cxOf CX0 P w K mg base N x (defScope st) f cdv A outer s H E).nox (defBody st) t ∧ t { nx := fun _ H' => Q .non H', rt := Q } (start N vs) H) : Cal P w K mg base x ps (k + 1) sp := by
  obtain ⟨f, fd, F1, m, b⟩ := F.ex
  exact ⟨f, fd, F1.ok S len (hbody f), m, F1.kp, b⟩
section
variable {X : Cx} {x : Str} {ps : List Str} {k : Nat} {sp : Sp} {e : Expr} {es : List Expr} {t : TA} {p pos : Pos}
theorem cc (c : Cal X.prog X.w X.K X.mg X.base x ps k sp) (hr : Room k X.A) (ha : PA X (e :: es) t) (hg : Gl X x := by rfl) (hd : (x == ("__debug__" : Str)) = false := by decide)
    (hs : starEach (e :: es) X.env = (false, eval e X.env) :: starEach es X.env := by rfl) (hp : (backTo pos (starEach es X.env)).any (·.1) = false := by rfl) : PE X (.Call (.Name x p) (e :: es) [] pos) (tCall sp [] E0 t) := by
  obtain ⟨f, fd, F, m, kp, b⟩ := c.ex
  exact pe_call F hr hg m kp b .nil pass0 ha hd hs hp
end
theorem funAt_mk {K : PySem.W.Frag} {h : Heap} {mg : Str → Option Value} {x : Str} {ps : List Str} {st : Stmt} {f : Addr} {oc : Value} {od an : Option Addr} {osl : Array (Option Value)} {kV doc pm cdv ct : Value} (X : K.In h) (G : h.Ns mainGlobals mg)
    (hb : ∀ (kV doc pm : Value) (an : Option Addr) (cdv ct : Value) (us : List Value), us.length = ps.length → bindArgs (PySem.W.fnOf x x (defArgs st) (defBody st) (defScope st) .none kV doc pm an cdv ct) ⟨us, []⟩ = pure (ps.zip us))
    (a : PySem.W.nsIn K mainGlobals x = some (some (.ref f))) (l : K.lookup f = some ⟨oc, od, .func (PySem.W.fnOf x x (defArgs st) (defBody st) (defScope st) .none kV doc pm an cdv ct), osl⟩)
    (c : PySem.W.codeIn K cdv x = true) (k : PySem.W.keepIn K (.ref f) = true) : FunAt K mg x ps st :=
  let F := fun_mk (st := st) l c k
  ⟨f, _, F, PySem.W.mg_of X G a, F.binds hb⟩

theorem bt_abs : bootBuiltins "abs" = some (.builtin "abs") := by decide +kernel
theorem bt_len : bootBuiltins "len" = some (.builtin "len") := by decide +kernel
theorem bt_isinstance : bootBuiltins "isinstance" = some (.builtin "isinstance") := by decide +kernel
theorem bt_int : bootBuiltins "int" = some (.type "int") := by decide +kernel
theorem bt_bool : bootBuiltins "bool" = some (.type "bool") := by decide +kernel
theorem bt_tuple : bootBuiltins "tuple" = some (.type "tuple") := by decide +kernel
theorem bt_list : bootBuiltins "list" = some (.type "list") := by decide +kernel
/-! ### shares in the heap -/
open MA
theorem same_new {H : Hp} {p : Addr} (h : H p = none) (o : HO) : Same H (upd H p o) := fun b u q => by rw [upd_ne (ne_of_none q h)]; exact q
/-- all but the thing at p is as it was -/
def penL (c : Addr) (a l : Int) : List (Key × V) := [(.inr "cells", .ref c), (.inr "at", .int a), (.inr "left", .int l)]
/-- .. and that thing is a pen that keeps its cells -/
structure SameX (p : Addr) (H H' : Hp) : Prop where
  all : ∀ b o, H b = some o → b ≠ p → H' b = some o
  pen : ∀ c a l, H p = some (.dK (penL c a l)) → ∃ a' l', H' p = some (.dK (penL c a' l'))
theorem SameX.trans {p : Addr} {H H1 H2 : Hp} (a : SameX p H H1) (b : SameX p H1 H2) : SameX p H H2 :=
  ⟨fun c o h n => b.all c o (a.all c o h n) n, fun c x l h => let ⟨x', l', h'⟩ := a.pen c x l h; b.pen c x' l' h'⟩
theorem Same.x {p : Addr} {H H' : Hp} (a : Same H H') : SameX p H H' := ⟨fun b o h _ => a b o h, fun _ x l h => ⟨x, l, a _ _ h⟩⟩
theorem SameX.upd {p c : Addr} {H : Hp} {a l a' l' : Int} (h : H p = some (.dK (penL c a l))) : SameX p H (upd H p (.dK (penL c a' l'))) :=
  ⟨fun b o e hb => by rw [upd_ne hb]; exact e, fun c' x y e => by rw [h] at e; cases e; exact ⟨a', l', upd_same⟩⟩
end L2

set_option Elab.async false
set_option linter.all false
set_option maxRecDepth 100000
set_option maxHeartbeats 4000000
namespace L2
open PySem PySem.Spec PyProof.Rows
/-! ### a list comprehension of one clause -/
theorem closure_go {env : Env} : ∀ (ns : List (Str × NameKind)) (cs : List (Str × Addr)), (∀ x ∈ ns, x.2 = .free → ∃ c, env.cells.lookup x.1 = some c) → (∀ x c, cs.lookup x = some c → env.cells.lookup x = some c) →
    ∃ cl, (forIn ns cs (fun (p : Str × NameKind) (r : List (Str × Addr)) => if (p.2 == NameKind.free) = true then (do let c ← cellOf env p.1; pure (ForInStep.yield ((p.1, c) :: r))) else pure (ForInStep.yield r)) : Sem (List (Str × Addr))) = pure cl ∧
      (∀ x c, cl.lookup x = some c → env.cells.lookup x = some c) ∧ (∀ x, (x, NameKind.free) ∈ ns → ∃ c, cl.lookup x = some c) ∧ (∀ x c, cs.lookup x = some c → ∃ c', cl.lookup x = some c')
  | [], cs, _, hcs => ⟨cs, rfl, hcs, fun _ h => (by simp at h), fun x c h => ⟨c, h⟩⟩
  | (n, k) :: r, cs, hall, hcs => by
    by_cases hk : k = .free
    · subst hk
      obtain ⟨c, hc⟩ := hall (n, .free) (by simp) rfl
      have hce : cellOf env n = pure c := by unfold cellOf; rw [hc]
      have hcs' : ∀ x d, ((n, c) :: cs).lookup x = some d → env.cells.lookup x = some d := fun x d h => by
        rw [List.lookup_cons] at h
        cases e : x == n with
        | true => rw [e] at h; cases h; rw [eq_of_beq e]; exact hc
        | false => rw [e] at h; exact hcs x d h
      obtain ⟨cl, e, h1, h2, h3⟩ := closure_go r ((n, c) :: cs) (fun x hx => hall x (by simp [hx])) hcs'
      refine ⟨cl, ?_, h1, fun x hx => ?_, fun x d hd => ?_⟩
      · rw [List.forIn_cons, ← e]
        show (cellOf env n >>= _) >>= _ = _
        rw [hce]
        rfl
      · rcases List.mem_cons.mp hx with z | z
        · cases z
          exact h3 n c (by simp)
        · exact h2 x z
      · cases q : x == n with
        | true => exact h3 x c (by rw [List.lookup_cons, q])
        | false => exact h3 x d (by rw [List.lookup_cons, q]; exact hd)
    · obtain ⟨cl, e, h1, h2, h3⟩ := closure_go r cs (fun x hx => hall x (by simp [hx])) hcs
      refine ⟨cl, ?_, h1, fun x hx => ?_, h3⟩
      · rw [List.forIn_cons, ← e]
        have : (k == NameKind.free) = false := by simpa using hk
        simp only [this, Bool.false_eq_true, if_false]
        rfl
      · rcases List.mem_cons.mp hx with z | z
        · cases z
          exact absurd rfl hk
        · exact h2 x z
theorem closure_of {env : Env} {scope : Scope} (hall : ∀ x ∈ scope.names, x.2 = .free → ∃ c, env.cells.lookup x.1 = some c) :
    ∃ cl, closureFor scope env = pure cl ∧ (∀ x c, cl.lookup x = some c → env.cells.lookup x = some c) ∧ (∀ x, (x, NameKind.free) ∈ scope.names → ∃ c, cl.lookup x = some c) := by
  obtain ⟨cl, e, h1, h2, _⟩ := closure_go (env := env) scope.names [] hall (fun x c h => by simp at h)
  refine ⟨cl, ?_, h1, h2⟩
  simp only [closureFor]
  rw [e]
  rfl
/-- the block of a comprehension -/
def cxComp (X : Cx) (scope : Scope) (N : List Str) (cl : List (Str × Addr)) (C : Addr) (s : Shared) (H : Hp) (ex : List Addr) : Cx :=
  { X with N := N, s₀ := s, H₀ := H, env := compEnvC scope cl C X.env, outer := X.stack, stack := X.stack, ex := ex, fn := fun _ => false, pn := [] }
def PTs (X : Cx) (ifs : List Expr) (t : TT) : Prop :=
  ∀ (pins : List (Addr × Obj)) (s : Shared) (σ : St) (H : Hp) (Q : Bool → Hp → Prop), Inv X pins σ H s → t σ H Q →
    wpAny (model X.prog X.w) X.A (forIn ifs true fun c r => if r = true then do let ok ← isTrue c X.env (eval c X.env); pure (ForInStep.yield ok) else pure (ForInStep.yield r)) (TP X pins σ Q) X.xe s
def tTT : TT := fun _ H Q => Q true H
theorem pts_nil {X : Cx} : PTs X [] tTT := fun pins s σ H Q I h => wpAny_tests_nil ⟨H, I, h⟩
theorem pts_one {X : Cx} {c : Expr} {t : TT} (h : PT X c t) : PTs X [c] t := fun pins s σ H Q I hw => wpAny_tests_one (h pins s σ H Q I hw)
def tComp (σ0 : St → St) (wi : TI) (g : TG) (tc : TT) (te : TE) : TE := fun σ H Q => wi σ H fun J H1 => ∀ p, H1 p = none → ∃ W : Nat → Nat → List V → St → Hp → Prop, (∃ m, W 0 m [] (σ0 σ) (upd H1 p (.lst []))) ∧ ∀ i m ys σ' H', W i m ys σ' H' →
  (J.stop i H' ∧ Q (.ref p) H') ∨ (J.go i H' ∧ ∀ x H2, J.yld i H' x H2 → g x σ' H2 fun σ2 H3 => tc σ2 H3 fun b H4 => if b = true then te σ2 H4 fun v H5 => ys.length < sizeLine ∧ H5 p = some (.lst ys) ∧ (∃ m', m' < m ∧ W (i + 1) m' (ys ++ [v]) σ2 (upd H5 p (.lst (ys ++ [v]))))
    else ∃ m', m' < m ∧ W (i + 1) m' ys σ2 H4)
/-- which of the def's values the block sees -/
def Sees (X : Cx) (scope : Scope) (N : List Str) (σ0 : St → St) : Prop :=
  ∀ σ : St, (σ0 σ).length = N.length ∧ ∀ (i : Nat) (x : Str) (v : V), N[i]? = some x → (σ0 σ)[i]? = some (some v) → scope.names.lookup x = some .free ∧ ∃ j : Nat, X.N[j]? = some x ∧ σ[j]? = some (some v)
theorem lookup_relabel_mem {env : Env} {names : List (Str × NameKind)} {x : Str} : ∀ {k}, (names.map fun (n, k) => if (k == NameKind.free && env.scope.kind == .function && env.kindOf n == some .cell) = true then (n, NameKind.cell) else (n, k)).lookup x = some k → (x, k) ∈ names ∨ (k = .cell ∧ (x, NameKind.free) ∈ names) := by
  induction names with
  | nil => intro k h; simp at h
  | cons a r ih =>
    intro k h
    obtain ⟨n, k0⟩ := a
    rw [List.map_cons] at h
    dsimp only at h
    by_cases hc : (k0 == NameKind.free && env.scope.kind == .function && env.kindOf n == some .cell) = true
    · rw [if_pos hc] at h
      have hk0 : k0 = .free := by
        simp only [Bool.and_eq_true, beq_iff_eq] at hc
        exact hc.1.1
      rw [List.lookup_cons] at h
      cases e : x == n with
      | true =>
        rw [e] at h
        cases h
        exact .inr ⟨rfl, by rw [eq_of_beq e, hk0]; simp⟩
      | false =>
        rw [e] at h
        rcases ih h with z | ⟨z1, z2⟩
        · exact .inl (List.mem_cons_of_mem _ z)
        · exact .inr ⟨z1, List.mem_cons_of_mem _ z2⟩
    · rw [if_neg hc] at h
      rw [List.lookup_cons] at h
      cases e : x == n with
      | true =>
        rw [e] at h
        cases h
        exact .inl (by rw [eq_of_beq e]; simp)
      | false =>
        rw [e] at h
        rcases ih h with z | ⟨z1, z2⟩
        · exact .inl (List.mem_cons_of_mem _ z)
        · exact .inr ⟨z1, List.mem_cons_of_mem _ z2⟩
theorem lookup_relabel_free {env : Env} {x : Str} : ∀ {names : List (Str × NameKind)}, names.lookup x = some .free →
    (names.map fun (n, k) => if (k == NameKind.free && env.scope.kind == .function && env.kindOf n == some .cell) = true then (n, NameKind.cell) else (n, k)).lookup x = some .cell ∨ (names.map fun (n, k) => if (k == NameKind.free && env.scope.kind == .function && env.kindOf n == some .cell) = true then (n, NameKind.cell) else (n, k)).lookup x = some .free
  | [], h => by simp at h
  | (n, k0) :: r, h => by
    rw [List.lookup_cons] at h
    rw [List.map_cons]
    dsimp only
    cases e : x == n with
    | true =>
      rw [e] at h
      cases h
      by_cases hc : (NameKind.free == NameKind.free && env.scope.kind == .function && env.kindOf n == some .cell) = true
      · rw [if_pos hc]; left; rw [List.lookup_cons, e]
      · rw [if_neg hc]; right; rw [List.lookup_cons, e]
    | false =>
      rw [e] at h
      have ih := lookup_relabel_free (env := env) h
      by_cases hc : (k0 == NameKind.free && env.scope.kind == .function && env.kindOf n == some .cell) = true
      · rw [if_pos hc, List.lookup_cons, e]; exact ih
      · rw [if_neg hc, List.lookup_cons, e]; exact ih
theorem mem_of_lookupF {x : Str} {k : NameKind} : ∀ {names : List (Str × NameKind)}, names.lookup x = some k → (x, k) ∈ names := fun h => PySem.mem_of_lookup h
theorem pe_comp {X : Cx} {elt tg iter : Expr} {ifs : List Expr} {scope : Scope} {pos : Pos} {wi : TI} {g : TG} {tc : TT} {te : TE} {N : List Str} {σ0 : St → St}
    (hc : X.calm = true) (hxe : ∀ e s, X.xe e s → False) (hcell : ∀ y ∈ scope.names, y.2 ≠ .cell) (hkind : scope.kind = .function) (hnames : ∀ y ∈ scope.names, y.2 = .local → scope.names.lookup y.1 = some .local)
    (hfr : ∀ y ∈ scope.names, y.2 = .free → X.env.kindOf y.1 = some .cell ∨ X.env.kindOf y.1 = some .free) (hσ : Sees X scope N σ0)
    (hi : PI X tg iter wi)
    (hg : ∀ cl C s H ex, PG (cxComp X scope N cl C s H ex) tg g) (ht : ∀ cl C s H ex, PTs (cxComp X scope N cl C s H ex) ifs tc) (he : ∀ cl C s H ex, PE (cxComp X scope N cl C s H ex) elt te)
    (hs : ∀ x, foldedSetIterable iter X.env x = pure x := by intro _; rfl) : PE X (.ListComp elt [⟨tg, iter, ifs, 0⟩] scope pos) (tComp σ0 wi g tc te) := by
  intro pins s σ H Q I h
  obtain ⟨cl, hclos, hcl1, hcl2⟩ := closure_of (env := X.env) (scope := scope) fun y hy hf => I.ok.has y.1 (hfr y hy hf)
  rw [eval_ListComp]
  refine wpAny_comprehension_free (use := none) rfl hs hclos hkind hnames (thn (hi pins s σ H _ I h) fun v s1 h1 => thn h1 fun itv s2 h2 => ?_)
  obtain ⟨it, fp, tn, J, H2, e, I2, T, st2, f2, h3⟩ := h2
  subst e
  have hpn : H2 s2.heap.objs.size = none := I2.hok.fresh (Nat.le_refl _)
  obtain ⟨W, ⟨m0, w0⟩, turn⟩ := h3 _ hpn
  refine wpAny_newObj_type ?_
  generalize hp : s2.heap.objs.size = p at *
  have I3 : Inv X pins σ (upd H2 p (.lst [])) { s2 with heap := s2.heap.push { cls := .type "list", dict := none, data := .seq ([] : List Value).toArray } } := by
    refine I2.laid (a := p) (o := .lst []) (t' := s2.toks) (fun b u q => Heap.get?_push_of_some _ q) (Nat.le_of_eq hp) ⟨Nat.zero_le _, [], 0, .nil, ?_⟩
    rw [← hp]
    exact Heap.get?_push_size _ rfl
  have hf3 : ∀ b ∈ fp, FpOk X pins (upd H2 p (.lst [])) b := fun b hb => by
    obtain ⟨o, ho, _⟩ := T.obj _ _ st2 b hb
    have : b ≠ p := by rw [← hp]; exact Nat.ne_of_lt (Heap.lt_size ho)
    exact ⟨by rw [upd_ne this]; exact (f2 b hb).1, (f2 b hb).2⟩
  generalize hs3 : ({ s2 with heap := s2.heap.push { cls := .type "list", dict := none, data := .seq ([] : List Value).toArray } } : Shared) = s3 at *
  have st3 : tn 0 s3.heap := by rw [← hs3]; exact T.keep _ _ _ st2 fun b _ o e => Heap.get?_push_of_some _ e
  generalize hH3 : upd H2 p (.lst []) = H3 at *
  refine wpAny_newFunctionEnv hcell (by intro y hy; simp at hy) (fun h1 hns1 hsb1 => ?_) hkind
  generalize hC : s3.heap.objs.size = C at *
  have keep : ∀ b u, s3.heap.get? b = some u → h1.get? b = some u := fun b u q =>
    hsb1.extBut b u (by rw [← hC]; exact Nat.ne_of_lt (Heap.lt_size q)) (Heap.get?_push_of_some _ q)
  have fpC : ∀ b ∈ fp, b ≠ C := fun b hb => by
    obtain ⟨o, ho, _⟩ := T.obj _ _ st3 b hb
    rw [← hC]; exact Nat.ne_of_lt (Heap.lt_size ho)
  have hCn : H3 C = none := I3.hok.fresh (Nat.le_of_eq hC)
  -- the block's own invariant, at its entry
  have ok' : (cxComp X scope N cl C s3 H3 fp).Ok := by
    refine ⟨I3.mod, hkind, I3.ok.glob, I3.ok.blt, Nat.le_of_eq hC, fun x y c a b => I3.ok.inj x y c (hcl1 x c a) (hcl1 y c b), fun x hx => ?_, fun _ _ z => Bool.noConfusion (show false = true from z), I3.ok.hd, I3.ok.frames, .inl rfl, fun b hb => ⟨fpC b hb, fun x c q => (hf3 b hb).2.2.2.2.1 x c (hcl1 x c q)⟩,
      I3.bs, Nat.le_trans I3.ok.bsz I3.sz, fun b o e hb => ?_, fun b hb z => ?_, I3.stack, I3.stkFree⟩
    · have hx' : (relabel scope X.env).names.lookup x = some .cell ∨ (relabel scope X.env).names.lookup x = some .free := hx
      rcases hx' with z | z
      · rcases lookup_relabel_mem z with y | ⟨_, y⟩
        · exact absurd rfl (hcell _ y)
        · exact hcl2 x y
      · rcases lookup_relabel_mem z with y | ⟨y, _⟩
        · exact hcl2 x y
        · cases y
    · rcases (hf3 b hb).2.2.2.1 with z | z
      · exact I3.ok.noex b o e z
      · exact absurd (Nat.lt_of_lt_of_le (Heap.lt_size e) (Nat.le_trans I3.ok.bsz z)) (Nat.lt_irrefl _)
    · rcases List.mem_cons.mp (I3.stkSub b z) with q | q
      · exact (hf3 b hb).2.1 q
      · exact (hf3 b hb).2.2.1 q
  have J0 : Inv (cxComp X scope N cl C s3 H3 fp) [] (σ0 σ) H3 { s3 with heap := h1, toks := s3.toks + ([] : List (Str × Value)).length } := by
    refine ⟨ok', rfl, I3.bare, Un.kept keep, ⟨_, hns1, fun i x v a b c => ?_⟩, fun x c q => ?_, hCn, fun x c q => I3.freeC x c (hcl1 x c q), fun q hq => absurd (show q ∈ ([] : List (Addr × Obj)) from hq) (by simp), I3.hok.kept keep, (hσ σ).1⟩
    · obtain ⟨hf, j, hj, hv⟩ := (hσ σ).2 i x v a b
      have hm := mem_of_lookupF hf
      obtain ⟨m, hn, hl⟩ := id I3.loc
      have hk := hfr _ hm rfl
      have hvis : Vis X.env.scope x := hk.elim (fun z => .inr (.inl z)) fun z => .inr (.inr z)
      obtain ⟨u, r, lk⟩ := hl j x v hj hv hvis
      refine ⟨u, r, .inr ⟨lookup_relabel_free hf, ?_⟩⟩
      obtain ⟨c', hc'⟩ := hcl2 x hm
      refine ⟨c', hc', ?_⟩
      have hx := hcl1 x c' hc'
      rcases lk with ⟨kl, _⟩ | ⟨_, c2, e2, o2, ho2, hd2⟩
      · rcases hk with z | z <;> rw [kl] at z <;> cases z
      · rw [hx] at e2
        cases e2
        exact ⟨o2, keep _ _ ho2, hd2⟩
    · obtain ⟨v, o, ho, hd⟩ := I3.cell x c (hcl1 x c q)
      exact ⟨v, o, keep _ _ ho, hd⟩
  have st4 : tn 0 h1 := T.keep _ _ _ st3 fun b _ o e => keep b o e
  have stat : ∀ {H' : Hp}, (∀ b ∈ fp, H' b = none) → ∀ b ∈ fp, FpOk (cxComp X scope N cl C s3 H3 fp) [] H' b := fun hn b hb =>
    ⟨hn b hb, fpC b hb, fun z => ok'.exfs b hb z, .inl hb, fun x c q => (hf3 b hb).2.2.2.2.1 x c (hcl1 x c q), fun q hq => absurd (show q ∈ ([] : List (Addr × Obj)) from hq) (by simp)⟩
  -- back to the def
  have back : ∀ {σ' : St} {H' : Hp} {s' : Shared} {pl : List (Addr × Obj)}, Inv (cxComp X scope N cl C s3 H3 fp) pl σ' H' s' → ∀ h', Heap.SameBut C s'.heap h' → Inv X pins σ H' { s' with heap := h' } := fun {σ' H' s' pl} J h' hsb => by
    have I5 : Inv X pins σ H' s' := Inv.call' (ch := fp) I3 J.os J.base J.hok J.bare fun b hb => ⟨(hf3 b hb).2.2.2.1, (hf3 b hb).2.1, (hf3 b hb).2.2.2.2.1, (hf3 b hb).2.2.2.2.2⟩
    refine Inv.turned (it := C) (t' := s'.toks) I5 (fun b o hb e => hsb.extBut b o hb e) J.free (fun z => ?_) (.inr ?_) (fun x c q z => ?_) fun q hq z => ?_
    · exact absurd (show X.env.locals < C by rw [← hC]; exact I3.lt) (by rw [z]; exact Nat.lt_irrefl _)
    · rw [← hC]; exact I3.sz
    · obtain ⟨v, o, ho, _⟩ := I3.cell x c q
      have := Heap.lt_size ho
      rw [z, hC] at this
      exact Nat.lt_irrefl _ this
    · have := Heap.lt_size (I3.pin q hq).1
      rw [z, hC] at this
      exact Nat.lt_irrefl _ this
  have loop : codeAny (model X.prog X.w) X.A (.compLoop (.ListComp elt [⟨tg, iter, ifs, 0⟩] scope pos) 0 (.ref it) (.ref p) (compEnvC scope cl C X.env)) (compPost (model X.prog X.w) X.A X.xe none (EP X pins σ Q) (.ref p) C) { s3 with heap := h1, toks := s3.toks + ([] : List (Str × Value)).length } := by
    refine codeAny_loop rfl (fun n s' => ∃ i ys σ' H', Inv (cxComp X scope N cl C s3 H3 fp) [] σ' H' s' ∧ tn i s'.heap ∧ (∀ b ∈ fp, H' b = none) ∧ W i n ys σ' H') (fun n s' hI => ?_) m0 ⟨0, [], σ0 σ, H3, J0, st4, fun b hb => (hf3 b hb).1, w0⟩
    obtain ⟨i, ys, σ', H', J', st', fr', w'⟩ := hI
    show wpAny _ X.A ((compTurn (.ListComp elt [⟨tg, iter, ifs, 0⟩] scope pos) 0 (.ref it) (.ref p) (compEnvC scope cl C X.env)).onRaise (fun x => do noteFrame x (compEnvC scope cl C X.env); theTreesLotGoes x)) _ _ s'
    refine wpAny_noted ?_
    rw [compTurn_list]
    rcases turn i n ys σ' H' w' with ⟨stop, q⟩ | ⟨go, step⟩
    · refine wpAny_bind (wpAny_standAt (wpAny_bind (wpAny_mono (T.done (cxComp X scope N cl C s3 H3 fp) rfl rfl rfl hc i [] s' σ' H' X.xe J' (stat fr') st' stop) (fun r s4 h4 => ?_) fun _ _ x => (hxe _ _ x).elim)))
      obtain ⟨hr, I4⟩ := h4
      subst hr
      refine wpAny_pure ?_
      obtain ⟨m, hn, _⟩ := id I4.loc
      exact ⟨m, hn, fun h' hsb => ⟨.ref p, H', back I4 h' hsb, rfl, q⟩⟩
    · refine wpAny_bind (wpAny_standAt (wpAny_bind (wpAny_mono (T.item (cxComp X scope N cl C s3 H3 fp) rfl rfl rfl hc i [] s' σ' H' X.xe J' (stat fr') st' go) (fun r s4 h4 => ?_) fun _ _ x => (hxe _ _ x).elim)))
      obtain ⟨u, hr, h4⟩ := h4
      subst hr
      refine wpAny_bind (wpAny_mono h4 (fun _ s5 h5 => ?_) fun _ _ x => (hxe _ _ x).elim)
      obtain ⟨x, H5, I5, r5, y5, st5, fr5⟩ := h5
      have I5' := I5.pinned (stat fr5) (T.obj _ _ st5)
      refine wpAny_bind (wpAny_mono (hg cl C s3 H3 fp _ s5 σ' H5 x u _ I5' r5 (step x H5 y5)) (fun _ s6 h6 => ?_) fun _ _ x => (hxe _ _ x).elim)
      obtain ⟨σ6, H6, I6, q6⟩ := h6
      have again : ∀ {σ7 : St} {H7 : Hp} {s7 : Shared} {ys7 : List V}, Inv (cxComp X scope N cl C s3 H3 fp) ([] ++ pinsAt fp s5.heap) σ7 H7 s7 → (∃ m', m' < n ∧ W (i + 1) m' ys7 σ7 H7) →
          ∃ m, m < n ∧ ∃ i ys σ' H', Inv (cxComp X scope N cl C s3 H3 fp) [] σ' H' s7 ∧ tn i s7.heap ∧ (∀ b ∈ fp, H' b = none) ∧ W i m ys σ' H' := fun {σ7 H7 s7 ys7} I7 n7 => by
        obtain ⟨m', hm, w7⟩ := n7
        refine ⟨m', hm, i + 1, ys7, σ7, H7, I7.unpinned, T.keep _ _ _ st5 fun b hb o e => (I7.pin (b, o) (List.mem_append_right _ (List.mem_append_right _ (mem_pinsAt hb e)))).1, fun b hb => ?_, w7⟩
        obtain ⟨o, e, d⟩ := T.obj _ _ st5 b hb
        exact (I7.pin (b, o) (List.mem_append_right _ (List.mem_append_right _ (mem_pinsAt hb e)))).2.1
      refine wpAny_bind (wpAny_mono (ht cl C s3 H3 fp _ s6 σ6 H6 _ I6 q6) (fun ok s7 h7 => ?_) fun _ _ x => (hxe _ _ x).elim)
      obtain ⟨H7, I7, q7⟩ := h7
      cases ok with
      | false =>
        rw [if_neg Bool.false_ne_true] at q7
        exact wpAny_pure ⟨rfl, again I7 q7⟩
      | true =>
        rw [if_pos rfl] at q7
        refine wpAny_bind (wpAny_bind (wpAny_mono (he cl C s3 H3 fp _ s7 σ6 H7 _ I7 q7) (fun y s8 h8 => ?_) fun _ _ x => (hxe _ _ x).elim))
        obtain ⟨v, H8, I8, r8, hz, hH8, w8⟩ := h8
        refine wpAny_bind (wpAny_mono (mt_append (X := cxComp X scope N cl C s3 H3 fp) _ s8 σ6 H8 (.ref p) [v] (.ref p) [y] (fun x H9 => x = .non ∧ H9 = upd H8 p (.lst (ys ++ [v]))) I8 rfl (.cons r8 .nil) ⟨p, ys, v, rfl, rfl, hH8, hz, rfl, rfl⟩) (fun _ s9 h9 => ?_) fun _ _ x => (hxe _ _ x).elim)
        obtain ⟨z, H9, I9, _, _, e9⟩ := h9
        subst e9
        exact wpAny_pure (wpAny_pure ⟨rfl, again I9 w8⟩)
  exact codeAny_compStart_list loop (T.self X.A 0 _ _ _ st4 loop)
end L2
namespace L2
open PySem PySem.Spec PyProof.Rows
theorem bt_all : bootBuiltins "all" = some (.builtin "all") := by decide +kernel
theorem range_all (bs : List Bool) (n : Nat) (h : bs.length = n) : (List.range n).all (fun i => bs.getD i false) = bs.all id := by
  subst h
  rw [Bool.eq_iff_iff, List.all_eq_true, List.all_eq_true]
  constructor
  · intro h x hx
    obtain ⟨i, hi, e⟩ := List.mem_iff_getElem.mp hx
    have := h i (by simpa using hi)
    rw [getD_of hi, e] at this
    exact this
  · intro h i hi
    have hi' : i < bs.length := by simpa using hi
    rw [getD_of hi']
    exact h _ (List.getElem_mem hi')
section
variable {X : Cx}
/-- all(xs), xs a list of truths -/
def rAll : List V → Hp → VK → Prop := fun xs H Q => ∃ (l : Addr) (bs : List Bool), xs = [.ref l] ∧ H l = some (.lst (bs.map V.bl)) ∧ Q (.bl (bs.all id)) H
theorem call_all (hc : X.calm = true) : CallR X (.builtin "all") rAll := by
  intro pins s σ H xs us Q I r h
  obtain ⟨l, bs, rfl, hl, q⟩ := h
  obtain ⟨u, rfl, ru⟩ := vals1 r
  cases ru
  obtain ⟨its, rv, p, hz⟩ := I.list (SqL.of hl)
  have hlt : l < s.heap.objs.size := I.hok.lt hl
  have hlen : bs.length = its.length := by have := rv.length; rwa [List.length_map] at this
  refine call_all_walk (wpAny_pyIter_list p.isList ?_)
  refine ⟨s.heap.objs.size, _, _, _, _, _, fun i => bs.getD i false, rfl, Walks.list (A := X.A.in1) (show X.A.in1.handled = none from I.ok.hd hc) s.heap.objs.size l (Nat.ne_of_lt hlt) its.toArray, ⟨⟨_, Heap.get?_push_size _ rfl, rfl, rfl⟩, ?_⟩, ?_, fun h' tk hk => ?_⟩
  · exact p.isList.at fun o e => Heap.get?_push_of_some _ e
  · intro i v s' Q' E' hv hQ
    have hi : i < its.length := by
      have := (Array.getElem?_eq_some_iff.mp hv).1
      simpa using this
    have hb : (bs.map V.bl)[i]? = some (.bl (bs.getD i false)) := by
      rw [List.getElem?_map, List.getElem?_eq_getElem (by omega), getD_of (by omega)]; rfl
    obtain ⟨u, hu, ru⟩ := rv.get hb
    have : v = u := by
      rw [List.getElem?_toArray, hu] at hv
      exact (Option.some.inj hv).symm
    subst this
    obtain rfl : v = Value.bool (bs.getD i false) := ru
    exact wpAny_pure hQ
  · refine ⟨.bl (bs.all id), H, I.kept (t' := tk) fun b o e => hk b o ?_ (Heap.get?_push_of_some _ e), ?_, q⟩
    · intro z
      have : b = s.heap.objs.size := by simpa using z
      subst this
      exact Nat.lt_irrefl _ (Heap.lt_size e)
    · show Value.bool _ = Value.bool _
      rw [range_all bs its.toArray.size (by simpa using hlen)]
end
end L2

set_option Elab.async false
set_option linter.all false
set_option maxRecDepth 100000
set_option maxHeartbeats 4000000
namespace L2
open PySem PySem.Spec PyProof.Rows
section
variable {X : Cx}
end
end L2
namespace L2
open MA
end L2
namespace My
open PySem L2 MA
section
variable {P : Program} {w : World} {K : PySem.W.Frag} {mg : Str → Option Value} {base : Heap}
structure Txt (mg : Str → Option Value) : Prop where
  z_abs : mg "abs" = none
  z_len : mg "len" = none
  z_isinstance : mg "isinstance" = none
  z_range : mg "range" = none
  z_int : mg "int" = none
  z_bool : mg "bool" = none
  z_tuple : mg "tuple" = none
  z_list : mg "list" = none
  z_all : mg "all" = none
/-- of a whole number -/
def spWhole : Sp := fun vs H Q _ => ∃ a : Int, vs = [.int a] ∧ Q (.bl true) H
theorem Paired.at' {α β : Type} {R : α → β → Prop} : ∀ {xs : List α} {ys : List β} {i : Nat} {x : α}, Paired R xs ys → xs[i]? = some x → ∃ y, ys[i]? = some y ∧ R x y
  | _, _, _, _, .nil, e => by simp at e
  | _, _, 0, _, .cons r _, e => by simp at e; subst e; exact ⟨_, rfl, r⟩
  | _, _, i + 1, x, .cons _ t, e => by
    obtain ⟨u, h1, h2⟩ := Paired.at' (i := i) (x := x) t (by simpa using e)
    exact ⟨u, by simpa using h1, h2⟩
/-- the pen: where it stands in the script, n draws at most so far -/
def Pen (H : Hp) (p : Addr) (n : Nat) : Prop := ∃ (c : Addr) (ns : List Int) (a l : Int), H p = some (.dK (penL c a l)) ∧ H c = some (.lst (ns.map V.int)) ∧ 0 ≤ a ∧ a ≤ n
theorem Pen.mono {H : Hp} {p : Addr} {m n : Nat} (h : Pen H p m) (l : m ≤ n) : Pen H p n := let ⟨c, ns, a, x, h1, h2, h3, h4⟩ := h; ⟨c, ns, a, x, h1, h2, h3, by omega⟩
theorem Pen.same {H H' : Hp} {p : Addr} {n : Nat} (h : Pen H p n) (s : Same H H') : Pen H' p n := let ⟨c, ns, a, x, h1, h2, h3, h4⟩ := h; ⟨c, ns, a, x, s _ _ h1, s _ _ h2, h3, h4⟩
theorem Pen.dk {H : Hp} {p : Addr} {n : Nat} (h : Pen H p n) : ∃ kvs, H p = some (.dK kvs) := let ⟨c, ns, a, x, h1, _⟩ := h; ⟨_, h1⟩
theorem pen_cells (c : Addr) (a l : Int) : valV (penL c a l) (.inr "cells" : Key) = some (.ref c) := by rfl

theorem pen_at (c : Addr) (a l : Int) : valV (penL c a l) (.inr "at" : Key) = some (.int a) := by rfl
theorem pen_left (c : Addr) (a l : Int) : valV (penL c a l) (.inr "left" : Key) = some (.int l) := by rfl
theorem put_at (c : Addr) (a l b : Int) : putK (penL c a l) (.inr "at" : Key) (.int b) = penL c b l := by rfl
theorem put_left (c : Addr) (a l b : Int) : putK (penL c a l) (.inr "left" : Key) (.int b) = penL c a b := by rfl
theorem get_cells {H : Hp} {p c : Addr} {a l : Int} (h : H p = some (.dK (penL c a l))) : DGet H p (.str "cells") (some (.ref c)) := by
  have := DGet.k (k := (.inr "cells" : Key)) h; rw [pen_cells] at this; exact this
theorem get_at {H : Hp} {p c : Addr} {a l : Int} (h : H p = some (.dK (penL c a l))) : DGet H p (.str "at") (some (.int a)) := by
  have := DGet.k (k := (.inr "at" : Key)) h; rw [pen_at] at this; exact this
theorem get_left {H : Hp} {p c : Addr} {a l : Int} (h : H p = some (.dK (penL c a l))) : DGet H p (.str "left") (some (.int l)) := by
  have := DGet.k (k := (.inr "left" : Key)) h; rw [pen_left] at this; exact this
theorem dput_at {H : Hp} {p c : Addr} {a l b : Int} (h : H p = some (.dK (penL c a l))) : DPut H p (.str "at") (.int b) (upd H p (.dK (penL c b l))) := by
  have := DPut.k (k := (.inr "at" : Key)) (v := .int b) h (by show 3 < sizeLine; decide); rw [put_at] at this; exact this
theorem dput_left {H : Hp} {p c : Addr} {a l b : Int} (h : H p = some (.dK (penL c a l))) : DPut H p (.str "left") (.int b) (upd H p (.dK (penL c a b))) := by
  have := DPut.k (k := (.inr "left" : Key)) (v := .int b) h (by show 3 < sizeLine; decide); rw [put_left] at this; exact this
theorem prime_at (a : Int) : ∃ pr : Int, 0 < pr ∧ pr < 2147483648 ∧ atI ([.int 2147483647, .int 2147483629, .int 2147483587, .int 2147483579, .int 2147483563, .int 2147483549, .int 2147483543] : List V) (a % 7) = some (.int pr) := by
  have h : a % 7 = 0 ∨ a % 7 = 1 ∨ a % 7 = 2 ∨ a % 7 = 3 ∨ a % 7 = 4 ∨ a % 7 = 5 ∨ a % 7 = 6 := by omega
  rcases h with e | e | e | e | e | e | e <;> rw [e] <;> exact ⟨_, by decide, by decide, rfl⟩
theorem sq_bound {a : Int} (h0 : 0 ≤ a) (h1 : a ≤ 100000) : 0 ≤ 75329 * a * a ∧ 75329 * a * a ≤ 753290000000000 := by
  have h2 : 0 ≤ 75329 * a := by omega
  refine ⟨Int.mul_nonneg h2 h0, ?_⟩
  have := Int.mul_le_mul (show 75329 * a ≤ 7532900000 by omega) h1 h0 (by decide)
  omega
theorem cell_at {ns : List Int} (a : Int) (h : 0 < ns.length) : ∃ z : Int, atI (ns.map V.int) (a % (((ns.map V.int).length : Nat) : Int)) = some (.int z) := by
  rw [List.length_map]
  have h0 := Int.emod_nonneg a (show ((ns.length : Nat) : Int) ≠ 0 by omega)
  have h1 := Int.emod_lt_of_pos a (show 0 < ((ns.length : Nat) : Int) by omega)
  have hk : (a % (ns.length : Int)).toNat < ns.length := by omega
  have ek : a % (ns.length : Int) = (((a % (ns.length : Int)).toNat : Nat) : Int) := by omega
  refine ⟨ns[(a % (ns.length : Int)).toNat], ?_⟩
  have q : atI (ns.map V.int) (((a % (ns.length : Int)).toNat : Nat) : Int) = some (.int ns[(a % (ns.length : Int)).toNat]) := atI_nat (by rw [List.getElem?_map, List.getElem?_eq_getElem hk] <;> rfl)
  rw [← ek] at q
  exact q
/-- the last rows of a draw, as they are read -/
abbrev tTail (K : PySem.W.Frag) : TS := tSeq (tAsg (tOp (rIxT K) (tTup (tCons (tC (.int 2147483647)) (tCons (tC (.int 2147483629)) (tCons (tC (.int 2147483587)) (tCons (tC (.int 2147483579)) (tCons (tC (.int 2147483563)) (tCons (tC (.int 2147483549)) (tCons (tC (.int 2147483543)) tNil))))))))
    (tOp (rI (fun _ j => 0 < j) fun i j => .int (i % j)) (tVar 2) (tC (.int 7)))) (gName 4))
  (tSeq (tAsg (tOp (rI (fun _ j => 0 < j) fun i j => .int (i % j)) (tOp (rI CPow fun i j => .int (i ^ j.toNat)) (tOp (rI0 fun i j => .int (i + j)) (tOp (rI0 fun i j => .int (i + j)) (tOp (rI0 fun i j => .int (i + j)) (tOp (rI (fun _ j => 0 < j) fun i j => .int (i % j)) (tVar 3) (tC (.int 2147483497)))
      (tOp (rI CMul fun i j => .int (i * j)) (tOp (rI CMul fun i j => .int (i * j)) (tC (.int 75329)) (tVar 2)) (tVar 2))) (tOp (rI CMul fun i j => .int (i * j)) (tC (.int 30011)) (tVar 2))) (tC (.int 271))) (tC (.int 3))) (tVar 4)) (gName 5))
  (tSeq (tAsg (tOp (rI (fun _ j => 0 < j) fun i j => .int (i % j)) (tOp (rI CPow fun i j => .int (i ^ j.toNat)) (tOp (rI0 fun i j => .int (i + j)) (tOp (rI0 fun i j => .int (i + j)) (tVar 5) (tOp (rI CMul fun i j => .int (i * j)) (tC (.int 11)) (tVar 2))) (tC (.int 5))) (tC (.int 2))) (tC (.int 2147483489))) (gName 5))
  (tRet (tOp (rI (fun _ j => 0 < j) fun i j => .int (i % j)) (tOp (rI CDiv fun i j => .int (i / j)) (tOp (rI (fun _ j => 0 < j) fun i j => .int (i % j)) (tOp (rI CMul fun i j => .int (i * j)) (tVar 5) (tC (.int 69621))) (tC (.int 2147483477))) (tC (.int 1013))) (tVar 1)))))
theorem draw_tail {D : Ends} {H : Hp} {p : Addr} {m a x pr : Int} {u v y : Option V} (hm : 0 < m) (pr0 : 0 < pr) (pr1 : pr < 2147483648)
    (hpr : atI ([.int 2147483647, .int 2147483629, .int 2147483587, .int 2147483579, .int 2147483563, .int 2147483549, .int 2147483543] : List V) (a % 7) = some (.int pr)) (ha0 : 0 ≤ a) (ha : a ≤ 100000) (sq0 : 0 ≤ 75329 * a * a) (sq1 : 75329 * a * a ≤ 753290000000000)
    (k : ∀ (r : Int) (t : Addr), H t = none → 0 ≤ r → r < m → D.rt (.int r) (upd H t (.tup [.int 2147483647, .int 2147483629, .int 2147483587, .int 2147483579, .int 2147483563, .int 2147483549, .int 2147483543]))) :
    tTail K D [some (.ref p), some (.int m), some (.int a), some (.int x), u, v, y] H := by
  refine ⟨(by show 7 ≤ sizeLine; decide), fun t ht => ?_⟩
  refine ⟨_, rfl, _, _, rfl, rfl, (show (0 : Int) < 7 by decide), t, _, _, _, rfl, rfl, SqT.of upd_same, hpr, ?_⟩
  have e0 := Int.emod_nonneg x (show (2147483497 : Int) ≠ 0 by decide)
  have e1 := Int.emod_lt_of_pos x (show (0 : Int) < 2147483497 by decide)
  refine ⟨_, rfl, _, _, rfl, rfl, (show (0 : Int) < 2147483497 by decide), _, rfl, _, _, rfl, rfl, .inl ⟨by decide, by decide⟩, _, rfl, _, _, rfl, rfl, .inr ⟨by omega, by omega⟩, _, _, rfl, rfl, _, rfl, _, _, rfl, rfl, .inl ⟨by decide, by decide⟩, _, _, rfl, rfl, _, _, rfl, rfl, _, _, rfl, rfl, ⟨by decide, by decide, ?_⟩, _, rfl, _, _, rfl, rfl, pr0, ?_⟩
  · show (x % 2147483497 + 75329 * a * a + 30011 * a + 271).natAbs < 2 ^ 64
    omega
  have w0 := Int.emod_nonneg ((x % 2147483497 + 75329 * a * a + 30011 * a + 271) ^ Int.toNat 3) (show pr ≠ 0 by omega)
  have w2 := Int.emod_lt_of_pos ((x % 2147483497 + 75329 * a * a + 30011 * a + 271) ^ Int.toNat 3) pr0
  refine ⟨_, rfl, _, rfl, _, _, rfl, rfl, .inl ⟨by decide, by decide⟩, _, _, rfl, rfl, _, _, rfl, rfl, _, _, rfl, rfl, ⟨by decide, by decide, ?_⟩, _, _, rfl, rfl, (show (0 : Int) < 2147483489 by decide), ?_⟩
  · show ((x % 2147483497 + 75329 * a * a + 30011 * a + 271) ^ Int.toNat 3 % pr + 11 * a + 5).natAbs < 2 ^ 64
    generalize (x % 2147483497 + 75329 * a * a + 30011 * a + 271) ^ Int.toNat 3 % pr = w1 at w0 w2 ⊢
    omega
  refine ⟨_, rfl, _, _, rfl, rfl, .inr ⟨by decide, by decide⟩, _, _, rfl, rfl, (show (0 : Int) < 2147483477 by decide), _, _, rfl, rfl, ⟨by decide, by decide⟩, _, rfl, _, _, rfl, rfl, hm, ?_⟩
  exact k _ t ht (Int.emod_nonneg _ (by omega)) (Int.emod_lt_of_pos _ hm)
def spDraw : Sp := fun vs H Q _ => ∃ (p : Addr) (m : Int) (n : Nat), vs = [.ref p, .int m] ∧ Pen H p n ∧ n < 100000 ∧ 0 < m ∧ m < 1073741824 ∧ ∀ (r : Int) (H' : Hp), 0 ≤ r → r < m → Pen H' p (n + 1) → SameX p H H' → Q (.int r) H'
def spPen (K : PySem.W.Frag) : Sp := fun vs H Q _ => ∃ (a : Addr) (ns : List Int), vs = [.ref a] ∧ SqL K H a (ns.map V.int) ∧ ∀ (p : Addr) (H' : Hp), Same H H' → Pen H' p 0 → Q (.ref p) H'
theorem cut_ints (ns : List Int) (lo hi : Option Int) : ∃ ms : List Int, cutV (ns.map V.int) lo hi = ms.map V.int := by
  unfold cutV
  rw [← List.map_drop, ← List.map_take]
  exact ⟨_, rfl⟩
end
end My
namespace L2
open PySem PySem.Spec PyProof.Rows
end L2

set_option Elab.async false
set_option linter.all false
set_option maxRecDepth 100000
set_option maxHeartbeats 4000000
namespace L2
open PySem PySem.Spec PyProof.Rows
/-! ### repr: what a value is, as plain data -/
mutual
inductive DataV (H : Hp) : V → PyData → Prop
  | non : DataV H .non .none
  | bl (b : Bool) : DataV H (.bl b) (.bool b)
  | int (i : Int) : DataV H (.int i) (.int i)
  | str (x : Str) : DataV H (.str x) (.str x)
  | lst {a : Addr} {xs : List V} {ds : List PyData} : H a = some (.lst xs) → DataL H xs ds → DataV H (.ref a) (.list ds)
  | tup {a : Addr} {xs : List V} {ds : List PyData} : H a = some (.tup xs) → DataL H xs ds → DataV H (.ref a) (.tuple ds)
  | dict {a : Addr} {kvs : List (Key × V)} {ps : List (PyData × PyData)} : H a = some (.dK kvs) → DataL H (kvs.map fun p => kV p.1) (ps.map (·.1)) → DataL H (kvs.map (·.2)) (ps.map (·.2)) → DataV H (.ref a) (.dict ps)
inductive DataL (H : Hp) : List V → List PyData → Prop
  | nil : DataL H [] []
  | cons {x : V} {xs : List V} {d : PyData} {ds : List PyData} : DataV H x d → DataL H xs ds → DataL H (x :: xs) (d :: ds)
end
section
variable {X : Cx}
end
end L2

set_option Elab.async false
set_option linter.all false
set_option maxRecDepth 100000
set_option maxHeartbeats 4000000
namespace L2
open PySem PySem.Spec PyProof.Rows MA
theorem DataL.length {H : Hp} : ∀ {vs : List V} {ds : List PyData}, DataL H vs ds → vs.length = ds.length
  | _, _, .nil => rfl
  | _, _, .cons _ r => by simp [DataL.length r]
end L2
namespace L2
open PySem
theorem bt_sorted : bootBuiltins "sorted" = some (.builtin "sorted") := by decide +kernel
theorem bt_min : bootBuiltins "min" = some (.builtin "min") := by decide +kernel
end L2
namespace My
open PySem L2 MA
structure Txt2 (mg : Str → Option Value) : Prop extends Txt mg where
  z_str : mg "str" = none
  z_repr : mg "repr" = none
  z_dict : mg "dict" = none
  z_sum : mg "sum" = none
  z_sorted : mg "sorted" = none
  z_max : mg "max" = none
  z_min : mg "min" = none
  z_any : mg "any" = none
  z_enumerate : mg "enumerate" = none
  z_zip : mg "zip" = none
  z_set : mg "set" = none
  z_reversed : mg "reversed" = none
  z_ValueError : mg "ValueError" = none
end My

set_option Elab.async false
set_option linter.all false
set_option maxRecDepth 100000
set_option maxHeartbeats 4000000
namespace L2
open PySem PySem.Spec PyProof.Rows
def notStar : Expr → Bool
  | .Starred _ _ => false
  | _ => true
theorem star_cons {e : Expr} {es : List Expr} {env : Env} (h : notStar e = true) : starEach (e :: es) env = (false, eval e env) :: starEach es env := by
  cases e <;> first | rfl | exact absurd h (by simp [notStar])
section
variable {X : Cx} {e : Expr} {es : List Expr} {te : TE} {t : TA} {pos : Pos}
/-- an item of a row, whose rest may be long -/
theorem pa_consN (ha : PE X e te) (hr : PA X es t) (hn : notStar e = true := by rfl) : PA X (e :: es) (tCons te t) := pa_cons ha hr (star_cons hn)
end
end L2
namespace L2
end L2
namespace L2
end L2

set_option Elab.async false
set_option linter.all false
set_option maxRecDepth 100000
set_option maxHeartbeats 4000000
namespace L2
open PySem PySem.Spec PyProof.Rows
theorem comp_core {X : Cx} {elt tg iter : Expr} {ifs : List Expr} {scope : Scope} {pos pos2 : Pos} {wi : TI} {g : TG} {tc : TT} {te : TE} {N : List Str} {σ0 : St → St} {pins : List (Addr × Obj)} {s : Shared} {σ : St} {H : Hp} {Q : VK} {use : Option (Value → Sem Unit)} {QQ : Value → Shared → Prop}
    (hc : X.calm = true) (hxe : ∀ e s, X.xe e s → False) (hcell : ∀ y ∈ scope.names, y.2 ≠ .cell) (hkind : scope.kind = .function) (hnames : ∀ y ∈ scope.names, y.2 = .local → scope.names.lookup y.1 = some .local)
    (hfr : ∀ y ∈ scope.names, y.2 = .free → X.env.kindOf y.1 = some .cell ∨ X.env.kindOf y.1 = some .free) (hσ : Sees X scope N σ0)
    (hi : PI X tg iter wi)
    (hg : ∀ cl C s H ex, PG (cxComp X scope N cl C s H ex) tg g) (ht : ∀ cl C s H ex, PTs (cxComp X scope N cl C s H ex) ifs tc) (he : ∀ cl C s H ex, PE (cxComp X scope N cl C s H ex) elt te)
    (hs : ∀ x, foldedSetIterable iter X.env x = pure x) (I : Inv X pins σ H s) (h : tComp σ0 wi g tc te σ H Q)
    (hend : ∀ (p C : Addr) (H' : Hp) (s' : Shared) (m : Str → Option Value) (f : Flow), Inv X pins σ H' s' → FpOk X pins H' C → s'.heap.Ns C m → (∀ h', Heap.SameBut C s'.heap h' → Inv X pins σ H' { s' with heap := h' }) → Q (.ref p) H' →
      compPost (model X.prog X.w) X.A X.xe use QQ (.ref p) C (.ok f) s') :
    wpAny (model X.prog X.w) X.A (comprehension (.ListComp elt [⟨tg, iter, ifs, 0⟩] scope pos) scope X.env pos2 (newList []) false (eval iter X.env) use) QQ X.xe s := by
  obtain ⟨cl, hclos, hcl1, hcl2⟩ := closure_of (env := X.env) (scope := scope) fun y hy hf => I.ok.has y.1 (hfr y hy hf)
  refine wpAny_comprehension_free (use := use) rfl hs hclos hkind hnames (thn (hi pins s σ H _ I h) fun v s1 h1 => thn h1 fun itv s2 h2 => ?_)
  obtain ⟨it, fp, tn, J, H2, e, I2, T, st2, f2, h3⟩ := h2
  subst e
  have hpn : H2 s2.heap.objs.size = none := I2.hok.fresh (Nat.le_refl _)
  obtain ⟨W, ⟨m0, w0⟩, turn⟩ := h3 _ hpn
  refine wpAny_newObj_type ?_
  generalize hp : s2.heap.objs.size = p at *
  have I3 : Inv X pins σ (upd H2 p (.lst [])) { s2 with heap := s2.heap.push { cls := .type "list", dict := none, data := .seq ([] : List Value).toArray } } := by
    refine I2.laid (a := p) (o := .lst []) (t' := s2.toks) (fun b u q => Heap.get?_push_of_some _ q) (Nat.le_of_eq hp) ⟨Nat.zero_le _, [], 0, .nil, ?_⟩
    rw [← hp]
    exact Heap.get?_push_size _ rfl
  have hf3 : ∀ b ∈ fp, FpOk X pins (upd H2 p (.lst [])) b := fun b hb => by
    obtain ⟨o, ho, _⟩ := T.obj _ _ st2 b hb
    have : b ≠ p := by rw [← hp]; exact Nat.ne_of_lt (Heap.lt_size ho)
    exact ⟨by rw [upd_ne this]; exact (f2 b hb).1, (f2 b hb).2⟩
  generalize hs3 : ({ s2 with heap := s2.heap.push { cls := .type "list", dict := none, data := .seq ([] : List Value).toArray } } : Shared) = s3 at *
  have st3 : tn 0 s3.heap := by rw [← hs3]; exact T.keep _ _ _ st2 fun b _ o e => Heap.get?_push_of_some _ e
  generalize hH3 : upd H2 p (.lst []) = H3 at *
  refine wpAny_newFunctionEnv hcell (by intro y hy; simp at hy) (fun h1 hns1 hsb1 => ?_) hkind
  generalize hC : s3.heap.objs.size = C at *
  have keep : ∀ b u, s3.heap.get? b = some u → h1.get? b = some u := fun b u q =>
    hsb1.extBut b u (by rw [← hC]; exact Nat.ne_of_lt (Heap.lt_size q)) (Heap.get?_push_of_some _ q)
  have fpC : ∀ b ∈ fp, b ≠ C := fun b hb => by
    obtain ⟨o, ho, _⟩ := T.obj _ _ st3 b hb
    rw [← hC]; exact Nat.ne_of_lt (Heap.lt_size ho)
  have hCn : H3 C = none := I3.hok.fresh (Nat.le_of_eq hC)
  -- the block's own invariant, at its entry
  have ok' : (cxComp X scope N cl C s3 H3 fp).Ok := by
    refine ⟨I3.mod, hkind, I3.ok.glob, I3.ok.blt, Nat.le_of_eq hC, fun x y c a b => I3.ok.inj x y c (hcl1 x c a) (hcl1 y c b), fun x hx => ?_, fun _ _ z => Bool.noConfusion (show false = true from z), I3.ok.hd, I3.ok.frames, .inl rfl, fun b hb => ⟨fpC b hb, fun x c q => (hf3 b hb).2.2.2.2.1 x c (hcl1 x c q)⟩,
      I3.bs, Nat.le_trans I3.ok.bsz I3.sz, fun b o e hb => ?_, fun b hb z => ?_, I3.stack, I3.stkFree⟩
    · have hx' : (relabel scope X.env).names.lookup x = some .cell ∨ (relabel scope X.env).names.lookup x = some .free := hx
      rcases hx' with z | z
      · rcases lookup_relabel_mem z with y | ⟨_, y⟩
        · exact absurd rfl (hcell _ y)
        · exact hcl2 x y
      · rcases lookup_relabel_mem z with y | ⟨y, _⟩
        · exact hcl2 x y
        · cases y
    · rcases (hf3 b hb).2.2.2.1 with z | z
      · exact I3.ok.noex b o e z
      · exact absurd (Nat.lt_of_lt_of_le (Heap.lt_size e) (Nat.le_trans I3.ok.bsz z)) (Nat.lt_irrefl _)
    · rcases List.mem_cons.mp (I3.stkSub b z) with q | q
      · exact (hf3 b hb).2.1 q
      · exact (hf3 b hb).2.2.1 q
  have J0 : Inv (cxComp X scope N cl C s3 H3 fp) [] (σ0 σ) H3 { s3 with heap := h1, toks := s3.toks + ([] : List (Str × Value)).length } := by
    refine ⟨ok', rfl, I3.bare, Un.kept keep, ⟨_, hns1, fun i x v a b c => ?_⟩, fun x c q => ?_, hCn, fun x c q => I3.freeC x c (hcl1 x c q), fun q hq => absurd (show q ∈ ([] : List (Addr × Obj)) from hq) (by simp), I3.hok.kept keep, (hσ σ).1⟩
    · obtain ⟨hf, j, hj, hv⟩ := (hσ σ).2 i x v a b
      have hm := mem_of_lookupF hf
      obtain ⟨m, hn, hl⟩ := id I3.loc
      have hk := hfr _ hm rfl
      have hvis : Vis X.env.scope x := hk.elim (fun z => .inr (.inl z)) fun z => .inr (.inr z)
      obtain ⟨u, r, lk⟩ := hl j x v hj hv hvis
      refine ⟨u, r, .inr ⟨lookup_relabel_free hf, ?_⟩⟩
      obtain ⟨c', hc'⟩ := hcl2 x hm
      refine ⟨c', hc', ?_⟩
      have hx := hcl1 x c' hc'
      rcases lk with ⟨kl, _⟩ | ⟨_, c2, e2, o2, ho2, hd2⟩
      · rcases hk with z | z <;> rw [kl] at z <;> cases z
      · rw [hx] at e2
        cases e2
        exact ⟨o2, keep _ _ ho2, hd2⟩
    · obtain ⟨v, o, ho, hd⟩ := I3.cell x c (hcl1 x c q)
      exact ⟨v, o, keep _ _ ho, hd⟩
  have st4 : tn 0 h1 := T.keep _ _ _ st3 fun b _ o e => keep b o e
  have stat : ∀ {H' : Hp}, (∀ b ∈ fp, H' b = none) → ∀ b ∈ fp, FpOk (cxComp X scope N cl C s3 H3 fp) [] H' b := fun hn b hb =>
    ⟨hn b hb, fpC b hb, fun z => ok'.exfs b hb z, .inl hb, fun x c q => (hf3 b hb).2.2.2.2.1 x c (hcl1 x c q), fun q hq => absurd (show q ∈ ([] : List (Addr × Obj)) from hq) (by simp)⟩
  -- back to the def
  have back : ∀ {σ' : St} {H' : Hp} {s' : Shared} {pl : List (Addr × Obj)}, Inv (cxComp X scope N cl C s3 H3 fp) pl σ' H' s' → ∀ h', Heap.SameBut C s'.heap h' → Inv X pins σ H' { s' with heap := h' } := fun {σ' H' s' pl} J h' hsb => by
    have I5 : Inv X pins σ H' s' := Inv.call' (ch := fp) I3 J.os J.base J.hok J.bare fun b hb => ⟨(hf3 b hb).2.2.2.1, (hf3 b hb).2.1, (hf3 b hb).2.2.2.2.1, (hf3 b hb).2.2.2.2.2⟩
    refine Inv.turned (it := C) (t' := s'.toks) I5 (fun b o hb e => hsb.extBut b o hb e) J.free (fun z => ?_) (.inr ?_) (fun x c q z => ?_) fun q hq z => ?_
    · exact absurd (show X.env.locals < C by rw [← hC]; exact I3.lt) (by rw [z]; exact Nat.lt_irrefl _)
    · rw [← hC]; exact I3.sz
    · obtain ⟨v, o, ho, _⟩ := I3.cell x c q
      have := Heap.lt_size ho
      rw [z, hC] at this
      exact Nat.lt_irrefl _ this
    · have := Heap.lt_size (I3.pin q hq).1
      rw [z, hC] at this
      exact Nat.lt_irrefl _ this
  have loop : codeAny (model X.prog X.w) X.A (.compLoop (.ListComp elt [⟨tg, iter, ifs, 0⟩] scope pos) 0 (.ref it) (.ref p) (compEnvC scope cl C X.env)) (compPost (model X.prog X.w) X.A X.xe use QQ (.ref p) C) { s3 with heap := h1, toks := s3.toks + ([] : List (Str × Value)).length } := by
    refine codeAny_loop rfl (fun n s' => ∃ i ys σ' H', Inv (cxComp X scope N cl C s3 H3 fp) [] σ' H' s' ∧ tn i s'.heap ∧ (∀ b ∈ fp, H' b = none) ∧ W i n ys σ' H') (fun n s' hI => ?_) m0 ⟨0, [], σ0 σ, H3, J0, st4, fun b hb => (hf3 b hb).1, w0⟩
    obtain ⟨i, ys, σ', H', J', st', fr', w'⟩ := hI
    show wpAny _ X.A ((compTurn (.ListComp elt [⟨tg, iter, ifs, 0⟩] scope pos) 0 (.ref it) (.ref p) (compEnvC scope cl C X.env)).onRaise (fun x => do noteFrame x (compEnvC scope cl C X.env); theTreesLotGoes x)) _ _ s'
    refine wpAny_noted ?_
    rw [compTurn_list]
    rcases turn i n ys σ' H' w' with ⟨stop, q⟩ | ⟨go, step⟩
    · refine wpAny_bind (wpAny_standAt (wpAny_bind (wpAny_mono (T.done (cxComp X scope N cl C s3 H3 fp) rfl rfl rfl hc i [] s' σ' H' X.xe J' (stat fr') st' stop) (fun r s4 h4 => ?_) fun _ _ x => (hxe _ _ x).elim)))
      obtain ⟨hr, I4⟩ := h4
      subst hr
      refine wpAny_pure ?_
      obtain ⟨m, hn, _⟩ := id I4.loc
      have I5 : Inv X pins σ H' s4 := Inv.call' (ch := fp) I3 I4.os I4.base I4.hok I4.bare fun b hb => ⟨(hf3 b hb).2.2.2.1, (hf3 b hb).2.1, (hf3 b hb).2.2.2.2.1, (hf3 b hb).2.2.2.2.2⟩
      exact hend p C H' s4 m _ I5 (I3.fpOk (Nat.le_of_eq hC) I4.free) hn (fun h' hsb => back I4 h' hsb) q
    · refine wpAny_bind (wpAny_standAt (wpAny_bind (wpAny_mono (T.item (cxComp X scope N cl C s3 H3 fp) rfl rfl rfl hc i [] s' σ' H' X.xe J' (stat fr') st' go) (fun r s4 h4 => ?_) fun _ _ x => (hxe _ _ x).elim)))
      obtain ⟨u, hr, h4⟩ := h4
      subst hr
      refine wpAny_bind (wpAny_mono h4 (fun _ s5 h5 => ?_) fun _ _ x => (hxe _ _ x).elim)
      obtain ⟨x, H5, I5, r5, y5, st5, fr5⟩ := h5
      have I5' := I5.pinned (stat fr5) (T.obj _ _ st5)
      refine wpAny_bind (wpAny_mono (hg cl C s3 H3 fp _ s5 σ' H5 x u _ I5' r5 (step x H5 y5)) (fun _ s6 h6 => ?_) fun _ _ x => (hxe _ _ x).elim)
      obtain ⟨σ6, H6, I6, q6⟩ := h6
      have again : ∀ {σ7 : St} {H7 : Hp} {s7 : Shared} {ys7 : List V}, Inv (cxComp X scope N cl C s3 H3 fp) ([] ++ pinsAt fp s5.heap) σ7 H7 s7 → (∃ m', m' < n ∧ W (i + 1) m' ys7 σ7 H7) →
          ∃ m, m < n ∧ ∃ i ys σ' H', Inv (cxComp X scope N cl C s3 H3 fp) [] σ' H' s7 ∧ tn i s7.heap ∧ (∀ b ∈ fp, H' b = none) ∧ W i m ys σ' H' := fun {σ7 H7 s7 ys7} I7 n7 => by
        obtain ⟨m', hm, w7⟩ := n7
        refine ⟨m', hm, i + 1, ys7, σ7, H7, I7.unpinned, T.keep _ _ _ st5 fun b hb o e => (I7.pin (b, o) (List.mem_append_right _ (List.mem_append_right _ (mem_pinsAt hb e)))).1, fun b hb => ?_, w7⟩
        obtain ⟨o, e, d⟩ := T.obj _ _ st5 b hb
        exact (I7.pin (b, o) (List.mem_append_right _ (List.mem_append_right _ (mem_pinsAt hb e)))).2.1
      refine wpAny_bind (wpAny_mono (ht cl C s3 H3 fp _ s6 σ6 H6 _ I6 q6) (fun ok s7 h7 => ?_) fun _ _ x => (hxe _ _ x).elim)
      obtain ⟨H7, I7, q7⟩ := h7
      cases ok with
      | false =>
        rw [if_neg Bool.false_ne_true] at q7
        exact wpAny_pure ⟨rfl, again I7 q7⟩
      | true =>
        rw [if_pos rfl] at q7
        refine wpAny_bind (wpAny_bind (wpAny_mono (he cl C s3 H3 fp _ s7 σ6 H7 _ I7 q7) (fun y s8 h8 => ?_) fun _ _ x => (hxe _ _ x).elim))
        obtain ⟨v, H8, I8, r8, hz, hH8, w8⟩ := h8
        refine wpAny_bind (wpAny_mono (mt_append (X := cxComp X scope N cl C s3 H3 fp) _ s8 σ6 H8 (.ref p) [v] (.ref p) [y] (fun x H9 => x = .non ∧ H9 = upd H8 p (.lst (ys ++ [v]))) I8 rfl (.cons r8 .nil) ⟨p, ys, v, rfl, rfl, hH8, hz, rfl, rfl⟩) (fun _ s9 h9 => ?_) fun _ _ x => (hxe _ _ x).elim)
        obtain ⟨z, H9, I9, _, _, e9⟩ := h9
        subst e9
        exact wpAny_pure (wpAny_pure ⟨rfl, again I9 w8⟩)
  exact codeAny_compStart_list loop (T.self X.A 0 _ _ _ st4 loop)
theorem ps_comp {X : Cx} {elt tg iter : Expr} {ifs : List Expr} {scope : Scope} {pos spos py : Pos} {wi : TI} {g : TG} {tc : TT} {te : TE} {N : List Str} {σ0 : St → St} {i : Nat} {y : Str}
    (hN : X.N.Nodup) (hiy : X.N[i]? = some y) (hy : Loc X.env.scope y)
    (hc : X.calm = true) (hxe : ∀ e s, X.xe e s → False) (hcell : ∀ y ∈ scope.names, y.2 ≠ .cell) (hkind : scope.kind = .function) (hnames : ∀ y ∈ scope.names, y.2 = .local → scope.names.lookup y.1 = some .local)
    (hfr : ∀ y ∈ scope.names, y.2 = .free → X.env.kindOf y.1 = some .cell ∨ X.env.kindOf y.1 = some .free) (hσ : Sees X scope N σ0)
    (hi : PI X tg iter wi)
    (hg : ∀ cl C s H ex, PG (cxComp X scope N cl C s H ex) tg g) (ht : ∀ cl C s H ex, PTs (cxComp X scope N cl C s H ex) ifs tc) (he : ∀ cl C s H ex, PE (cxComp X scope N cl C s H ex) elt te)
    (hs : ∀ x, foldedSetIterable iter X.env x = pure x := by intro _; rfl) (hsw : swapsWith (.ListComp elt [⟨tg, iter, ifs, 0⟩] scope pos) (some (.Name y py)) spos.line X.env = pure true := by rfl)
    (hf : X.fn y = true ∨ X.env.scope.names.lookup y = some .local := by first | exact .inl rfl | exact .inr rfl | assumption) :
    PS X (.Assign [.Name y py] (.ListComp elt [⟨tg, iter, ifs, 0⟩] scope pos) spos) (tAsg (tComp σ0 wi g tc te) (gName i)) := by
  intro pins s σ H D I h
  rw [exec_Assign_Name_used _ _ _ _ hsw]
  refine wpAny_bind (wpAny_standAt (wpAny_bind ?_))
  show wpAny _ X.A (do let _ ← comprehension (.ListComp elt [⟨tg, iter, ifs, 0⟩] scope pos) scope X.env _ (newList []) false (eval iter X.env) (some (assign (.Name y py) X.env))) _ _ s
  refine wpAny_bind (wpAny_mono (comp_core (use := some (assign (.Name y py) X.env)) (QQ := fun _ s' => SP X pins D .next s') hc hxe hcell hkind hnames hfr hσ hi hg ht he hs I h ?_) (fun _ s' hq => wpAny_pure (wpAny_pure hq)) fun _ _ e => e)
  intro p C H' s' m f I5 fC hn back q
  show wpAny _ X.A (assign (.Name y py) X.env (.ref p)) _ _ _
  have hnC := id hn
  obtain ⟨o, es, ep, ho, hd, _⟩ := hnC
  have Ip := I5.pinned (fp := [C]) (fun b hb => by rw [List.mem_singleton.mp hb]; exact fC) (fun b hb => ⟨o, by rw [List.mem_singleton.mp hb]; exact ho, fun v z => by rw [hd] at z; cases z⟩)
  refine wpAny_mono (pg_name (pos := py) hN hiy hy hf (pins ++ pinsAt [C] s'.heap) s' σ H' (.ref p) (.ref p) _ Ip rfl q) (fun _ s2 h2 => ?_) fun _ _ e => e
  obtain ⟨σ2, H2, I2, q2⟩ := h2
  have hp2 := I2.pin (C, o) (List.mem_append_right _ (List.mem_append_right _ (mem_pinsAt (by simp) ho)))
  refine ⟨m, hn.at' (fun o' e => ?_), fun h' hsb => ⟨σ2, H2, ?_, q2⟩⟩
  · rw [ho] at e; cases e; exact hp2.1
  · exact Inv.turned (it := C) (t' := s2.toks) I2.unpinned (fun b o hb e => hsb.extBut b o hb e) hp2.2.1 hp2.2.2.1 fC.2.2.2.1 fC.2.2.2.2.1 fC.2.2.2.2.2
end L2
namespace L2
open PySem PySem.Spec PyProof.Rows
section
variable {X : Cx} {e : Expr} {te : TE} {p2 p3 p4 pos : Pos} {k1 : Nat}
end
end L2

set_option Elab.async false
set_option linter.all false
set_option maxRecDepth 100000
set_option maxHeartbeats 4000000
namespace L2
open PySem PySem.Spec PyProof.Rows MA
/-- a comprehension's names: its own, then the def's that it reads -/
theorem Sees.frees {X : Cx} {scope : Scope} (ks : List Str) (fs : List (Str × Nat)) (h : ∀ p ∈ fs, scope.names.lookup p.1 = some .free ∧ X.N[p.2]? = some p.1) :
    Sees X scope (ks ++ fs.map (·.1)) (fun σ => ks.map (fun _ => none) ++ fs.map fun p => σ.getD p.2 none) := by
  intro σ
  refine ⟨by simp, fun i x v h1 h2 => ?_⟩
  by_cases hi : i < ks.length
  · rw [List.getElem?_append_left (by simpa using hi), List.getElem?_map] at h2
    cases e : ks[i]? with
    | none => rw [e] at h2; cases h2
    | some y => rw [e] at h2; cases h2
  · rw [List.getElem?_append_right (by omega), List.getElem?_map] at h1
    rw [List.getElem?_append_right (by simp; omega), List.getElem?_map, List.length_map] at h2
    cases e : fs[i - ks.length]? with
    | none => rw [e] at h1; cases h1
    | some p =>
      rw [e] at h1 h2
      cases h1
      obtain ⟨a, b⟩ := h p (List.mem_of_getElem? e)
      refine ⟨a, p.2, b, ?_⟩
      have h3 : σ.getD p.2 none = some v := by simpa using h2
      rw [List.getD_eq_getElem?_getD] at h3
      cases z : σ[p.2]? with
      | none => rw [z] at h3; cases h3
      | some u => rw [z] at h3; exact congrArg some h3
/-- [.. for k in range(n)], no test -/
theorem comp_rng {n : Nat} {lo : Int} {te : TE} {H : Hp} {R : Addr → Hp → Prop} {fs : St} (Pv : Addr → Nat → List V → Hp → Prop) (hn : n ≤ 100000) (hp0 : ∀ p, H p = none → Pv p 0 [] (upd H p (.lst [])))
    (hte : ∀ p i ys H', H p = none → i < n → ys.length = i → Pv p i ys H' → H' p = some (.lst ys) → ∀ Q' : VK, (∀ v H'', H'' p = some (.lst ys) → Pv p (i + 1) (ys ++ [v]) (upd H'' p (.lst (ys ++ [v]))) → Q' v H'') → te (some (.int (lo + i)) :: fs) H' Q')
    (q : ∀ p ys H', H p = none → Pv p n ys H' → H' p = some (.lst ys) → ys.length = n → R p H') :
    ∀ p, H p = none → ∃ W : Nat → Nat → List V → St → Hp → Prop, (∃ m, W 0 m [] (none :: fs) (upd H p (.lst []))) ∧ ∀ i m ys σ' H', W i m ys σ' H' →
      ((Itr lo n).stop i H' ∧ R p H') ∨ ((Itr lo n).go i H' ∧ ∀ x H2, (Itr lo n).yld i H' x H2 → gName 0 x σ' H2 fun σ2 H3 => tTT σ2 H3 fun b H4 => if b = true then te σ2 H4 fun v H5 => ys.length < sizeLine ∧ H5 p = some (.lst ys) ∧ (∃ m', m' < m ∧ W (i + 1) m' (ys ++ [v]) σ2 (upd H5 p (.lst (ys ++ [v]))))
        else ∃ m', m' < m ∧ W (i + 1) m' ys σ2 H4) := by
  intro p hp
  refine ⟨fun i m ys σ' H' => m = n - i ∧ i ≤ n ∧ ys.length = i ∧ Pv p i ys H' ∧ H' p = some (.lst ys) ∧ ∃ o, σ' = o :: fs, ⟨n, by simp, Nat.zero_le _, rfl, hp0 p hp, upd_same, _, rfl⟩, ?_⟩
  rintro i m ys σ' H' ⟨rfl, hi, hl, pv, hp', o, rfl⟩
  by_cases hlt : i < n
  · refine .inr ⟨hlt, fun x H2 hy => ?_⟩
    obtain ⟨rfl, rfl⟩ := hy
    change te (some (.int (lo + i)) :: fs) H2 _
    refine hte p i ys H2 hp hlt hl pv hp' _ fun v H5 h5 pv5 => ⟨?_, h5, n - (i + 1), by omega, rfl, hlt, by simp [hl], pv5, upd_same, _, rfl⟩
    rw [hl, sizeLine_eq]; omega
  · have e : i = n := by omega
    subst e
    exact .inl ⟨Nat.le_refl _, q p ys H' hp pv hp' hl⟩
/-! ### sums over one common bottom -/
end L2
namespace L2
open PySem
theorem fr_nil {C : Str × Nat → Prop} : ∀ p ∈ ([] : List (Str × Nat)), C p := fun _ h => nomatch h
theorem fr_cons {C : Str × Nat → Prop} {a : Str × Nat} {l : List (Str × Nat)} (h : C a) (t : ∀ p ∈ l, C p) : ∀ p ∈ a :: l, C p := fun p hp => (List.mem_cons.mp hp).elim (fun e => e ▸ h) (t p)
theorem hfr_of {scope : Scope} {env : Env} (h : scope.names.all (fun y => y.2 != .free || env.kindOf y.1 == some .cell || env.kindOf y.1 == some .free) = true) : ∀ y ∈ scope.names, y.2 = .free → env.kindOf y.1 = some .cell ∨ env.kindOf y.1 = some .free := by
  intro y hy hf
  have := List.all_eq_true.mp h y hy
  rw [hf] at this
  simpa using this
end L2

set_option Elab.async false
set_option linter.all false
set_option maxRecDepth 100000
set_option maxHeartbeats 4000000
namespace L2
open PySem PySem.Spec PyProof.Rows
section
variable {X : Cx}
end
end L2
namespace L2
open PySem PySem.Spec PyProof.Rows MA
section
variable {X : Cx}
end
/-- [.. for x in xs], xs a list, no test -/
theorem comp_lst {K : PySem.W.Frag} {a : Addr} {xs : List V} {te : TE} {H : Hp} {R : Addr → Hp → Prop} {fs : St} (Pv : Addr → Nat → List V → Hp → Prop) (hn : xs.length ≤ 100000) (hp0 : ∀ p, H p = none → Pv p 0 [] (upd H p (.lst [])))
    (hl : ∀ p i ys H', H p = none → Pv p i ys H' → H' a = some (.lst xs))
    (hte : ∀ p i ys H' x, H p = none → xs[i]? = some x → ys.length = i → Pv p i ys H' → H' p = some (.lst ys) → ∀ Q' : VK, (∀ v H'', H'' p = some (.lst ys) → Pv p (i + 1) (ys ++ [v]) (upd H'' p (.lst (ys ++ [v]))) → Q' v H'') → te (some x :: fs) H' Q')
    (q : ∀ p ys H', H p = none → Pv p xs.length ys H' → H' p = some (.lst ys) → ys.length = xs.length → R p H') :
    ∀ p, H p = none → ∃ W : Nat → Nat → List V → St → Hp → Prop, (∃ m, W 0 m [] (none :: fs) (upd H p (.lst []))) ∧ ∀ i m ys σ' H', W i m ys σ' H' →
      ((Itl K a).stop i H' ∧ R p H') ∨ ((Itl K a).go i H' ∧ ∀ x H2, (Itl K a).yld i H' x H2 → gName 0 x σ' H2 fun σ2 H3 => tTT σ2 H3 fun b H4 => if b = true then te σ2 H4 fun v H5 => ys.length < sizeLine ∧ H5 p = some (.lst ys) ∧ (∃ m', m' < m ∧ W (i + 1) m' (ys ++ [v]) σ2 (upd H5 p (.lst (ys ++ [v]))))
        else ∃ m', m' < m ∧ W (i + 1) m' ys σ2 H4) := by
  intro p hp
  refine ⟨fun i m ys σ' H' => m = xs.length - i ∧ i ≤ xs.length ∧ ys.length = i ∧ Pv p i ys H' ∧ H' p = some (.lst ys) ∧ ∃ o, σ' = o :: fs, ⟨xs.length, by simp, Nat.zero_le _, rfl, hp0 p hp, upd_same, _, rfl⟩, ?_⟩
  rintro i m ys σ' H' ⟨rfl, hi, hlen, pv, hp', o, rfl⟩
  have hla := hl p i ys H' hp pv
  by_cases hlt : i < xs.length
  · refine .inr ⟨⟨xs, xs[i], SqL.of hla, List.getElem?_eq_getElem hlt⟩, fun x H2 hy => ?_⟩
    obtain ⟨rfl, hx⟩ := hy
    have hx' := hx xs (SqL.of hla)
    change te (some x :: fs) H2 _
    refine hte p i ys H2 x hp hx' hlen pv hp' _ fun v H5 h5 pv5 => ⟨?_, h5, xs.length - (i + 1), by omega, rfl, hlt, by simp [hlen], pv5, upd_same, _, rfl⟩
    rw [hlen, sizeLine_eq]; omega
  · have e : i = xs.length := by omega
    subst e
    exact .inl ⟨⟨xs, SqL.of hla, Nat.le_refl _⟩, q p ys H' hp pv hp' hlen⟩
/-- pairs of ints in the heap -/
def PrAt (H : Hp) (v : V) (p : Int × Int) : Prop := ∃ a, v = .ref a ∧ H a = some (.tup [.int p.1, .int p.2])
def Prs (H : Hp) : List V → List (Int × Int) → Prop := Paired (PrAt H)
theorem PrAt.same {H H' : Hp} {v : V} {p : Int × Int} (s : Same H H') (h : PrAt H v p) : PrAt H' v p := let ⟨a, e, h⟩ := h; ⟨a, e, s _ _ h⟩
theorem Prs.same {H H' : Hp} (s : Same H H') : ∀ {xs : List V} {ps : List (Int × Int)}, Prs H xs ps → Prs H' xs ps
  | _, _, .nil => .nil
  | _, _, .cons r t => .cons (r.same s) (Prs.same s t)
end L2

set_option Elab.async false
set_option linter.all false
set_option maxRecDepth 100000
set_option maxHeartbeats 4000000
namespace L2
open PySem PySem.Spec PyProof.Rows
section
variable {X : Cx} {e : Expr} {t : TA} {p p3 p4 pos : Pos}
/-- sorted(xs, reverse=b), xs a list of ints -/
def tSortR (b : Bool) (t : TA) : TE := fun σ H Q => t σ H fun vs H1 => ∃ (l : Addr) (ns : List Int), vs = [.ref l] ∧ H1 l = some (.lst (ns.map V.int)) ∧ ns.length < 64 ∧ ∀ (q : Addr) (ms : List Int), H1 q = none → ms.Perm ns → Ordered b ms → Q (.ref q) (upd H1 q (.lst (ms.map V.int)))
theorem pe_sortedR {b : Bool} {kk : _} (hg : Gl X "sorted") (hm : X.mg "sorted" = none) (ha : PA X [e] t)
    (he : backTo pos (starEach [e] X.env) = (false, eval e X.env) :: backTo pos (starEach [] X.env) := by rfl) (hpl : (backTo pos (starEach [e] X.env)).any (·.1) = false := by rfl) :
    PE X (.Call (.Name "sorted" p) [e] [⟨some "reverse", .Constant (.bool b) kk p3, p4⟩] pos) (tSortR b t) := by
  intro pins s σ H Q I h
  refine wpAny_Call_Name_kw (ld_blt I hg hm bt_sorted ?_ (by decide) (by decide))
  refine callWith_kw (thn (ha pos pins s σ H _ I h) fun us s1 ⟨vs, H1, I1, r1, q1⟩ => ?_) he hpl
  obtain ⟨l, ns, rfl, hl, h64, q⟩ := q1
  obtain ⟨u, rfl, ru⟩ := vals1 r1
  cases ru
  show wpAny _ X.A (evalAll [(do let v ← eval (.Constant (.bool b) kk p3) X.env; standAt pos; pure v)]) _ _ s1
  refine wpAny_evalAll_cons (wpAny_bind (Constant_bool (wpAny_bind (wpAny_standAt (wpAny_pure (wpAny_evalAll_nil ?_))))))
  show wpAny _ X.A (call (.builtin "sorted") [.ref l] [(Str.ofString "reverse", .bool b)]) _ _ _
  obtain ⟨its, rv, pl, hz⟩ := I1.list (SqL.of (K := X.K) hl)
  have hlen := rv.length
  rw [List.length_map] at hlen
  refine sorted_ints_rev pl.isList (intsAre_of rv) (by omega) fun out ms a1 a2 a3 => ?_
  obtain ⟨ee, he'⟩ := sortedAll_at s1.heap its out
  have hml : ms.length = ns.length := a2.length_eq
  refine ⟨.ref (s1.heap.objs.size + 1), _, I1.laid (t' := s1.toks) (a := s1.heap.objs.size + 1) (o := .lst (ms.map V.int)) (fun b o q => sortedAll_old q) (Nat.le_succ _) ⟨?_, out.toList, ee, vals_ints a1, ?_⟩, rfl, q _ ms (I1.hok.fresh (Nat.le_succ _)) a2 a3⟩
  · rw [List.length_map, hml, sizeLine_eq]; omega
  · rw [he']
end
end L2
namespace L2
open PySem PySem.Spec PyProof.Rows MA
section
variable {X : Cx}
/-- items by their place, the heap named alone (for use in a comprehension) -/
theorem ix_list0 : IxR X (fun x y H Q => ∃ p xs i v, x = .ref p ∧ y = .int i ∧ H p = some (.lst xs) ∧ atI xs i = some v ∧ Q v H) := by
  intro value slice pins s σ H x y v u Q I rx ry h hs
  obtain ⟨p, xs, i, w', e1, e2, hp, ha, q⟩ := h
  exact ix_list value slice pins s σ H x y v u Q I rx ry ⟨p, xs, i, w', e1, e2, SqL.of hp, ha, q⟩ hs
end
end L2
namespace L2
open PySem PySem.Spec PyProof.Rows MA
section
variable {X : Cx}
end
end L2

set_option Elab.async false
set_option linter.all false
set_option maxRecDepth 100000
set_option maxHeartbeats 1000000
namespace L2
open PySem PySem.Spec PyProof.Rows MA
theorem tuple_mul1 (l : Addr) (items : Array Value) (n : Nat) (dd : Option Addr) (sl : Array (Option Value)) (u : Tok) :
    Meets (Builtin.«tuple.__mul__» ⟨[.ref l, .int 1 u], []⟩) (fun _ R s => s.heap.get? l = some { cls := .type "tuple", dict := dd, data := .seq items n, slots := sl } ∧ R (.ok (.ret (Value.ref l))) { s with heap := s.heap, toks := s.toks }) :=
  .of_wp fun prog w A R s h => by
    obtain ⟨hp, g, d, tk, os⟩ := s; obtain ⟨hl, h⟩ := h
    have f1 := AutoSeq1.idx_int; have f2 := AutoSeq1.sub_tuple_tuple; have f3 := AutoSeq1.sub_list_list; have f4 := AutoSeq1.sub_tuple_list; have f5 := AutoSeq1.sub_list_tuple
    wp_walk using wpAny_loadPart' hl
    exact ⟨_, rfl, h⟩
theorem tuple_mul0 (l : Addr) (items : Array Value) (n : Nat) (dd : Option Addr) (sl : Array (Option Value)) (u : Tok) (he : ¬ items.isEmpty = true) :
    Meets (Builtin.«tuple.__mul__» ⟨[.ref l, .int 0 u], []⟩) (fun _ R s => s.heap.get? l = some { cls := .type "tuple", dict := dd, data := .seq items n, slots := sl } ∧ R (.ok (.ret (Value.ref s.heap.objs.size))) { s with heap := s.heap.push { cls := Value.type "tuple", data := Data.seq #[] }, toks := s.toks }) :=
  .of_wp fun prog w A R s h => by
    obtain ⟨hp, g, d, tk, os⟩ := s; obtain ⟨hl, h⟩ := h
    have f1 := AutoSeq1.idx_int; have f2 := AutoSeq1.sub_tuple_tuple; have f3 := AutoSeq1.sub_list_list; have f4 := AutoSeq1.sub_tuple_list; have f5 := AutoSeq1.sub_list_tuple
    wp_walk using wpAny_loadPart' hl
    exact ⟨_, rfl, h⟩
theorem tuple_mul2 (l : Addr) (items : Array Value) (n : Nat) (dd : Option Addr) (sl : Array (Option Value)) (x : Int) (u : Tok) (he : items.isEmpty = false) (h1 : (decide (x < -(2 ^ 63)) || decide (x ≥ 2 ^ 63)) = false) (h2 : (x == 1) = false) (h3 : decide (x ≤ 0) = false)
    (h4 : decide ((items.size : Int) * x > (2 ^ 63 - 1) / 8) = false) (h5 : Builtin.Tuple.tupleTooMany ((items.size : Int) * x) = false) (h6 : ((List.replicate x.toNat items).foldl (· ++ ·) #[]).size ≤ sizeLine) :
    Meets (Builtin.«tuple.__mul__» ⟨[.ref l, .int x u], []⟩) (fun _ R s => s.heap.get? l = some { cls := .type "tuple", dict := dd, data := .seq items n, slots := sl } ∧ R (.ok (.ret (Value.ref s.heap.objs.size))) { s with heap := s.heap.push { cls := Value.type "tuple", data := Data.seq ((List.replicate x.toNat items).foldl (· ++ ·) #[]) }, toks := s.toks }) :=
  .of_wp fun prog w A R s h => by
    obtain ⟨hp, g, d, tk, os⟩ := s; obtain ⟨hl, h⟩ := h
    have f1 := AutoSeq1.idx_int; have f2 := AutoSeq1.sub_tuple_tuple; have f3 := AutoSeq1.sub_list_list; have f4 := AutoSeq1.sub_tuple_list; have f5 := AutoSeq1.sub_list_tuple
    wp_walk using wpAny_loadPart' hl
    refine wpAny_ite_false (by rw [h1]; rfl) ?_
    wp_walk using wpAny_loadPart' hl
    refine wpAny_ite_false h4 ?_
    wp_walk using wpAny_loadPart' hl
    first
    | exact ⟨_, rfl, h⟩
    | (refine wpAny_ite_false (by rw [h5]; rfl) ?_
       wp_walk using wpAny_loadPart' hl
       first
       | exact ⟨_, rfl, h⟩
       | (refine wpAny_ite_false (decide_eq_false (Nat.not_lt.mpr h6)) ?_
          wp_walk using wpAny_loadPart' hl
          exact ⟨_, rfl, h⟩))
    | (refine wpAny_ite_false (decide_eq_false (Nat.not_lt.mpr h6)) ?_
       wp_walk using wpAny_loadPart' hl
       exact ⟨_, rfl, h⟩)
theorem noFill_tuple_mul : fillsNumberSlot (.type "tuple") "mul" = pure false :=
  PySem.fillsNumberSlot_seq (id := "tuple.__mul__") (r := some (.builtin "tuple.__rmul__")) F.slot_tuple_mul.lookup (by decide +kernel) F.slot_tuple_rmul.lookup (by decide +kernel)
theorem repeat_tuple : seqRepeat? (.type "tuple") = pure (some (.builtin "tuple.__mul__")) := by
  unfold seqRepeat?
  rw [PySem.seqSlot_of (T := "tuple") (name := "__mul__") (id := "tuple.__mul__") F.slot_tuple_mul.lookup (by decide +kernel), PySem.seqSlot_of (T := "tuple") (name := "__rmul__") (id := "tuple.__rmul__") F.slot_tuple_rmul.lookup (by decide +kernel)]
  rfl
theorem int_rmul_tuple (a : Int) (t : Tok) (l : Addr) (items : Array Value) (n : Nat) (d : Option Addr) (sl : Array (Option Value)) :
    Meets (Builtin.«int.__rmul__» ⟨[.int a t, .ref l], []⟩) (fun _ R s => s.heap.get? l = some { cls := .type "tuple", dict := d, data := .seq items n, slots := sl } ∧ R (.ok (.ret Value.notImplemented)) s) :=
  .of_wp fun prog w A R s h => by obtain ⟨hp, g, d, tk, os⟩ := s; obtain ⟨hl, h⟩ := h; wp_walk; exact ⟨_, rfl, h⟩
theorem foldl_rep' {α : Type} (its : List α) : ∀ (m : Nat) (acc : List α), List.foldl (fun x1 x2 => x1 ++ x2) acc.toArray (List.replicate m its.toArray) = (acc ++ (List.replicate m its).flatten).toArray
  | 0, acc => by simp
  | m + 1, acc => by
    rw [List.replicate_succ, List.foldl_cons, List.replicate_succ, List.flatten_cons]
    have : acc.toArray ++ its.toArray = (acc ++ its).toArray := by simp
    rw [this, foldl_rep' its m (acc ++ its), List.append_assoc]
section
variable {X : Cx}
/-- a tuple times an int, the tuple not empty, from 0 to a thousand times -/
theorem op_repT : OpR X (binaryOp .Mult) (fun x y H Q => ∃ l k xs, x = .ref l ∧ y = .int k ∧ H l = some (.tup xs) ∧ xs ≠ [] ∧ 0 ≤ k ∧ k ≤ 1000 ∧ xs.length ≤ 1000 ∧
    (k = 1 → Q (.ref l) H) ∧ (k ≠ 1 → ∀ p, H p = none → Q (.ref p) (upd H p (.tup (List.replicate k.toNat xs).flatten)))) := by
  intro pins s σ H x y v u Q I rx ry h
  obtain ⟨l, k, xs, rfl, rfl, hH, hne, k0, k1, hx, q1, q2⟩ := h
  cases rx
  obtain ⟨t, rfl⟩ := ry
  obtain ⟨its, r, p1, hz⟩ := I.tuple (SqT.of (K := X.K) hH)
  have hlen := r.length
  have hne' : its ≠ [] := fun z => hne (r.nil_iff.mp z)
  obtain ⟨⟨cls, dd, data, sl⟩, ho, hc, n, hd⟩ := id p1
  simp only at hc hd
  subst hc hd
  refine wpAny_binaryOp_repeat_ref (T := "tuple") (U := "int") (by decide) ⟨_, ho, rfl⟩ (fun s' => typeIs_int s' k t) noFill_tuple_mul F.fills_int_mul F.slot_int_rmul repeat_tuple F.slot_int_index.lookup
    (call_meets F.slot_int_rmul (typeIs_int s k t) F.entry_int_rmul (F.args_int_rmul_2 _ _) (int_rmul_tuple k t l its.toArray n dd sl) ⟨ho, rfl, ⟨_, ho, rfl⟩, ?_⟩)
  have new : ∀ zs : List V, ∀ us : List Value, Vals zs us → zs.length ≤ sizeLine → (∀ p, H p = none → Q (.ref p) (upd H p (.tup zs))) → EP X pins σ Q (.ref s.heap.objs.size) { s with heap := s.heap.push { cls := .type "tuple", data := .seq us.toArray } } := fun zs us rz hzs hq =>
    ⟨.ref s.heap.objs.size, _, I.laid (t' := s.toks) (o := .tup zs) (fun b ob q => Heap.get?_push_of_some _ q) (Nat.le_refl _) ⟨hzs, _, rz, IsTupN.new _ _⟩, rfl, hq _ (I.hok.fresh (Nat.le_refl _))⟩
  by_cases e1 : k = 1
  · subst e1
    exact call_meets F.slot_tuple_mul ⟨_, ho, rfl⟩ F.entry_tuple_mul (F.args_tuple_mul_2 _ _) (tuple_mul1 l its.toArray n dd sl t) ⟨ho, ⟨.ref l, H, I, rfl, q1 rfl⟩⟩
  by_cases e0 : k = 0
  · subst e0
    exact call_meets F.slot_tuple_mul ⟨_, ho, rfl⟩ F.entry_tuple_mul (F.args_tuple_mul_2 _ _) (tuple_mul0 l its.toArray n dd sl t (by simpa using hne')) ⟨ho, new [] [] .nil (by simp) (q2 (by decide))⟩
  have hfold : List.foldl (fun x1 x2 => x1 ++ x2) #[] (List.replicate k.toNat its.toArray) = (List.replicate k.toNat its).flatten.toArray := by
    have := foldl_rep' its k.toNat []
    simpa using this
  have hsz : (its.length : Int) * k ≤ 1000 * 1000 := Int.mul_le_mul (by omega) k1 k0 (by decide)
  have hflat : (List.replicate k.toNat its).flatten.length ≤ sizeLine := by
    rw [len_rep]
    have : k.toNat * its.length ≤ 1000 * 1000 := Nat.mul_le_mul (by omega) (by omega)
    rw [sizeLine_eq]; omega
  refine call_meets F.slot_tuple_mul ⟨_, ho, rfl⟩ F.entry_tuple_mul (F.args_tuple_mul_2 _ _) (tuple_mul2 l its.toArray n dd sl k t (by simpa using hne') ?_ (by simpa using e1) (by simp; omega) ?_ ?_ (by rw [hfold]; simpa using hflat)) ⟨ho, ?_⟩
  · simp; omega
  · simp; omega
  · unfold Builtin.Tuple.tupleTooMany
    rw [List.size_toArray, sizeLine_eq]
    simp
    omega
  · rw [hfold]
    refine new _ _ (r.rep k.toNat) ?_ (q2 e1)
    rw [len_rep]
    have : k.toNat * xs.length ≤ 1000 * 1000 := Nat.mul_le_mul (by omega) (by omega)
    rw [sizeLine_eq]; omega
end
end L2

set_option Elab.async false
set_option linter.all false
set_option maxRecDepth 100000
set_option maxHeartbeats 1000000
namespace L2
open PySem PySem.Spec PyProof.Rows
section
variable {X : Cx} {pins : List (Addr × Obj)} {σ : St} {H : Hp} {s : Shared} {h' : Heap} {fp : List Addr}
/-- several records of ours have turned -/
theorem Inv.turnedL {t' : Nat} (I : Inv X pins σ H s) (hf : ∀ b ∈ fp, FpOk X pins H b) (k : ∀ b o, b ∉ fp → s.heap.get? b = some o → h'.get? b = some o) : Inv X pins σ H { s with heap := h', toks := t' } := by
  have nit : ∀ b u, H b = some u → b ∉ fp := fun b u e z => by rw [(hf b z).1] at e; cases e
  have hL : X.env.locals ∉ fp := fun z => (hf _ z).2.1 rfl
  refine I.step (g' := s.gens) (d' := s.drawn) (ch := fp) (fun b hb => ⟨(hf b hb).2.2.2.1, (hf b hb).2.1, (hf b hb).2.2.2.2.1, (hf b hb).2.2.2.2.2⟩) (fun b o _ _ hc e _ => k b o hc e) (fun b o _ _ hc e _ => ⟨o.slots, k b o hc e⟩) (fun _ _ _ _ n => n)
    (fun b o hc e => ⟨o, k b o hc e⟩) (fun _ _ e => e) (fun _ _ _ e => e) (fun b ps e => ⟨#[], by rw [e]; simp⟩) (fun m hm => ?_) (fun b u e => ?_) I.bare
  · obtain ⟨o, es, ep, ho, r⟩ := hm
    exact ⟨o, es, ep, k _ o hL ho, r⟩
  · refine (I.hok b u e).stay (fun c v hc q => k c v ?_ q) (fun _ q => q) fun _ _ q => q
    rcases hc with z | z
    · rw [z]; exact nit b u e
    · exact nit c _ z
end
end L2

set_option Elab.async false
set_option linter.all false
set_option maxRecDepth 100000
set_option maxHeartbeats 1000000
namespace My
open PySem L2 MA
/-! a pen that is a list: its cells, where it stands, what is left -/
end My

set_option Elab.async false
set_option linter.all false
set_option maxRecDepth 100000
set_option maxHeartbeats 1000000
namespace L2
open PySem PySem.Spec PyProof.Rows
def gTup0 (n : Nat) (t : TGs) : TG := fun v σ H Q => ∃ a xs, v = .ref a ∧ H a = some (.tup xs) ∧ xs.length = n ∧ t xs σ H Q
theorem pg_tup0 {X : Cx} {pos : Pos} {es : List Expr} {k : Nat} {t : TGs} {n : Nat} (hc : X.calm = true) (h : PGs X es t)
    (hn : (assignEach es X.env).length = n := by rfl) (hst : (assignEach es X.env).findIdx? (·.1) = none := by rfl) : PG X (.Tuple es k pos) (gTup0 n t) := by
  intro pins s σ H v u Q I r hw
  obtain ⟨a, xs, e1, hq, hl, hw⟩ := hw
  exact pg_tup hc h hn hst pins s σ H v u Q I r ⟨a, xs, e1, SqT.of hq, hl, hw⟩
def rSlL0 : V → Option Int → Option Int → Hp → VK → Prop := fun x lo hi H Q => ∃ a xs, x = .ref a ∧ H a = some (.lst xs) ∧ ∀ p, H p = none → Q (.ref p) (upd H p (.lst (cutV xs lo hi)))
theorem sl_list0 {X : Cx} : SlR X rSlL0 := by
  intro pins s σ H x v vl vu lo hi sl Q I rx hs pl pu h
  obtain ⟨a, xs, e, hx, q⟩ := h
  exact sl_list pins s σ H x v vl vu lo hi sl Q I rx hs pl pu ⟨a, xs, e, SqL.of hx, q⟩
end L2
namespace My
open PySem L2 MA
end My

set_option Elab.async false
set_option linter.all false
set_option maxRecDepth 100000
set_option maxHeartbeats 4000000
namespace L2
open PySem PySem.Spec PyProof.Rows
section
variable {prog : Program} {w : World} {A : Around} {E : Value → Shared → Prop} {s : Shared}
end
/-- a list (true) or a tuple (false) -/
def IsB (h : Heap) : Bool → Addr → Array Value → Prop
  | true => h.IsList
  | false => h.IsTuple
def IterB (h : Heap) : Bool → Addr → Addr → Nat → Prop
  | true => h.IsListIter
  | false => h.IsTupleIter
def SqB (K : PySem.W.Frag) (H : Hp) : Bool → Addr → List V → Prop
  | true => SqL K H
  | false => SqT K H
theorem IsB.at {h h' : Heap} {b : Bool} {a : Addr} {its : Array Value} (x : IsB h b a its) (k : ∀ o, h.get? a = some o → h'.get? a = some o) : IsB h' b a its := by
  cases b <;> (obtain ⟨o, e, r⟩ := x; exact ⟨o, k o e, r⟩)
theorem IterB.at {h h' : Heap} {b : Bool} {a l : Addr} {i : Nat} (x : IterB h b a l i) (k : ∀ o, h.get? a = some o → h'.get? a = some o) : IterB h' b a l i := by
  cases b <;> (obtain ⟨o, e, r⟩ := x; exact ⟨o, k o e, r⟩)
theorem IterB.ob {h : Heap} {b : Bool} {a l : Addr} {i : Nat} (x : IterB h b a l i) : ∃ o, h.get? a = some o ∧ ∀ v, o.data ≠ .cell v := by
  cases b <;> (obtain ⟨o, e, _, d⟩ := x; exact ⟨o, e, fun v z => by rw [d] at z; cases z⟩)
theorem IsB.lt {h : Heap} {b : Bool} {a : Addr} {its : Array Value} (x : IsB h b a its) : a < h.objs.size := by
  cases b <;> (obtain ⟨o, e, _⟩ := x; exact Heap.lt_size e)
theorem iterB {prog : Program} {w : World} {A : Around} {E : Value → Shared → Prop} {s : Shared} {b : Bool} {l : Addr} {its : Array Value} {Q : Value → Shared → Prop} (hl : IsB s.heap b l its)
    (k : ∀ h', IterB h' b s.heap.objs.size l 0 → h'.objs.size = s.heap.objs.size + 1 → (∀ c o, s.heap.get? c = some o → h'.get? c = some o) → Q (.ref s.heap.objs.size) { s with heap := h' }) : wpAny (model prog w) A (pyIter (.ref l)) Q E s := by
  cases b with
  | true => exact wpAny_pyIter_list hl (k _ ⟨_, Heap.get?_push_size _ rfl, rfl, rfl⟩ (Heap.size_push ..) fun c o e => Heap.get?_push_of_some _ e)
  | false => exact wpAny_pyIter_tuple hl (k _ ⟨_, Heap.get?_push_size _ rfl, rfl, rfl⟩ (Heap.size_push ..) fun c o e => Heap.get?_push_of_some _ e)
section
variable {X : Cx} {pins : List (Addr × Obj)} {σ : St} {H : Hp} {s : Shared} {a : Addr} {xs ys : List V} {b : Bool}
theorem Inv.seqB (I : Inv X pins σ H s) (h : SqB X.K H b a xs) : ∃ its : List Value, Vals xs its ∧ IsB s.heap b a its.toArray ∧ xs.length ≤ sizeLine := by
  cases b with
  | true => obtain ⟨its, r, p, z⟩ := I.list h; exact ⟨its, r, p.isList, z⟩
  | false => obtain ⟨its, r, p, z⟩ := I.tuple h; exact ⟨its, r, p, z⟩
end
end L2

set_option Elab.async false
set_option linter.all false
set_option maxRecDepth 100000
set_option maxHeartbeats 4000000
namespace L2
open PySem PySem.Spec PyProof.Rows
section
variable {prog : Program} {w : World} {A : Around} {E : Value → Shared → Prop} {s : Shared}
end
end L2

set_option Elab.async false
set_option linter.all false
set_option maxRecDepth 100000
set_option maxHeartbeats 4000000
namespace L2
open PySem PySem.Spec PyProof.Rows
end L2
namespace L2
open PySem PySem.Spec PyProof.Rows
section
variable {prog : Program} {w : World} {A : Around} {E : Value → Shared → Prop} {s : Shared}
end
end L2

set_option Elab.async false
set_option linter.all false
set_option maxRecDepth 100000
set_option maxHeartbeats 4000000
namespace L2
open PySem PySem.Spec PyProof.Rows
theorem walksB {prog : Program} {w : World} {A : Around} (hh : A.handled = none) (b : Bool) (I l : Addr) (hne : l ≠ I) (its : Array Value) :
    Walks prog w A I [I, l] [I] its.size (fun i v => its[i]? = some v) (fun i h => IterB h b I l i ∧ IsB h b l its) := by
  cases b with
  | true => exact Walks.list hh I l hne its
  | false => exact Walks.tuple hh I l hne its
section
variable {X : Cx}
theorem SqB.t {K : PySem.W.Frag} {H : Hp} {a : Addr} {xs : List V} (h : H a = some (.tup xs)) : SqB K H false a xs := SqT.of h
/-- o[i] by values, o a list (for o[i] += e) -/
def rGetL : V → V → Hp → VK → Prop := fun o i H Q => ∃ p xs k v, o = .ref p ∧ i = .int k ∧ 0 ≤ k ∧ H p = some (.lst xs) ∧ atI xs k = some v ∧ Q v H
theorem get_list : PGet X rGetL := by
  intro pins s σ H o i ov iv Q I ro ri h
  obtain ⟨p, xs, k, z, rfl, rfl, h0, hp, he, q⟩ := h
  cases ro
  obtain ⟨t, rfl⟩ := ri
  obtain ⟨its, r, pl, hz⟩ := I.list (SqL.of (K := X.K) hp)
  obtain ⟨j, h1, h2, h3, h4, h5⟩ := atI_get he
  obtain ⟨w, ew, rw'⟩ := r.get h2
  have hl := r.length
  have hn := line63
  have hj : k.toNat = j := by
    rw [seqIndex_of h0 h5] at h1
    exact Option.some.inj h1
  exact wpAny_getItem_list pl.isList h0 (by omega) (by rw [hj]; simpa using ew) ⟨z, H, I, rw', q⟩
end
end L2

set_option Elab.async false
set_option linter.all false
set_option maxRecDepth 100000
set_option maxHeartbeats 1000000
namespace L2
open PySem PySem.Spec PyProof.Rows MA
/-! ### ints in a row -/
abbrev iv (ns : List Int) : List V := ns.map V.int
theorem iv_at {ns : List Int} {i : Nat} {x : V} (h : (iv ns)[i]? = some x) : ∃ y, ns[i]? = some y ∧ x = .int y := by
  rw [List.getElem?_map] at h
  cases e : ns[i]? with
  | none => rw [e] at h; cases h
  | some y => rw [e] at h; cases h; exact ⟨y, rfl, rfl⟩
theorem iv_get {ns : List Int} {i : Nat} (h : i < ns.length) : (iv ns)[i]? = some (.int ns[i]) := by rw [List.getElem?_map, List.getElem?_eq_getElem h]; rfl
theorem iv_atI {ns : List Int} {i : Nat} (h : i < ns.length) : atI (iv ns) (i : Int) = some (.int (ns.getD i 0)) := by
  rw [atI_nat (iv_get h), getD_of h]
theorem iv_flat (ns : List Int) : (iv ns).all flatV = true := by simp [flatV]
theorem eqSeq_ints (xs ys : List Int) : eqSeq (iv xs) (iv ys) = decide (xs = ys) := by
  rw [Bool.eq_iff_iff, decide_eq_true_eq]
  unfold eqSeq
  rw [Bool.and_eq_true, List.all_eq_true]
  constructor
  · rintro ⟨h, hl⟩
    have hl : xs.length = ys.length := by simpa using hl
    refine List.ext_getElem hl fun i h1 h2 => ?_
    have := h i (by simp; omega)
    rw [getD_of (by simpa using h1), getD_of (by simpa using h2)] at this
    simpa [eqV] using this
  · rintro rfl
    refine ⟨fun i hi => ?_, by simp⟩
    have hi : i < xs.length := by simpa using hi
    rw [getD_of (by simpa using hi)]
    simp [eqV]
section
variable {X : Cx}
theorem op_eqI (hu : X.A.units < cLine) : OpR X (compareOp .Eq) (fun x y H Q => ∃ a b xs ys, x = .ref a ∧ y = .ref b ∧ H a = some (.tup (iv xs)) ∧ H b = some (.tup (iv ys)) ∧ Q (.bl (decide (xs = ys))) H) := by
  intro pins s σ H x y v u Q I rx ry h
  obtain ⟨a, b, xs, ys, e1, e2, ha, hb, q⟩ := h
  exact op_eqT hu pins s σ H x y v u Q I rx ry ⟨a, b, _, _, e1, e2, SqT.of ha, SqT.of hb, iv_flat _, iv_flat _, by rw [eqSeq_ints]; exact q⟩
theorem op_neI (hu : X.A.units < cLine) : OpR X (compareOp .NotEq) (fun x y H Q => ∃ a b xs ys, x = .ref a ∧ y = .ref b ∧ H a = some (.tup (iv xs)) ∧ H b = some (.tup (iv ys)) ∧ Q (.bl (!decide (xs = ys))) H) := by
  intro pins s σ H x y v u Q I rx ry h
  obtain ⟨a, b, xs, ys, e1, e2, ha, hb, q⟩ := h
  exact op_neT hu pins s σ H x y v u Q I rx ry ⟨a, b, _, _, e1, e2, SqT.of ha, SqT.of hb, iv_flat _, iv_flat _, by rw [eqSeq_ints]; exact q⟩
end
theorem cut_take {xs : List V} {k : Nat} (h : k ≤ xs.length) : cutV xs none (some (k : Int)) = xs.take k := by
  unfold cutV
  rw [HT.sIx_nat, HT.sIx_none]
  simp only [List.drop_zero, Nat.sub_zero]
  rw [Nat.min_eq_left h]
theorem data_ints (H : Hp) : ∀ ns : List Int, DataL H (iv ns) (ns.map PyData.int)
  | [] => .nil
  | n :: ns => .cons (.int n) (data_ints H ns)
end L2
namespace My
open PySem L2 MA
theorem lz {m : Nat} (n : Nat) (h : m = n) (hn : n ≤ 100 := by decide) : m ≤ sizeLine := by
  rw [h, sizeLine_eq]; omega
theorem penX_upd {H H2 : Hp} {p acc : Addr} {n m : Nat} (hn : H acc = none) (hp : Pen H p n) (x : SameX p H H2) (hp2 : Pen H2 p m) (o : HO) : Pen (upd H2 acc o) p m ∧ SameX p H (upd H2 acc o) := by
  obtain ⟨c, ns, a, l, h1, h2, _, _⟩ := hp
  obtain ⟨c', ns', a', l', h1', h2', h3', h4'⟩ := hp2
  have hap : p ≠ acc := ne_of_none h1 hn
  have hac : c ≠ acc := ne_of_none h2 hn
  obtain ⟨a'', l'', e⟩ := x.pen c a l h1
  rw [h1'] at e
  have ec : c' = c := by
    have e' := congrArg (fun o => match o with | some (HO.dK ((_, V.ref q) :: _)) => q | _ => c) e
    exact e'
  subst ec
  refine ⟨⟨c', ns', a', l', by rw [upd_ne hap]; exact h1', by rw [upd_ne hac]; exact h2', h3', h4'⟩, ⟨fun b u hb hbp => ?_, fun c2 a2 l2 e2 => ?_⟩⟩
  · rw [upd_ne (ne_of_none hb hn)]; exact x.all b u hb hbp
  · rw [upd_ne hap]; exact x.pen c2 a2 l2 e2
/-- what isn't the pen stays beside draws -/
theorem Pen.nep {H : Hp} {p b : Addr} {n : Nat} {o : HO} (hp : Pen H p n) (hb : H b = some o) (ho : ∀ kvs, o ≠ .dK kvs := by intro _ z; cases z) : b ≠ p := by
  obtain ⟨kvs, e⟩ := hp.dk
  rintro rfl
  rw [hb] at e
  cases e
  exact ho _ rfl
theorem Pen.keep {H H' : Hp} {p b : Addr} {n : Nat} {o : HO} (hp : Pen H p n) (x : SameX p H H') (hb : H b = some o) (ho : ∀ kvs, o ≠ .dK kvs := by intro _ z; cases z) : H' b = some o := x.all b o hb (hp.nep hb ho)
end My

set_option Elab.async false
set_option linter.all false
set_option maxRecDepth 100000
set_option maxHeartbeats 1000000
namespace L2
open PySem PySem.Spec PyProof.Rows MA
end L2
namespace HT
open PySem PySem.Spec PyProof.Rows
section
variable {prog : Program} {w : World} {A : Around} {E : Value → Shared → Prop} {s : Shared}
theorem getItem_tuple_all {t sl : Addr} {items : Array Value} {vl vu : Value} {lo hi : Option Int} {Q : Value → Shared → Prop} (ht : IsTup s.heap t items) (hs : s.heap.IsSliceOf sl vl vu .none) (pl : IsPart vl lo) (pu : IsPart vu hi)
    (hw : sIx items.size 0 lo = 0 ∧ sIx items.size items.size hi = items.size) (h : Q (.ref t) s) : wpAny (model prog w) A (getItem (.ref t) (.ref sl)) Q E s := by
  obtain ⟨os, q1, q2, q3⟩ := id hs
  have T : s.TypeIs (.ref sl) "slice" := ⟨os, q1, q2⟩
  unfold getItem
  try with_reducible refine wpAny_holding ?_
  first | refine wpAny_bind (wpAny_pure ?_) | skip
  refine wpAny_bind (wpAny_sequenceKey ht.typeIs (by decide) (wpAny_bind (wpAny_callSpecial?_slot (name := Str.ofString "__getitem__") ht.typeIs PyProof.Rows.slot_tuple_getitem (wpAny_call_entry PyProof.Rows.slot_tuple_getitem ht.typeIs entry_tuple_getitem ?_ (args_tuple_getitem _ _)))))
  refine wpAny_bind (m := Builtin.Tuple.tupleItemsOf (.ref t)) (tupleItemsOf_ ht (wpAny_bind (wpAny_typeOf T ?_)))
  rw [if_pos (by decide)]
  refine wpAny_bind (sliceApplied_gen hs pl pu ?_)
  show wpAny (model prog w) _ (if (((sIx items.size 0 lo : Nat) : Int) == 0 && (1 : Int) == 1 && (sIx items.size items.size hi - sIx items.size 0 lo) == items.size) = true then _ else _) _ _ s
  rw [if_pos (by rw [hw.1, hw.2]; simp)]
  refine wpAny_bind (m := Builtin.Tuple.tupleIsExact (.ref t)) ?_
  unfold Builtin.Tuple.tupleIsExact
  refine wpAny_bind (wpAny_typeOf ht.typeIs (wpAny_pure ?_))
  rw [if_pos (by decide)]
  exact wpAny_bind (wpAny_rule (wpAny_pure ⟨_, rfl, wpAny_pure h⟩))
theorem adjust_rev (n : Nat) : Builtin.Slice.sliceAdjust none none (-1) (n : Int) = ((n : Int) - 1, -1) := by
  simp [Builtin.Slice.sliceAdjust]
theorem places_rev (n : Nat) : Builtin.Slice.slicePlaces ((n : Int) - 1) (-1) (-1) = n := by
  unfold Builtin.Slice.slicePlaces
  simp
  try omega
theorem pick_rev (xs : Array Value) : ((List.range xs.size).filterMap fun (m : Nat) => xs[(((xs.size : Int) - 1) + (m : Int) * -1).toNat]?).toArray = xs.toList.reverse.toArray := by
  have e : (List.range xs.size).filterMap (fun (m : Nat) => xs[(((xs.size : Int) - 1) + (m : Int) * -1).toNat]?) = ((List.range xs.size).map fun k => xs.size - 1 - k).filterMap (xs[·]?) := by
    rw [List.filterMap_map]
    congr 1
    funext m
    have : (((xs.size : Int) - 1) + (m : Int) * -1).toNat = xs.size - 1 - m := by omega
    simp only [this, Function.comp]
  rw [e, PySem.W.krv_range, List.filterMap_reverse, PySem.W.krv_all]
theorem getItem_tuple_rev {t sl : Addr} {items : Array Value} {vk : Value} {Q : Value → Shared → Prop} (ht : IsTup s.heap t items) (hs : s.heap.IsSliceOf sl .none .none vk) (pk : IsPart vk (some (-1)))
    (h : Q (.ref s.heap.objs.size) { s with heap := s.heap.push { cls := .type "tuple", data := .seq items.toList.reverse.toArray } }) (hsz : items.size ≤ sizeLine) : wpAny (model prog w) A (getItem (.ref t) (.ref sl)) Q E s := by
  obtain ⟨os, q1, q2, q3⟩ := id hs
  have T : s.TypeIs (.ref sl) "slice" := ⟨os, q1, q2⟩
  have ok : sizeOk (.seq items.toList.reverse.toArray) := by
    show items.toList.reverse.toArray.size ≤ sizeLine
    rw [List.size_toArray, List.length_reverse, Array.length_toList]
    exact hsz
  unfold getItem
  try with_reducible refine wpAny_holding ?_
  first | refine wpAny_bind (wpAny_pure ?_) | skip
  refine wpAny_bind (wpAny_sequenceKey ht.typeIs (by decide) (wpAny_bind (wpAny_callSpecial?_slot (name := Str.ofString "__getitem__") ht.typeIs PyProof.Rows.slot_tuple_getitem (wpAny_call_entry PyProof.Rows.slot_tuple_getitem ht.typeIs entry_tuple_getitem ?_ (args_tuple_getitem _ _)))))
  refine wpAny_bind (m := Builtin.Tuple.tupleItemsOf (.ref t)) (tupleItemsOf_ ht (wpAny_bind (wpAny_typeOf T ?_)))
  rw [if_pos (by decide)]
  refine wpAny_bind (m := Builtin.Slice.sliceApplied (.ref sl) (pure (items.size : Int))) ?_
  unfold Builtin.Slice.sliceApplied Builtin.Slice.sliceFields
  refine wpAny_bind (wpAny_bind (wpAny_field q1 q3 (x := .none) rfl (wpAny_bind (wpAny_field q1 q3 (x := .none) rfl (wpAny_bind (wpAny_field q1 q3 (x := vk) rfl (wpAny_pure ?_)))))))
  refine wpAny_bind (slicePart_ pk ?_)
  show wpAny (model prog w) _ (if ((-1 : Int) == 0) = true then _ else _) _ _ s
  rw [if_neg (by decide)]
  refine wpAny_bind (slicePart_none (wpAny_bind (slicePart_none (wpAny_bind (wpAny_pure ?_)))))
  show wpAny (model prog w) _ (match Builtin.Slice.sliceAdjust none none (-1) (items.size : Int) with | (lo, hi) => pure (lo, (-1 : Int), Builtin.Slice.slicePlaces lo hi (-1))) _ _ s
  rw [adjust_rev]
  show wpAny (model prog w) _ (pure (((items.size : Int) - 1), (-1 : Int), Builtin.Slice.slicePlaces ((items.size : Int) - 1) (-1) (-1))) _ _ s
  rw [places_rev]
  refine wpAny_pure ?_
  show wpAny (model prog w) _ (if (((items.size : Int) - 1) == 0 && (-1 : Int) == 1 && items.size == items.size) = true then _ else _) _ _ s
  rw [if_neg (by simp), pick_rev]
  first
    | exact wpAny_bind (m := Builtin.Tuple.tupleExact _) (wpAny_newObj_type (wpAny_pure ⟨_, rfl, wpAny_pure h⟩) ok)
    | exact wpAny_bind (m := Builtin.Tuple.tupleExact _) (wpAny_newObj_type (wpAny_bind (wpAny_pure (wpAny_pure ⟨_, rfl, wpAny_pure h⟩))) ok)
    | exact wpAny_bind (wpAny_bind (m := Builtin.Tuple.tupleExact _) (wpAny_newObj_type (wpAny_pure (wpAny_pure ⟨_, rfl, wpAny_pure h⟩)) ok))
end
end HT
namespace L2
open PySem PySem.Spec PyProof.Rows MA
/-- t[lo:hi], whatever it is of t -/
theorem sl_tupS {X : Cx} : SlR X (fun x lo hi H Q => ∃ a xs, x = .ref a ∧ H a = some (.tup xs) ∧ ∀ c H', Same H H' → H' c = some (.tup (cutV xs lo hi)) → Q (.ref c) H') := by
  intro pins s σ H x v vl vu lo hi sl Q I rx hs pl pu h
  obtain ⟨a, xs, e, hx, q⟩ := h
  by_cases hw : HT.sIx xs.length 0 lo = 0 ∧ HT.sIx xs.length xs.length hi = xs.length
  · subst e
    cases rx
    obtain ⟨its, r, ht, hz⟩ := I.tuple (SqT.of (K := X.K) hx)
    have hlen : its.toArray.size = xs.length := by rw [List.size_toArray]; exact r.length.symm
    refine ⟨"tuple", _, PyProof.Rows.slot_tuple_getitem.lookup, ht.typeIs, HT.getItem_tuple_all ht hs pl pu (by rw [hlen]; exact hw) ⟨.ref a, H, I, rfl, q a H (Same.refl _) ?_⟩⟩
    have : cutV xs lo hi = xs := by
      unfold cutV
      rw [hw.1, hw.2]
      simp
    rw [this]
    exact hx
  · exact sl_tup pins s σ H x v vl vu lo hi sl Q I rx hs pl pu ⟨a, xs, e, SqT.of hx, hw, fun p hp => q p _ (same_new hp _) upd_same⟩
section
variable {X : Cx} {e : Expr} {te : TE} {p2 p3 p4 pos : Pos}
/-- t[::-1] of a tuple: a new tuple -/
def tRevT (te : TE) : TE := fun σ H Q => te σ H fun x H1 => ∃ a xs, x = .ref a ∧ H1 a = some (.tup xs) ∧ ∀ p, H1 p = none → Q (.ref p) (upd H1 p (.tup xs.reverse))
theorem pe_revT {kk : _} (he : PE X e te) : PE X (.Subscript e (.Slice none none (some (.UnaryOp .USub (.Constant (.int 1) kk p3) p4)) p2) pos) (tRevT te) := by
  intro pins s σ H Q I h
  refine Subscript_ (thn (he pins s σ H _ I h) fun v s1 ⟨x, H1, I1, r1, q1⟩ => ?_)
  obtain ⟨a, xs, rfl, hx, q⟩ := q1
  have hst : PO X (some (.UnaryOp .USub (.Constant (.int 1) kk p3) p4)) (tPart (tUn (rU fun i => .int (-i)) (tC (.int 1)))) := po_some (pe_un un_neg pe_int)
  refine wpAny_Slice ?_
  rw [evalPart_none]
  refine wpAny_pure (wpAny_pure ?_)
  refine thn (hst pins s1 σ H1 (fun st H2 => st = some (-1) ∧ H2 = H1) I1 ?_) fun vk s2 h2 => ?_
  · exact ⟨_, rfl, _, rfl, rfl, rfl⟩
  obtain ⟨st, H2, I2, pk, rfl, rfl⟩ := h2
  have I4 : Inv X pins σ H2 { s2 with heap := s2.heap.push { cls := .type "slice", data := .fields #[.none, .none, vk] } } := I2.kept (t' := s2.toks) fun b ob q => Heap.get?_push_of_some _ q
  cases r1
  obtain ⟨its, r, ht, hz⟩ := I4.tuple (SqT.of (K := X.K) hx)
  have hlen := r.length
  refine tail_any (T := "tuple") (ops := [.ref a, .ref s2.heap.objs.size]) ht.typeIs slot_tuple_getitem.lookup ?_ (by with_unfolding_all rfl)
  refine HT.getItem_tuple_rev ht (Heap.IsSliceOf.new ..) pk ?_ (by rw [List.size_toArray] <;> omega)
  refine ⟨.ref _, _, I4.laid (t' := s2.toks) (o := .tup xs.reverse) (fun b ob q => Heap.get?_push_of_some _ q) (Nat.le_refl _) ?_, rfl, q _ (I4.hok.fresh (Nat.le_refl _))⟩
  exact ⟨by rw [List.length_reverse]; exact hz, _, r.reverse, IsTupN.new _ _⟩
end
end L2
namespace L2
open PySem PySem.Spec PyProof.Rows MA
/-! ### data that lies in tuples and in what is new since H -/
end L2

set_option Elab.async false
set_option linter.all false
set_option maxRecDepth 100000
set_option maxHeartbeats 4000000
namespace L2
open PySem PySem.Spec PyProof.Rows
/-! ### comprehensions of two clauses: the block's body is any action on the new list -/
end L2

set_option Elab.async false
set_option linter.all false
set_option maxRecDepth 100000
set_option maxHeartbeats 1000000
namespace L2
open PySem PySem.Spec PyProof.Rows MA
/-! ### set(list of ints), len of a set, list(range(n)) -/
section
variable {X : Cx}
/-- list(range(n)) -/
def tLR (ta : TA) : TE := fun σ H Q => ta σ H fun vs H1 => ∃ n : Nat, vs = [.int n] ∧ n ≤ 10000 ∧ ∀ p, H1 p = none → Q (.ref p) (upd H1 p (.lst (iv ((List.range n).map fun (i : Nat) => (i : Int)))))
theorem vals_range {n : Nat} : ∀ {acc : List Value}, (acc.length = n ∧ ∀ (j : Nat) v, acc[j]? = some v → ∃ t, v = Value.int ((0 : Int) + (j : Int) * 1) t) → Vals (iv ((List.range n).map fun (i : Nat) => (i : Int))) acc := by
  intro acc h
  obtain ⟨h1, h2⟩ := h
  suffices g : ∀ (l : List Value) (k : Nat), (∀ (j : Nat) v, l[j]? = some v → ∃ t, v = Value.int ((k + j : Nat) : Int) t) → Vals (iv ((List.range' k l.length).map fun (i : Nat) => (i : Int))) l by
    have := g acc 0 fun j v e => by
      obtain ⟨t, rfl⟩ := h2 j v e
      exact ⟨t, by congr 1; omega⟩
    rw [h1, ← List.range_eq_range'] at this
    exact this
  intro l
  induction l with
  | nil => intro k _; exact .nil
  | cons a r ih =>
    intro k h
    have e : List.range' k (a :: r).length = k :: List.range' (k + 1) r.length := by simp [List.range'_succ]
    rw [e]
    refine .cons ?_ (ih (k + 1) fun j v ej => ?_)
    · obtain ⟨t, rfl⟩ := h 0 a rfl
      exact ⟨t, rfl⟩
    · obtain ⟨t, rfl⟩ := h (j + 1) v (by simpa using ej)
      exact ⟨t, by congr 2; omega⟩
theorem pe_listR {a : Expr} {ta : TA} {p p2 pos pos2 : Pos} (hc : X.calm = true) (hl : Gl X "list") (hml : X.mg "list" = none) (hg : Gl X "range") (hm : X.mg "range" = none) (ha : PA X [a] ta) (hs : starEach [a] X.env = [(false, eval a X.env)] := by rfl) :
    PE X (.Call (.Name "list" p) [.Call (.Name "range" p2) [a] [] pos2] [] pos) (tLR ta) := by
  intro pins s σ H Q I h
  refine wpAny_Call_Name_kw (ld_blt I hl hml bt_list ?_ (by decide) (by decide))
  refine PyProof.Rows.callWith_type1 ?_ rfl rfl
  show wpAny _ _ (spliced ((false, eval (.Call (.Name "range" p2) [a] [] pos2) X.env) :: [])) _ _ s
  refine Calls.spliced_cons ?_
  refine Call_ (ld_blt I hg hm boot_range (PyProof.Rows.callWith_type1 (thn (ha pos2 pins s σ H _ I h) fun us s1 ⟨vs, H1, I1, r1, q1⟩ => ?_) hs rfl))
  obtain ⟨n, e, hn, q⟩ := q1
  subst e
  cases r1 with
  | cons r rr =>
    cases rr
    obtain ⟨t, rfl⟩ := r
    refine call_range_1 ?_
    refine wpAny_pure ?_
    have I2 : Inv X pins σ H1 { s1 with heap := s1.heap.push { cls := .type "range", data := .fields #[.int 0 s1.toks, .int n t, .int 1 (s1.toks + 1)] }, toks := s1.toks + 1 + 1 } := I1.kept fun b o e => Heap.get?_push_of_some _ e
    generalize hs2 : ({ s1 with heap := s1.heap.push { cls := .type "range", data := .fields #[.int 0 s1.toks, .int n t, .int 1 (s1.toks + 1)] }, toks := s1.toks + 1 + 1 } : Shared) = s2 at *
    have hr : IsRange s2.heap s1.heap.objs.size 0 n 1 s1.toks t (s1.toks + 1) := by rw [← hs2]; exact IsRange.new ..
    refine call_list_range (n := n) (I2.ok.hd hc) hr (small_one (by omega) (by omega) (by omega) (by omega)) (by rw [rangeSize_one]; first | (split <;> omega) | omega) (by omega) fun h' tk acc c' kp he hi => ?_
    refine ⟨.ref s2.heap.objs.size, _, I2.laid (t' := tk) kp (Nat.le_refl _) (show ObjOk X.prog X.w _ h' _ (.lst _) from ⟨?_, acc.toList, c', vals_range ⟨by rw [Array.length_toList]; exact hi.1, fun j v e => hi.2 j v (by simpa using e)⟩, ?_⟩), rfl, q _ (I2.hok.fresh (Nat.le_refl _))⟩
    · rw [List.length_map, List.length_map, List.length_range, sizeLine_eq]; omega
    · simpa using he
end
/-! ### readings of a clause's walk -/
/-! ### a tuple, a list walked inside a comprehension: no K -/
section
variable {X : Cx} {o e : Expr} {es : List Expr} {to : TE} {t : TA} {name : Str} {apos cpos : Pos} {id : String} {r : V → List V → Hp → VK → Prop}
end
end L2

set_option Elab.async false
set_option linter.all false
set_option maxRecDepth 100000
set_option maxHeartbeats 1000000
namespace L2
open PySem PySem.Spec PyProof.Rows MA SeqAt
/-! ### a text and a dict are not the same -/
section
variable {X : Cx}
end
end L2

set_option Elab.async false
set_option linter.all false
set_option maxRecDepth 100000
set_option maxHeartbeats 1000000
namespace PySem
open Sem (wp)
namespace F
end F
section
variable {prog : Program} {w : World} {K : Type} [DecidableEq K] {knd : KeyKind prog w K} {A : Around} {R : Result → Shared → Prop}
end
end PySem
namespace L2
open PySem PySem.Spec PyProof.Rows MA
section
variable {X : Cx}
end
end L2

set_option Elab.async false
set_option linter.all false
set_option maxRecDepth 100000
set_option maxHeartbeats 4000000
namespace L2
open PySem PySem.Spec PyProof.Rows
/-! ### dict comprehensions of one clause -/
end L2

set_option Elab.async false
set_option linter.all false
set_option maxRecDepth 100000
set_option maxHeartbeats 1000000
namespace L2
open PySem PySem.Spec PyProof.Rows
/-! ### for k, v in d.items(): the dict is frozen from then on -/
end L2

set_option Elab.async false
set_option linter.all false
set_option maxRecDepth 100000
set_option maxHeartbeats 4000000
/-! ### isinstance of an own exception -/
namespace L2
open PySem PySem.Builtin PySem.Builtin.ObjectAttr PySem.Spec PyProof.Rows
section
variable {K : PySem.W.Frag} {e C : Addr} {h : Heap} {M : Model}
end
section
variable {prog : Program} {w : World} {A : Around} {E : Value → Shared → Prop} {s : Shared} {K : PySem.W.Frag} {e C : Addr}
end
end L2

set_option Elab.async false
set_option linter.all false
set_option maxRecDepth 100000
set_option maxHeartbeats 4000000
/-! ### own exceptions -/
namespace L2
open PySem PySem.Spec PyProof.Rows
/-- an own exception in flight, at x, of the class at C: all that was tracked or stood ahead of the call stands in B, which the flight keeps -/
structure FlyB (B : Heap) (a0 : Value) (P : Program) (w : World) (outer : List Env) (H : Hp) (s : Shared) (x C : Addr) (H' : Hp) (s' : Shared) : Prop where
  os : s'.os = s.os
  bare : AllBare s'.gens
  un : Un (frs outer) [] H H' s.heap s'.heap
  hok : HOk P w H' s'.heap
  fl : Heap.FlyingW B outer x (.ref C) a0 s'.heap
  tr : ∀ b u, H' b = some u → ∃ o, B.get? b = some o
  pre : ∀ b o, s.heap.get? b = some o → b ∉ frs outer → ∃ o', B.get? b = some o'
def Fly (P : Program) (w : World) (outer : List Env) (H : Hp) (s : Shared) (x C : Addr) (H' : Hp) (s' : Shared) : Prop := ∃ B a0, FlyB B a0 P w outer H s x C H' s'
def CX1 (P : Program) (w : World) : CXT := fun outer H s E e s' => ∃ x C H', e = .ref x ∧ Fly P w outer H s x C H' s' ∧ E (.ref C) none H'
section
variable {X : Cx} {pins : List (Addr × Obj)} {σ : St} {H H' : Hp} {s s' : Shared}
end
/-! ### raise -/
section
variable {P : Program} {w : World} {K : PySem.W.Frag} {mg : Str → Option Value} {base : Heap} {N : List Str} {qual : Str} {scope : Scope} {f : Addr} {cd : Value} {A : Around} {outer : List Env} {s : Shared} {H : Hp} {E : XK}
end
section
variable {P : Program} {w : World} {K : PySem.W.Frag} {mg : Str → Option Value} {base : Heap} {x : Str} {ps : List Str} {k : Nat} {sp : Sp}
end
end L2

set_option Elab.async false
set_option linter.all false
set_option maxRecDepth 100000
set_option maxHeartbeats 4000000
/-! ### try .. except -/
namespace L2
open PySem PySem.Spec PyProof.Rows
section
variable {P : Program} {w : World} {outer : List Env} {H H' : Hp} {s s' : Shared} {x C : Addr} {B : Heap} {a0 : Value}
end
section
variable {X : Cx} {pins : List (Addr × Obj)} {σ : St} {H H' : Hp} {s s' : Shared} {x C : Addr} {B : Heap} {a0 : Value}
end
/-! ### what may raise: an expression, a statement -/
section
variable {X : Cx}
end
/-! ### the statement -/
end L2

set_option Elab.async false
set_option linter.all false
set_option maxRecDepth 100000
set_option maxHeartbeats 4000000
/-! ### lambdas -/
namespace L2
open PySem PySem.Spec PyProof.Rows
/-- an object that is known and stays; a cell that is known for a while -/
abbrev fz (o : Obj) : HO := .frz o (.own 0)
abbrev fc (o : Obj) : HO := .frz o (.own 1)
def dropC (cs : List Addr) (H : Hp) : Hp := fun b => if b ∈ cs then none else H b
def frzC (h : Heap) (cs : List Addr) (H : Hp) : Hp := fun b => if b ∈ cs then (h.get? b).map fc else H b
def backC (cs : List Addr) (H H2 : Hp) : Hp := fun b => if b ∈ cs then H b else H2 b
section
variable {cs : List Addr} {H H' H2 : Hp} {h h' : Heap} {b : Addr}
theorem dropC_in (e : b ∈ cs) : dropC cs H b = none := if_pos e
theorem dropC_out (e : b ∉ cs) : dropC cs H b = H b := if_neg e
theorem frzC_in {o : Obj} (e : b ∈ cs) (q : h.get? b = some o) : frzC h cs H b = some (fc o) := by unfold frzC; rw [if_pos e, q]; rfl
theorem frzC_out (e : b ∉ cs) : frzC h cs H b = H b := if_neg e
theorem backC_in (e : b ∈ cs) : backC cs H H2 b = H b := if_pos e
theorem backC_out (e : b ∉ cs) : backC cs H H2 b = H2 b := if_neg e
/-- the cells are there, untracked -/
def CellsIn (cs : List Addr) (H : Hp) (h : Heap) : Prop := ∀ c ∈ cs, H c = none ∧ ∃ o, h.get? c = some o
/-- the cells are known -/
def CellsAt (cs : List Addr) (H : Hp) : Prop := ∀ c ∈ cs, ∃ o, H c = some (fc o)
theorem CellsIn.frz (x : CellsIn cs H h) : CellsAt cs (frzC h cs H) := fun c hc => let ⟨_, o, e⟩ := x c hc; ⟨o, frzC_in hc e⟩
theorem out_of {u : HO} (x : CellsIn cs H h) (e : H b = some u) : b ∉ cs := fun z => by rw [(x b z).1] at e; cases e
theorem out_at {u : HO} (x : CellsAt cs H) (e : H b = some u) (n : ∀ o, u ≠ fc o) : b ∉ cs := fun z => by
  obtain ⟨o, q⟩ := x b z
  rw [q] at e
  cases e
  exact n o rfl
variable {P : Program} {w : World} {fs : List Addr}
theorem hok_frz (x : CellsIn cs H h) (ok : HOk P w H h) : HOk P w (frzC h cs H) h := fun b u q => by
  by_cases hb : b ∈ cs
  · obtain ⟨_, o, e⟩ := x b hb
    rw [frzC_in hb e] at q
    cases q
    exact ⟨e, o, e⟩
  · rw [frzC_out hb] at q
    exact (ok b u q).stay (fun _ _ _ z => z) (fun c z => by rw [frzC_out (out_of x z)]; exact z) (fun c xs z => by rw [frzC_out (out_of x z)]; exact z) fun c ob z => by rw [frzC_out (out_of x z)]; exact z
theorem un_frz (x : CellsIn cs H h) (u : Un fs [] (frzC h cs H) H' h h') (ok : HOk P w H' h') : Un fs [] H (dropC cs H') h h' where
  keep := fun b o e n hb he => by
    by_cases hc : b ∈ cs
    · have q := u.frzs b o _ (frzC_in (H := H) hc e)
      exact (ok b _ q).1
    · exact u.keep b o e (by rw [frzC_out hc]; exact n) hb he
  slot := fun b o e n hb he => by
    by_cases hc : b ∈ cs
    · have q := u.frzs b o _ (frzC_in (H := H) hc e)
      exact ⟨o.slots, (ok b _ q).1⟩
    · exact u.slot b o e (by rw [frzC_out hc]; exact n) hb he
  free := fun b o e n he => by
    by_cases hc : b ∈ cs
    · exact dropC_in hc
    · rw [dropC_out hc]
      exact u.free b o e (by rw [frzC_out hc]; exact n) he
  there := u.there
  tups := fun b xs q => by
    have hc := out_of x q
    rw [dropC_out hc]
    exact u.tups b xs (by rw [frzC_out hc]; exact q)
  frzs := fun b o v q => by
    have hc := out_of x q
    rw [dropC_out hc]
    exact u.frzs b o v (by rw [frzC_out hc]; exact q)
  tbls := fun b ps q => by
    have hc := out_of x q
    obtain ⟨m, e⟩ := u.tbls b ps (by rw [frzC_out hc]; exact q)
    exact ⟨m, by rw [dropC_out hc]; exact e⟩
theorem hok_drop (x : CellsAt cs H') (ok : HOk P w H' h') : HOk P w (dropC cs H') h' := fun b u q => by
  by_cases hb : b ∈ cs
  · rw [dropC_in hb] at q
    cases q
  · rw [dropC_out hb] at q
    exact (ok b u q).stay (fun _ _ _ z => z) (fun c z => by rw [dropC_out (out_at x z fun _ => by simp)]; exact z) (fun c xs z => by rw [dropC_out (out_at x z fun _ => by simp)]; exact z)
      fun c ob z => by rw [dropC_out (out_at x z fun _ => by simp)]; exact z
theorem at_of_un (x : CellsAt cs H) (u : Un fs [] H H' h h') : CellsAt cs H' := fun c hc => let ⟨o, e⟩ := x c hc; ⟨o, u.frzs c o _ e⟩
/-- into the lambda's body and back: the cells are not tracked there -/
theorem un_back (x : CellsAt cs H) (u : Un fs [] (dropC cs H) H2 h h') : Un fs [] H (backC cs H H2) h h' := by
  have out : ∀ {b : Addr}, H b = none → b ∉ cs := fun {b} n z => by obtain ⟨o, e⟩ := x b z; rw [n] at e; cases e
  refine ⟨fun b o e n hb he => u.keep b o e (by rw [dropC_out (out n)]; exact n) hb he, fun b o e n hb he => u.slot b o e (by rw [dropC_out (out n)]; exact n) hb he,
    fun b o e n he => by rw [backC_out (out n)]; exact u.free b o e (by rw [dropC_out (out n)]; exact n) he, u.there, fun b xs q => ?_, fun b o v q => ?_, fun b ps q => ?_⟩
  · have hc := out_at x q fun _ => by simp
    rw [backC_out hc]
    exact u.tups b xs (by rw [dropC_out hc]; exact q)
  · by_cases hc : b ∈ cs
    · rw [backC_in hc]; exact q
    · rw [backC_out hc]; exact u.frzs b o v (by rw [dropC_out hc]; exact q)
  · have hc := out_at x q fun _ => by simp
    obtain ⟨m, e⟩ := u.tbls b ps (by rw [dropC_out hc]; exact q)
    exact ⟨m, by rw [backC_out hc]; exact e⟩
theorem hok_back (x : CellsAt cs H) (ok0 : HOk P w H h) (nf : ∀ c ∈ cs, c ∉ fs) (u : Un fs [] (dropC cs H) H2 h h') (ok : HOk P w H2 h') : HOk P w (backC cs H H2) h' := by
  have no : ∀ c ∈ cs, H2 c = none := fun c hc => by
    obtain ⟨o, e⟩ := x c hc
    exact u.free c o (ok0 c _ e).1 (dropC_in hc) (by simp)
  have out : ∀ {b : Addr} {v : HO}, H2 b = some v → b ∉ cs := fun {b v} e z => by rw [no b z] at e; cases e
  intro b v q
  by_cases hc : b ∈ cs
  · rw [backC_in hc] at q
    obtain ⟨o, e⟩ := x b hc
    rw [q] at e
    cases e
    have e2 := u.keep b o (ok0 b _ q).1 (dropC_in hc) (nf b hc) (by simp)
    exact ⟨e2, o, e2⟩
  · rw [backC_out hc] at q
    exact (ok b v q).stay (fun _ _ _ z => z) (fun c z => by rw [backC_out (out z)]; exact z) (fun c xs z => by rw [backC_out (out z)]; exact z) fun c ob z => by rw [backC_out (out z)]; exact z
end
/-- a call's end, seen with the cells known -/
theorem cr_back {P : Program} {w : World} {outer : List Env} {cs : List Addr} {H : Hp} {s s' : Shared} {Q Q' : VK} {E E' : XK} {r : Result} (x : CellsAt cs H) (ok0 : HOk P w H s.heap) (nf : ∀ c ∈ cs, c ∉ frs outer)
    (hQ : ∀ v H2, (∀ c ∈ cs, H2 c = none) → Q v H2 → Q' v (backC cs H H2)) (hE : ∀ c d H2, (∀ c ∈ cs, H2 c = none) → E c d H2 → E' c d (backC cs H H2))
    (h : CR (CX1 P w) outer P w (dropC cs H) s Q E r s') : CR (CX1 P w) outer P w H s Q' E' r s' := by
  have no : ∀ {H2 : Hp}, Un (frs outer) [] (dropC cs H) H2 s.heap s'.heap → ∀ c ∈ cs, H2 c = none := fun u c hc => by
    obtain ⟨o, e⟩ := x c hc
    exact u.free c o (ok0 c _ e).1 (dropC_in hc) (by simp)
  cases r with
  | error e =>
    obtain ⟨y, C, H2, rfl, ⟨B, a0, F⟩, hx⟩ := h
    refine ⟨y, C, backC cs H H2, rfl, ⟨B, a0, F.os, F.bare, un_back x F.un, hok_back x ok0 nf F.un F.hok, F.fl, fun b u q => ?_, F.pre⟩, hE _ _ _ (no F.un) hx⟩
    by_cases hc : b ∈ cs
    · obtain ⟨o, e⟩ := x b hc
      exact F.pre b o (ok0 b _ e).1 (nf b hc)
    · rw [backC_out hc] at q
      exact F.tr b u q
  | ok fl =>
    cases fl with
    | ret u =>
      obtain ⟨v, H2, os, bare, un, hok, rv, q⟩ := h
      exact ⟨v, backC cs H H2, os, bare, un_back x un, hok_back x ok0 nf un hok, rv, hQ v H2 (no un) q⟩
    | next => exact h
    | brk => exact h
    | cont => exact h
end L2

set_option Elab.async false
set_option linter.all false
set_option maxRecDepth 100000
set_option maxHeartbeats 4000000
/-! ### a lambda without arguments, handed to a def that calls it -/
namespace L2
open PySem PySem.Spec PyProof.Rows
abbrev Sp0 := Hp → VK → XK → Prop
/-- the context of a lambda's body -/
def cxLam (P : Program) (w : World) (K : PySem.W.Frag) (mg : Str → Option Value) (base : Heap) (N : List Str) (qual : Str) (scope : Scope) (cl : List (Str × Addr)) (f : Addr) (cd : Value) (A : Around) (outer : List Env) (s : Shared) (H : Hp) (E : XK) : Cx where
  prog := P
  w := w
  K := K
  mg := mg
  base := base
  A := A.deeper (PySem.W.envX qual scope s.heap.objs.size f cd cl)
  N := N
  s₀ := s
  H₀ := H
  env := PySem.W.envX qual scope s.heap.objs.size f cd cl
  outer := outer
  stack := PySem.W.envX qual scope s.heap.objs.size f cd cl :: outer
  ex := []
  calm := true
  fn := fun _ => false
  pn := []
  xe := fun e s' => wpAny (model P w) (A.deeper (PySem.W.envX qual scope s.heap.objs.size f cd cl)) (leaving (PySem.W.envX qual scope s.heap.objs.size f cd cl) e) (fun _ s'' => CX1 P w outer H s E e s'') (fun e' s'' => CX1 P w outer H s E e' s'') s'
section
variable {P : Program} {w : World} {K : PySem.W.Frag} {mg : Str → Option Value} {base : Heap} {N : List Str} {qual : Str} {scope : Scope} {cl : List (Str × Addr)} {f c' : Addr} {cd : Value}
/-- what the call of the lambda promises -/
def spLam (cs : List Addr) (Hc : Hp) (f c' : Addr) (te : XK → TE) (σl : St) : Sp0 := fun H' Q' E' => H' f = Hc f ∧ H' c' = Hc c' ∧ (∀ c ∈ cs, H' c = Hc c) ∧ ∃ Qu Eu, te Eu σl (dropC cs H') Qu ∧
  (∀ v H2, (∀ c ∈ cs, H2 c = none) → Qu v H2 → Q' v (backC cs H' H2)) ∧ (∀ c d H2, (∀ c ∈ cs, H2 c = none) → Eu c d H2 → E' c d (backC cs H' H2))
end
/-! ### the lambda is made -/
structure LamB (mg : Str → Option Value) (base : Heap) (c P : Addr) : Prop where
  cd : PySem.W.CodeHd base c P
  bm : ∃ bm ob, mg "__builtins__" = some (.ref bm) ∧ bm ≠ builtinsNs ∧ base.get? bm = some ob ∧ ob.cls = .type "module" ∧ ob.dict = some builtinsNs ∧ ob.data = .plain
theorem among_snoc {pos : Pos} {a b : Nat} {c cv : Value} : ∀ (l : List Value), TriplesOk l → codeAmong pos (l ++ [rawInt a, rawInt b, c]) = some cv → codeAmong pos l = some cv ∨ cv = c := fun l => by
  fun_induction TriplesOk l with
  | case1 =>
    intro _ h
    right
    simp only [List.nil_append, rawInt, codeAmong] at h
    split at h
    · exact (Option.some.inj h).symm
    · cases h
  | case2 i1 t1 i2 t2 v rest ih =>
    intro ok h
    simp only [List.cons_append, codeAmong] at h ⊢
    split at h
    · rename_i z
      rw [if_pos z]
      exact .inl h
    · rename_i z
      rw [if_neg z]
      exact ih ok h
  | case3 l h1 h2 => intro ok; exact ok.elim
theorem triples_snoc {a b : Nat} {c : Value} : ∀ (l : List Value), TriplesOk l → TriplesOk (l ++ [rawInt a, rawInt b, c]) := fun l => by
  fun_induction TriplesOk l with
  | case1 => intro _; exact True.intro
  | case2 i1 t1 i2 t2 v rest ih => intro ok; exact ih ok
  | case3 l h1 h2 => intro ok; exact ok.elim
section
variable {X : Cx} {pins : List (Addr × Obj)} {σ : St} {H : Hp} {s : Shared} {c P : Addr} {q : Str} {params : Arguments} {body : Expr} {scope : Scope} {pos : Pos} {cl : List (Str × Addr)}
theorem lam_made {E : Value → Shared → Prop} {M : Model} {A : Around} (L : LamB X.mg X.base c P) (hcode : X.env.code = .ref c) (hq : X.env.qual ++ "<lambda>" = q) (hdef : defaultsOf params X.env = ([], [])) (hcl : closureFor scope X.env = pure cl) (I : Inv X pins σ H s) (hP : H P = some (.tab q)) :
    wpAny M A (eval (.Lambda params body scope pos) X.env) (fun v s1 => ∃ f c' oc vs t pm ctv H1, v = .ref f ∧ Inv X pins σ H1 s1 ∧ Same H H1 ∧ H1 f = some (fz (PySem.W.kla_obj "<lambda>" q params body scope cl pm c' ctv)) ∧ H1 c' = some (fz oc) ∧ oc.data = .fields vs ∧ vs[1]? = some (.str q t)) E s := by
  refine PySem.W.kla_eval hdef ?_
  rw [hq]
  obtain ⟨ps, eP, tr, cs⟩ := I.hok P _ hP
  have hgs : s.heap.Ns mainGlobals X.mg := I.mod.glob.keeps I.bk
  obtain ⟨bm, ob, b1, b2, b3, b4, b5, b6⟩ := L.bm
  have hgP : mainGlobals ≠ P := fun z => by
    obtain ⟨o, es, ep, e, hd, _⟩ := hgs
    rw [z, eP] at e; cases e; cases hd
  have hbP : bm ≠ P := fun z => by
    have e := I.bk _ _ b3
    rw [z, eP] at e; cases e; cases b4
  have hbG : bm ≠ mainGlobals := fun z => by
    obtain ⟨o, es, ep, e, hd, _⟩ := I.mod.glob
    rw [z, e] at b3; cases b3; rw [hd] at b6; cases b6
  have hB : s.heap.BuiltinsAt X.mg P := ⟨bm, ob, b1, b2, hbG, hbP, I.bk _ _ b3, b4, b5, b6⟩
  cases hf : codeAmong pos ps.toList with
  | some cv =>
    obtain ⟨c', oc, vs, t, rfl, e1, e2, e3⟩ := cs pos cv hf
    refine PySem.W.kla_makeFunctionHit hcl I.ok.glob hgs hcode (L.cd.keeps I.bk) eP tr hf hB fun ctv h' tk hk hsz => ?_
    have hn : H h'.objs.size = none := I.hok.fresh hsz
    refine ⟨h'.objs.size, c', oc, vs, t, (X.mg "__name__").getD .none, ctv, upd H h'.objs.size (fz _), rfl, I.laid (t' := tk) (fun b u e => Heap.get?_push_of_some _ (hk b u e)) hsz ⟨Heap.get?_push_size _ rfl, _, Heap.get?_push_size _ rfl⟩, same_new hn _, upd_same, ?_, e2, e3⟩
    rw [upd_ne (ne_of_none e1 hn)]
    exact e1
  | none =>
    refine PySem.W.kla_makeFunction hcl I.ok.glob hgs hcode (L.cd.keeps I.bk) eP tr hf hgP hB fun c' ctv h' tk hx hge hlt hrec htb => ?_
    obtain ⟨c2, oc, vs, t, e2, hoc, hd, hv⟩ := hrec
    cases e2
    generalize hfo : PySem.W.kla_obj "<lambda>" q params body scope cl ((X.mg "__name__").getD .none) c' ctv = fo
    have hn1 : H c' = none := I.hok.fresh hge
    have hsz : s.heap.objs.size ≤ h'.objs.size := Nat.le_of_lt (Nat.lt_of_le_of_lt hge hlt)
    have hfc : h'.objs.size ≠ c' := Nat.ne_of_gt hlt
    have hn2 : upd H c' (fz oc) h'.objs.size = none := by rw [upd_ne hfc]; exact I.hok.fresh hsz
    have sm : Same H (upd (upd H c' (fz oc)) h'.objs.size (fz fo)) := (same_new hn1 _).trans (same_new hn2 _)
    have kp : ∀ b o, b ≠ P → s.heap.get? b = some o → (h'.push fo).get? b = some o := fun b o hb e => Heap.get?_push_of_some _ (hx b o hb e)
    have nP : ∀ b, H b = none → b ≠ P := fun b n z => by rw [z, hP] at n; cases n
    have new : ∀ b o, s.heap.get? b = some o → upd (upd H c' (fz oc)) h'.objs.size (fz fo) b = H b := fun b o e => by
      have l := Heap.lt_size e
      rw [upd_ne (Nat.ne_of_lt (Nat.lt_of_lt_of_le l hsz)), upd_ne (Nat.ne_of_lt (Nat.lt_of_lt_of_le l hge))]
    have eP2 : (h'.push fo).get? P = some { cls := .none, data := .fields (ps ++ #[rawInt pos.line, rawInt pos.col, .ref c']) } := Heap.get?_push_of_some _ htb
    have c'P : c' ≠ P := fun z => by rw [z, hP] at hn1; cases hn1
    refine ⟨h'.objs.size, c', oc, vs, t, (X.mg "__name__").getD .none, ctv, upd (upd H c' (fz oc)) h'.objs.size (fz fo), rfl, I.un (h' := h'.push fo) (t' := tk) ⟨fun b o e n _ _ => kp b o (nP b n) e, fun b o e n _ _ => ⟨o.slots, kp b o (nP b n) e⟩, fun b o e n _ => by rw [new b o e]; exact n, fun b o e _ => ?_, fun b xs z => sm b _ z, fun b o u z => sm b _ z, fun b ps z => ⟨#[], by rw [sm b _ z]; simp⟩⟩ fun b u z => ?_, sm, by rw [hfo]; exact upd_same, by rw [upd_ne (Ne.symm hfc)]; exact upd_same, hd, hv⟩
    · by_cases hb : b = P
      · rw [hb]; exact ⟨_, eP2⟩
      · exact ⟨o, kp b o hb e⟩
    · by_cases hb : b = h'.objs.size
      · rw [hb, upd_same] at z
        cases z
        rw [hb]
        exact ⟨Heap.get?_push_size _ (by rw [← hfo]; rfl), _, Heap.get?_push_size _ (by rw [← hfo]; rfl)⟩
      · rw [upd_ne hb] at z
        by_cases hc : b = c'
        · rw [hc, upd_same] at z
          cases z
          rw [hc]
          exact ⟨Heap.get?_push_of_some _ hoc, _, Heap.get?_push_of_some _ hoc⟩
        · rw [upd_ne hc] at z
          by_cases hbP' : b = P
          · subst hbP'
            rw [hP] at z
            cases z
            refine ⟨_, eP2, ?_, fun pos2 cv h2 => ?_⟩
            · rw [Array.toList_append]
              exact triples_snoc _ tr
            · rw [Array.toList_append] at h2
              rcases among_snoc _ tr h2 with h3 | h3
              · obtain ⟨c3, oc3, vs3, t3, g1, g2, g3⟩ := cs pos2 cv h3
                exact ⟨c3, oc3, vs3, t3, g1, sm _ _ g2, g3⟩
              · exact ⟨c', oc, vs, t, h3, by rw [upd_ne (Ne.symm hfc)]; exact upd_same, hd, hv⟩
          · refine (I.hok b u z).stay (fun d v hdd e => kp d v ?_ e) (fun d e => sm _ _ e) (fun d xs e => sm _ _ e) fun d ob e => sm _ _ e
            rcases hdd with y | y
            · rw [y]; exact hbP'
            · intro y2
              rw [y2, hP] at y
              cases y
end
end L2

set_option Elab.async false
set_option linter.all false
set_option maxRecDepth 100000
set_option maxHeartbeats 4000000
namespace L2
open PySem PySem.Spec PyProof.Rows
theorem drop_frz {cs : List Addr} {H : Hp} {h : Heap} (x : CellsIn cs H h) : dropC cs (frzC h cs H) = H := by
  funext b
  by_cases hb : b ∈ cs
  · rw [dropC_in hb, (x b hb).1]
  · rw [dropC_out hb, frzC_out hb]
theorem drop_back {cs : List Addr} {H H2 : Hp} (x : ∀ c ∈ cs, H2 c = none) : dropC cs (backC cs H H2) = H2 := by
  funext b
  by_cases hb : b ∈ cs
  · rw [dropC_in hb, x b hb]
  · rw [dropC_out hb, backC_out hb]
/-! ### the closure is called, within a try -/
/-! ### isinstance(x, c): c by its name -/
end L2

set_option Elab.async false
set_option linter.all false
set_option maxRecDepth 100000
set_option maxHeartbeats 4000000
/-! ### the head of a law one of whose defs makes lambdas -/
namespace L2
open PySem PySem.Spec PyProof.Rows
def qLam (x : Str) : Str := (x ++ ".<locals>.") ++ "<lambda>"
/-- the def by the name x: its code, its table of lambdas -/
structure LamFor (mg : Str → Option Value) (base : Heap) (x : Str) (c P : Addr) : Prop where
  fn : ∃ f o fd, mg x = some (.ref f) ∧ base.get? f = some o ∧ o.data = .func fd ∧ fd.code = .ref c
  lb : LamB mg base c P
theorem FunAt.calL {P : Program} {w : World} {K : PySem.W.Frag} {mg : Str → Option Value} {base : Heap} {x : Str} {ps N : List Str} {st : Stmt} {k : Nat} {sp : Sp} {c T : Addr} (F : FunAt K mg x ps st) (kb : K.In base) (L : LamFor mg base x c T) (S : FnScope N ps (defScope st)) (len : ∀ vs H Q E, sp vs H Q E → vs.length = ps.length)
    (hbody : ∀ (f : Addr) (A : Around) (outer : List Env) (s : Shared) (H : Hp) (vs : List V) (Q : VK) (E : XK), Room k (A.deeper (envOfC x (defScope st) s.heap.objs.size f (.ref c))) → sp vs H Q E →
      ∃ t, PSs (cxOf CX0 P w K mg base N x (defScope st) f (.ref c) A outer s H E).nox (defBody st) t ∧ t { nx := fun _ H' => Q .non H', rt := Q } (start N vs) H) : Cal P w K mg base x ps (k + 1) sp := by
  obtain ⟨f, fd, F1, m, b⟩ := F.ex
  refine ⟨f, fd, ?_, m, F1.kp, b⟩
  obtain ⟨oc, od, kV, doc, pm, an, cdv, ct, osl, rfl, lk, hcd⟩ := F1.ex
  have e : cdv = .ref c := by
    obtain ⟨f2, o2, fd2, m2, g2, d2, c2⟩ := L.fn
    rw [m] at m2
    cases m2
    rw [kb _ _ lk] at g2
    cases g2
    cases d2
    exact c2
  subst e
  refine fn_of lk hcd S len fun A outer s H vs Q E hr hsp => ?_
  obtain ⟨t, h, q⟩ := hbody f A outer s H vs Q E hr hsp
  exact ⟨t, h.nox, q⟩
theorem law_callT {P : Program} {w : World} {K : PySem.W.Frag} {mg mb : Str → Option Value} {k : Nat} {fa a : Addr} {fd : FuncData} {x : Str} {sp : Sp} {s₁ : Shared} {vs : List Value} {ns : List Int} {lams : List Str} {cp : Str → Addr × Addr}
    (KX : K.In s₁.heap) (hns : s₁.heap.Ns mainGlobals mg) (hb : s₁.heap.Ns builtinsNs mb) (hbb : ∀ x : Str, x ≠ "__name__" → mb x = bootBuiltins x) (hlim : s₁.heap.NoLimit) (hg : s₁.gens = #[])
    (hbm : ∃ bm ob, mg "__builtins__" = some (.ref bm) ∧ bm ≠ builtinsNs ∧ s₁.heap.get? bm = some ob ∧ ob.cls = .type "module" ∧ ob.dict = some builtinsNs ∧ ob.data = .plain)
    (ha : s₁.heap.get? a = some { cls := .type "list", data := .seq vs.toArray }) (hi : IntsAre vs ns) (hl : ns.length ≤ sizeLine) (hr : Room k callerA) (noT : PySem.W.noTabs K = true)
    (hT : ∀ y ∈ lams, (∃ f o fd, mg y = some (.ref f) ∧ s₁.heap.get? f = some o ∧ o.data = .func fd ∧ fd.code = .ref (cp y).1) ∧ PySem.W.CodeHd s₁.heap (cp y).1 (cp y).2 ∧ s₁.heap.get? (cp y).2 = some (PySem.W.tabObj #[]))
    (hinj : ∀ y ∈ lams, ∀ z ∈ lams, (cp y).2 = (cp z).2 → y = z)
    (F : ∀ base : Heap, K.In base → base.Ns mainGlobals mg → (∀ y ∈ lams, LamFor mg base y (cp y).1 (cp y).2) → FnOk P w K mg base CX0 k fa fd [x] sp) (hbind : ∀ (s : Shared) (u : Value), BindsTo s fd ⟨[u], []⟩ [(x, u)])
    (hsp : ∀ H : Hp, SqL K H a (ns.map V.int) → (∀ y ∈ lams, H (cp y).2 = some (.tab (qLam y))) → sp [.ref a] H (fun v H' => v = .bl true ∧ ∀ y ∈ lams, H' (cp y).2 = some (.tab (qLam y))) fun _ _ _ => False) :
    codeAny (model P w) callerA (.call (.ref fa) ⟨[.ref a], []⟩) (fun r s' => r = .ok (.ret (.bool true)) ∧ OldK s₁.heap s'.heap ∧ s'.os = s₁.os ∧ AllBare s'.gens) s₁ := by
  have rv := vals_ints hi
  have lenV := hi.length
  have kT : ∀ y ∈ lams, K.lookup (cp y).2 = none := fun y hy => by
    cases e : K.lookup (cp y).2 with
    | none => rfl
    | some o =>
      have e2 := KX _ _ e
      rw [(hT y hy).2.2] at e2
      cases e2
      have := List.all_eq_true.mp noT _ (PySem.W.mem_of_lookupK e)
      exact absurd (show false = true from this) Bool.false_ne_true
  have aT : ∀ y ∈ lams, (cp y).2 ≠ a := fun y hy z => by
    have e := (hT y hy).2.2
    rw [z, ha] at e
    cases e
  have core : ∀ H : Hp, SqL K H a (ns.map V.int) → (∀ y ∈ lams, H (cp y).2 = some (.tab (qLam y))) → HOk P w H s₁.heap → (∀ b u, H b = some u → (b = a ∧ K.lookup a = none ∧ ∃ o v, u = .frz o v) ∨ ∃ y ∈ lams, b = (cp y).2) →
      codeAny (model P w) callerA (.call (.ref fa) ⟨[.ref a], []⟩) (fun r s' => r = .ok (.ret (.bool true)) ∧ OldK s₁.heap s'.heap ∧ s'.os = s₁.os ∧ AllBare s'.gens) s₁ := by
    intro H hS hTab hok hA
    have non : ∀ {b : Addr} {o : Obj}, s₁.heap.get? b = some o → (∀ ps, o ≠ PySem.W.tabObj ps) → (K.lookup a = none → b ≠ a) → H b = none := fun {b o} e n na => by
      cases q : H b with
      | none => rfl
      | some u =>
        rcases hA b u q with ⟨z, kz, _⟩ | ⟨y, hy, z⟩
        · exact absurd z (na kz)
        · rw [z, (hT y hy).2.2] at e
          cases e
          exact absurd rfl (n #[])
    have noA : ∀ {b : Addr} {o : Obj} {es : Array DictEntry} {ep : Nat}, s₁.heap.get? b = some o → o.data = .dict es ep → H b = none := fun {b o es ep} e d => by
      refine non e (fun ps z => by rw [z] at d; cases d) fun _ z => ?_
      rw [z, ha] at e
      cases e
      cases d
    have nsK : ∀ {b : Addr} {m : Str → Option Value}, s₁.heap.Ns b m → (hidT s₁.heap H).Ns b m := fun {b m} ⟨o, es, ep, e, d, r⟩ => ⟨o, es, ep, hidT_get e (noA e d), d, r⟩
    have hKb : K.In (hidT s₁.heap H) := fun b o e => hidT_get (KX b o e) (by
      cases q : H b with
      | none => rfl
      | some u =>
        rcases hA b u q with ⟨z, kz, _⟩ | ⟨y, hy, z⟩
        · rw [z, kz] at e; cases e
        · rw [z, kT y hy] at e; cases e)
    have hM : Mod K mg (hidT s₁.heap H) := ⟨hKb, nsK hns, ⟨mb, nsK hb, hbb⟩, let ⟨mc, h1, h2⟩ := hlim; ⟨mc, nsK h1, h2⟩⟩
    have e0 : Env0 P w K mg (hidT s₁.heap H) callerA [] s₁ H := ⟨rfl, hM, fun b o e => of_hidT e, Nat.le_of_eq (hidT_size _ _), trivial, fun b hb => absurd (show b ∈ ([] : List Addr) from hb) (by simp), hok, .of_eq hg⟩
    have lamB : ∀ y ∈ lams, LamFor mg (hidT s₁.heap H) y (cp y).1 (cp y).2 := fun y hy => by
      obtain ⟨⟨f, o, fd', m1, g1, d1, c1⟩, ⟨o2, vs2, file, tf, flags, tg, inF, text, tt, p1, p2, p3, r⟩, _⟩ := hT y hy
      obtain ⟨bm, ob, q1, q2, q3, q4, q5⟩ := hbm
      refine ⟨⟨f, o, fd', m1, hidT_get g1 (non g1 (fun ps z => by rw [z] at d1; cases d1) fun _ z => by rw [z, ha] at g1; cases g1; cases d1), d1, c1⟩, ⟨o2, vs2, file, tf, flags, tg, inF, text, tt, hidT_get p1 (non p1 (fun ps z => by rw [z] at p2; cases p2) fun _ z => by rw [z, ha] at p1; cases p1; exact absurd p2 (by simp)), p2, p3, r⟩, bm, ob, q1, q2, hidT_get q3 (non q3 (fun ps z => by rw [z] at q4; cases q4) fun _ z => by rw [z, ha] at q3; cases q3; exact absurd q4 (by simp)), q4, q5⟩
    refine codeAny_mono ((F _ hKb (nsK hns) lamB).run callerA [] s₁ H ⟨[.ref a], []⟩ [.ref a] [.ref a] _ _ hr e0 (hbind s₁ (.ref a)) (.cons rfl .nil) (hsp H hS hTab)) fun r s' h => ?_
    cases r with
    | error e => exact False.elim h
    | ok fl =>
      cases fl with
      | next => exact False.elim h
      | brk => exact False.elim h
      | cont => exact False.elim h
      | ret u =>
        obtain ⟨v, H', os, bare, un, hok', r', q⟩ := h
        obtain ⟨q', qT⟩ : v = .bl true ∧ ∀ y ∈ lams, H' (cp y).2 = some (.tab (qLam y)) := q
        subst q'
        obtain rfl : u = Value.bool true := r'
        refine ⟨rfl, ⟨fun b o e => ?_, fun b o e => un.there b o e (by simp)⟩, os, bare⟩
        cases q : H b with
        | none => exact .inl (un.keep b o e q (by intro z; exact absurd (show b ∈ ([] : List Addr) from z) (by simp)) (by simp))
        | some u =>
          rcases hA b u q with ⟨z, kz, ob, v, rfl⟩ | ⟨y, hy, z⟩
          · have z2 := un.frzs b ob _ q
            obtain ⟨e1, _⟩ := hok b _ q
            obtain ⟨e2, _⟩ := hok' b _ z2
            rw [e] at e1; cases e1
            exact .inl e2
          · subst z
            have e2 := (hT y hy).2.2
            rw [e] at e2
            cases e2
            obtain ⟨ps, e3, _⟩ := hok' _ _ (qT y hy)
            exact .inr (.inl ⟨((hT y hy).2.1.tab (hT y hy).2.2).isCodeTable, rfl, #[], ps, rfl, by rw [Array.empty_append]; exact e3⟩)
  have fnd : ∀ y ∈ lams, lams.find? (fun z => decide ((cp z).2 = (cp y).2)) = some y := fun y hy => by
    cases e : lams.find? (fun z => decide ((cp z).2 = (cp y).2)) with
    | none => exact absurd (decide_eq_true rfl) (List.find?_eq_none.mp e y hy)
    | some z =>
      have h1 := List.mem_of_find?_eq_some e
      have h2 := of_decide_eq_true (List.find?_some (p := fun z => decide ((cp z).2 = (cp y).2)) e)
      rw [hinj z h1 y hy h2]
  have tabOk : ∀ (H : Hp) (y : Str), y ∈ lams → ObjOk P w H s₁.heap (cp y).2 (.tab (qLam y)) := fun H y hy => ⟨#[], (hT y hy).2.2, True.intro, fun pos cv h => by cases (show (none : Option Value) = some cv from h)⟩
  cases hk : K.lookup a with
  | some o =>
    have e := KX a o hk
    rw [ha] at e
    cases e
    refine core (fun b => (lams.find? fun z => decide ((cp z).2 = b)).map fun y => .tab (qLam y)) (.inr ⟨_, vs.toArray, _, hk, rfl, rfl, rfl, by rw [List.size_toArray, lenV]; exact hl, by simpa using rv⟩) (fun y hy => by rw [fnd y hy]; rfl) (fun b u z => ?_) fun b u z => ?_
    · obtain ⟨y, e1, rfl⟩ := Option.map_eq_some_iff.mp z
      have h1 := List.mem_of_find?_eq_some e1
      have h2 := of_decide_eq_true (List.find?_some (p := fun z => decide ((cp z).2 = b)) e1)
      rw [← h2]
      exact tabOk _ y h1
    · obtain ⟨y, e1, rfl⟩ := Option.map_eq_some_iff.mp z
      exact .inr ⟨y, List.mem_of_find?_eq_some e1, (of_decide_eq_true (List.find?_some (p := fun z => decide ((cp z).2 = b)) e1)).symm⟩
  | none =>
    refine core (fun b => if b = a then some (.frz { cls := .type "list", data := .seq vs.toArray } (.lst (ns.map V.int))) else (lams.find? fun z => decide ((cp z).2 = b)).map fun y => .tab (qLam y)) (.inl (.inr ⟨{ cls := .type "list", data := .seq vs.toArray }, if_pos rfl⟩)) (fun y hy => by rw [if_neg (aT y hy), fnd y hy]; rfl) (fun b u z => ?_) fun b u z => ?_
    · by_cases hb : b = a
      · have z' := (if_pos hb).symm.trans z
        cases z'
        subst hb
        exact ⟨ha, by rw [List.length_map]; exact hl, vs, _, rv, ha⟩
      · have z' := (if_neg hb).symm.trans z
        obtain ⟨y, e1, rfl⟩ := Option.map_eq_some_iff.mp z'
        have h1 := List.mem_of_find?_eq_some e1
        have h2 := of_decide_eq_true (List.find?_some (p := fun z => decide ((cp z).2 = b)) e1)
        rw [← h2]
        exact tabOk _ y h1
    · by_cases hb : b = a
      · have z' := (if_pos hb).symm.trans z
        cases z'
        exact .inl ⟨hb, hk, _, _, rfl⟩
      · have z' := (if_neg hb).symm.trans z
        obtain ⟨y, e1, rfl⟩ := Option.map_eq_some_iff.mp z'
        exact .inr ⟨y, List.mem_of_find?_eq_some e1, (of_decide_eq_true (List.find?_some (p := fun z => decide ((cp z).2 = b)) e1)).symm⟩
theorem walk_ofT {l : PySem.W.OpenLaw} {n k : Nat} {q : Program} {loose : List Str} {XP : (Str → Option Value) → Heap → Prop} {YP : World → Heap → Prop} {d : DefRec} {K : Params → PySem.W.Frag} {sp : World → (Str → Addr × Addr) → Sp} {x : Str} {lams : List Str}
    (hn : l.most = some n) (hn2 : n ≤ sizeLine) (hdf : d.params.defaults = []) (hr : Room k callerA) (noT : ∀ p, PySem.W.noTabs (K p) = true) (hlam : ∀ y ∈ lams, ∃ e ∈ recsOf q, e.name = y)
    (hY : ∀ (w : World) (h : Heap), YP w h → (K w.params).In h)
    (hinj : ∀ (w : World) (mg : Str → Option Value) (h : Heap) (cp : Str → Addr × Addr), (K w.params).In h → h.Ns mainGlobals mg →
      (∀ y ∈ lams, (∃ f o fd, mg y = some (.ref f) ∧ h.get? f = some o ∧ o.data = .func fd ∧ fd.code = .ref (cp y).1) ∧ PySem.W.CodeHd h (cp y).1 (cp y).2 ∧ h.get? (cp y).2 = some (PySem.W.tabObj #[])) → ∀ y ∈ lams, ∀ z ∈ lams, (cp y).2 = (cp z).2 → y = z)
    (F : ∀ (w : World) (mg : Str → Option Value) (fa : Addr) (h : Heap), (K w.params).In h → h.Ns mainGlobals mg → mg d.name = some (.ref fa) →
      ∃ fd : FuncData, (∀ (s : Shared) (u : Value), BindsTo s fd ⟨[u], []⟩ [(x, u)]) ∧
        ∀ (cp : Str → Addr × Addr) (base : Heap), (K w.params).In base → base.Ns mainGlobals mg → (∀ y ∈ lams, LamFor mg base y (cp y).1 (cp y).2) → FnOk l.prog w (K w.params) mg base CX0 k fa fd [x] (sp w cp))
    (hsp : ∀ (w : World) (cp : Str → Addr × Addr) (H : Hp) (a : Addr) (ns : List Int), ns.length ≤ n → SqL (K w.params) H a (ns.map V.int) → (∀ y ∈ lams, H (cp y).2 = some (.tab (qLam y))) →
      sp w cp [.ref a] H (fun v H' => v = .bl true ∧ ∀ y ∈ lams, H' (cp y).2 = some (.tab (qLam y))) fun _ _ _ => False) :
    PySem.W.WalkO q loose XP YP l.row.toRowW d [] (fun f vs => PySem.call f vs) := by
  refine Att.attach_call hn hdf fun w s₀ s₁ mg mb fa o pm cd doc a vs ns G Y ho hd hcd hmg hobj hints hlen hg => ?_
  have KX := hY w _ Y
  obtain ⟨fd, hb, hF⟩ := F w mg fa _ KX G.T.g hmg
  have ex : ∀ y : Str, ∃ cp : Addr × Addr, y ∈ lams → (∃ f o fd, mg y = some (.ref f) ∧ s₁.heap.get? f = some o ∧ o.data = .func fd ∧ fd.code = .ref cp.1) ∧ PySem.W.CodeHd s₁.heap cp.1 cp.2 ∧ s₁.heap.get? cp.2 = some (PySem.W.tabObj #[]) := fun y => by
    by_cases hy : y ∈ lams
    · obtain ⟨e, he, rfl⟩ := hlam y hy
      obtain ⟨a', o', fd', c, P, h1, h2, h3, h4, h5, h6⟩ := G.T.tab e he
      exact ⟨(c, P), fun _ => ⟨⟨a', o', fd', h1, h2, h3, h4⟩, PySem.W.CodeHd.of h5 h6, h6.2⟩⟩
    · exact ⟨(0, 0), fun z => absurd z hy⟩
  obtain ⟨cp, hcp⟩ := Classical.axiomOfChoice ex
  exact law_callT KX G.T.g G.T.b G.T.builtins G.T.nolimit hg G.T.bmain hobj hints (Nat.le_trans hlen hn2) hr (noT _) hcp (hinj w mg _ cp KX G.T.g hcp) (hF cp) hb fun H hS hT => hsp w cp H a ns hlen hS hT
end L2
namespace L2
end L2

set_option Elab.async false
set_option linter.all false
set_option maxRecDepth 100000
set_option maxHeartbeats 4000000
namespace My
open PySem L2 MA
end My
namespace L2
end L2
namespace My
open PySem L2 MA
def spLawT (K : PySem.W.Frag) (T : Addr) (q : Str) : Sp := fun vs H Q _ => ∃ (a : Addr) (ns : List Int), vs = [.ref a] ∧ SqL K H a (ns.map V.int) ∧ ns.length ≤ 63 ∧ H T = some (.tab q) ∧ ∀ H', H' T = some (.tab q) → Q (.bl true) H'
end My
namespace My
open PySem L2 MA
theorem lam_rec {q : Program} {x : Str} {d : PySem.DefRec} (hr : (PyProof.Rows.recsOf q).find? (fun e => e.name == x) = some d) : ∃ e ∈ PyProof.Rows.recsOf q, e.name = x :=
  ⟨d, List.mem_of_find?_eq_some hr, beq_iff_eq.mp (List.find?_some (p := fun e : PySem.DefRec => e.name == x) hr)⟩
end My

set_option Elab.async false
set_option linter.all false
set_option maxRecDepth 100000
set_option maxHeartbeats 4000000
namespace L2
open PySem PySem.Spec PyProof.Rows
/-- [.. for x in range(n) if ..] -/
theorem comp_rngT {n : Nat} {lo : Int} {tc : TT} {te : TE} {H : Hp} {R : Addr → Hp → Prop} {fs : St} (Pv : Addr → Nat → List V → Hp → Prop) (hn : n ≤ 100000) (hp0 : ∀ p, H p = none → Pv p 0 [] (upd H p (.lst [])))
    (hte : ∀ p i ys H', H p = none → i < n → Pv p i ys H' → H' p = some (.lst ys) → ∀ (Qf : Hp → Prop) (Q' : VK), (∀ H'', H'' p = some (.lst ys) → Pv p (i + 1) ys H'' → Qf H'') →
      (∀ v H'', H'' p = some (.lst ys) → Pv p (i + 1) (ys ++ [v]) (upd H'' p (.lst (ys ++ [v]))) → Q' v H'') → tc (some (.int (lo + i)) :: fs) H' (fun b H4 => if b = true then te (some (.int (lo + i)) :: fs) H4 Q' else Qf H4))
    (q : ∀ p ys H', H p = none → Pv p n ys H' → H' p = some (.lst ys) → R p H') :
    ∀ p, H p = none → ∃ W : Nat → Nat → List V → St → Hp → Prop, (∃ m, W 0 m [] (none :: fs) (upd H p (.lst []))) ∧ ∀ i m ys σ' H', W i m ys σ' H' →
      ((Itr lo n).stop i H' ∧ R p H') ∨ ((Itr lo n).go i H' ∧ ∀ x H2, (Itr lo n).yld i H' x H2 → gName 0 x σ' H2 fun σ2 H3 => tc σ2 H3 fun b H4 => if b = true then te σ2 H4 fun v H5 => ys.length < sizeLine ∧ H5 p = some (.lst ys) ∧ (∃ m', m' < m ∧ W (i + 1) m' (ys ++ [v]) σ2 (upd H5 p (.lst (ys ++ [v]))))
        else ∃ m', m' < m ∧ W (i + 1) m' ys σ2 H4) := by
  intro p hp
  refine ⟨fun i m ys σ' H' => m = n - i ∧ i ≤ n ∧ ys.length ≤ i ∧ Pv p i ys H' ∧ H' p = some (.lst ys) ∧ ∃ o, σ' = o :: fs, ⟨n, by simp, Nat.zero_le _, Nat.le_refl _, hp0 p hp, upd_same, _, rfl⟩, ?_⟩
  rintro i m ys σ' H' ⟨rfl, hi, hl, pv, hp', o, rfl⟩
  by_cases hlt : i < n
  · refine .inr ⟨hlt, fun x H2 hy => ?_⟩
    obtain ⟨rfl, rfl⟩ := hy
    change tc (some (.int (lo + i)) :: fs) H2 _
    refine hte p i ys H2 hp hlt pv hp' _ _ (fun H5 h5 pv5 => ⟨n - (i + 1), by omega, rfl, hlt, by omega, pv5, h5, _, rfl⟩) fun v H5 h5 pv5 => ⟨?_, h5, n - (i + 1), by omega, rfl, hlt, by simp; omega, pv5, upd_same, _, rfl⟩
    rw [sizeLine_eq]; omega
  · have e : i = n := by omega
    subst e
    exact .inl ⟨Nat.le_refl _, q p ys H' hp pv hp'⟩
section
variable {X : Cx}
end
theorem desc_eq {l m : List Int} (h : l.Perm m) (a : l.Pairwise (· ≥ ·)) (b : m.Pairwise (· ≥ ·)) : l = m := h.eq_of_pairwise (fun x y _ _ h1 h2 => Int.le_antisymm h2 h1) a b
theorem perm_out : ∀ {l : List Int} {i : Nat} {x : Int}, l[i]? = some x → l.Perm (x :: l.eraseIdx i)
  | [], _, _, h => by simp at h
  | a :: r, 0, x, h => by simp at h; subst h; exact .refl _
  | a :: r, i + 1, x, h => by
    simp at h
    exact ((perm_out h).cons a).trans (.swap x a _)
end L2
namespace My
open PySem L2 MA
theorem same_updN {H H' : Hp} {l : Addr} (hl : H l = none) (s : Same H H') (o : HO) : Same H (upd H' l o) := fun b u q => by rw [upd_ne (ne_of_none q hl)]; exact s _ _ q
theorem ixN_nat {n j : Nat} (h : j < n) : ixN n ((j : Nat) : Int) = some j := by
  unfold ixN
  rw [if_pos (by omega), if_pos (by omega)]
  simp
theorem iv_set (ns : List Int) (j : Nat) (y : Int) : (iv ns).set j (.int y) = iv (ns.set j y) := by show (ns.map V.int).set j (.int y) = (ns.set j y).map V.int; rw [List.map_set]
end My
namespace My
open PySem L2 MA
end My

set_option Elab.async false
set_option linter.all false
set_option maxRecDepth 100000
set_option maxHeartbeats 4000000
namespace L2
open PySem PySem.Spec PyProof.Rows
end L2
namespace My
open PySem L2 MA
end My

set_option Elab.async false
set_option linter.all false
set_option maxRecDepth 100000
set_option maxHeartbeats 4000000
namespace L2
open PySem PySem.Spec PyProof.Rows
section
variable {prog : Program} {w : World} {A : Around} {E : Value → Shared → Prop} {s : Shared}
end
end L2

set_option Elab.async false
set_option linter.all false
set_option maxRecDepth 100000
set_option maxHeartbeats 4000000
namespace L2
open PySem PySem.Spec PyProof.Rows
section
variable {prog : Program} {w : World} {A : Around} {E : Value → Shared → Prop} {s : Shared}
end
end L2

set_option Elab.async false
set_option linter.all false
set_option maxRecDepth 100000
set_option maxHeartbeats 4000000
namespace L2
open PySem PySem.Spec PyProof.Rows
end L2

set_option Elab.async false
set_option linter.all false
set_option maxRecDepth 100000
set_option maxHeartbeats 4000000
namespace L2
open PySem PySem.Spec PyProof.Rows
section
variable {prog : Program} {w : World} {A : Around} {E : Value → Shared → Prop} {s : Shared}
end
end L2

set_option Elab.async false
set_option linter.all false
set_option maxRecDepth 100000
set_option maxHeartbeats 4000000
namespace L2
open PySem PySem.Spec PyProof.Rows
section
variable {prog : Program} {w : World} {A : Around} {E : Value → Shared → Prop} {s : Shared}
end
end L2

set_option Elab.async false
set_option linter.all false
set_option maxRecDepth 100000
set_option maxHeartbeats 4000000
namespace L2
open PySem PySem.Spec PyProof.Rows
end L2

set_option Elab.async false
set_option linter.all false
set_option maxRecDepth 100000
set_option maxHeartbeats 4000000
namespace L2
open PySem PySem.Spec PyProof.Rows
end L2

set_option Elab.async false
set_option linter.all false
set_option maxRecDepth 100000
set_option maxHeartbeats 4000000
namespace L2
open PySem PySem.Spec PyProof.Rows MA
section
variable {X : Cx}
/-- != of a list and the empty list -/
theorem op_neE (hu : X.A.units < cLine) : OpR X (compareOp .NotEq) (fun x y H Q => ∃ p q xs, x = .ref p ∧ y = .ref q ∧ H p = some (.lst xs) ∧ H q = some (.lst []) ∧ Q (.bl (decide (xs ≠ []))) H) := by
  intro pins s σ H x y v u Q I rx ry h
  obtain ⟨p, q, xs, rfl, rfl, h1, h2, k⟩ := h
  cases rx
  cases ry
  obtain ⟨us, r1, t1, z1⟩ := I.list (SqL.of h1)
  obtain ⟨ws, r2, t2, z2⟩ := I.list (SqL.of h2)
  cases r2
  by_cases e : xs = []
  · subst e
    cases r1
    refine PySem.W.cmp_ofNotEq (SeqAt.RcNeAt.lists (e := fun _ => true) t1.isList t2.isList rfl hu (fun j a b => absurd a (by simp)) X.prog X.w X.xe _ (fin_bl I k ?_))
    simp
  · have hl := r1.length
    have hx : 0 < xs.length := List.length_pos_iff.mpr e
    refine PySem.W.cmp_ofNotEq (SeqAt.RcNeAt.lists_lengths t1.isList t2.isList (by simp; intro z; rw [z] at hl; simp at hl; exact e hl) hu X.prog X.w X.xe _ (fin_bl I k ?_))
    simp [e]
end
end L2

set_option Elab.async false
set_option linter.all false
set_option maxRecDepth 100000
set_option maxHeartbeats 4000000
namespace My
open PySem L2 MA
end My

set_option Elab.async false
set_option linter.all false
set_option maxRecDepth 100000
set_option maxHeartbeats 4000000
namespace L2
open PySem PySem.Spec PyProof.Rows MA SeqAt
section
variable {X : Cx}
end
end L2

set_option Elab.async false
set_option linter.all false
set_option maxRecDepth 100000
set_option maxHeartbeats 4000000
namespace My
open PySem L2 MA
end My

set_option Elab.async false
set_option linter.all false
set_option maxRecDepth 100000
set_option maxHeartbeats 4000000
namespace My
open PySem L2 MA
end My

set_option Elab.async false
set_option linter.all false
set_option maxRecDepth 100000
set_option maxHeartbeats 4000000
namespace My
open PySem L2 MA
end My

set_option Elab.async false
set_option linter.all false
set_option maxRecDepth 100000
set_option maxHeartbeats 4000000
/-! ### min(xs, key=lambda x: ..), over a list or a tuple -/
namespace L2
open PySem PySem.Spec PyProof.Rows
def ClOk1 (P : Program) (w : World) (K : PySem.W.Frag) (mg : Str → Option Value) (base : Heap) (k : Nat) (f : Addr) (sp : V → Sp0) : Prop :=
  ∀ (A : Around) (outer : List Env) (s : Shared) (H : Hp) (v : V) (u : Value) (Q : VK) (E : XK), Room k A → Env0 P w K mg base A outer s H → RelV v u → sp v H Q E → codeAny (model P w) A (.call (.ref f) ⟨[u], []⟩) (CR (CX1 P w) outer P w H s Q E) s
section
variable {P : Program} {w : World} {K : PySem.W.Frag} {mg : Str → Option Value} {base : Heap} {N : List Str} {qual : Str} {scope : Scope} {cl : List (Str × Addr)} {f c' : Addr} {cd : Value}
theorem lam_run1 {k : Nat} {params : Arguments} {body : Expr} {pm ctv : Value} {cs : List Addr} {Hc : Hp} {σl : St} {oc : Obj} {vs : Array Value} {t : Tok} {te : TE} {px : Str}
    (hkind : scope.kind = .function) (hco : scope.isCoroutine = false) (hgen : scope.isGenerator = false) (hcell : ∀ y ∈ scope.names, y.2 ≠ .cell) (hx : scope.names.lookup px = some .local)
    (hcl1 : ∀ x c, cl.lookup x = some c → c ∈ cs) (inj : ∀ x y c, cl.lookup x = some c → cl.lookup y = some c → x = y) (hcl2 : ∀ x, (x, NameKind.free) ∈ scope.names → ∃ c, cl.lookup x = some c)
    (len : σl.length = N.length) (vals : ∀ (i : Nat) x v, N[i]? = some x → σl[i]? = some (some v) → scope.names.lookup x = some .free ∧ ∃ c o u, cl.lookup x = some c ∧ Hc c = some (fc o) ∧ o.data = .cell (some u) ∧ RelV v u)
    (cells : ∀ c ∈ cs, ∃ o v, Hc c = some (fc o) ∧ o.data = .cell v)
    (hf : Hc f = some (fz (PySem.W.kla_obj "<lambda>" qual params body scope cl pm c' ctv))) (hc : Hc c' = some (fz oc)) (hd : oc.data = .fields vs) (hv : vs[1]? = some (.str qual t))
    (hbind : ∀ u, bindArgs (PySem.W.kla_fn "<lambda>" qual params body scope cl pm (.ref c') ctv) ⟨[u], []⟩ = pure [(px, u)])
    (hbody : ∀ (A : Around) (outer : List Env) (s : Shared) (H : Hp) (E : XK), Room k (A.deeper (PySem.W.envX qual scope s.heap.objs.size f (.ref c') cl)) → PE (cxLam P w K mg base (px :: N) qual scope cl f (.ref c') A outer s H E) body te) :
    ClOk1 P w K mg base (k + 1) f (fun v => spLam cs Hc f c' (fun _ => te) (some v :: σl)) := by
  intro A outer s H' va ua Q' E' hr e0 rva h
  obtain ⟨ef, ec, ecs, Qu, Eu, ht, hQ, hE⟩ := h
  have x : CellsAt cs H' := fun c hcc => by
    obtain ⟨o, v, e, _⟩ := cells c hcc
    exact ⟨o, by rw [ecs c hcc]; exact e⟩
  have nf : ∀ c ∈ cs, c ∉ frs outer := fun c hcc z => by
    obtain ⟨o, e⟩ := x c hcc
    rw [e0.frf c z] at e
    cases e
  refine codeAny_mono (R := CR (CX1 P w) outer P w (dropC cs H') s Qu Eu) ?_ fun r s' h => cr_back x e0.hok nf hQ hE h
  have ho : s.heap.get? f = some (PySem.W.kla_obj "<lambda>" qual params body scope cl pm c' ctv) := (e0.hok f _ (ef.trans hf)).1
  have hoc : s.heap.get? c' = some oc := (e0.hok c' _ (ec.trans hc)).1
  have nolim : s.heap.NoLimit := e0.mod.nolimit.keeps fun b o e => (e0.bs b o e).1
  refine PySem.W.kla_callFunE hr.depth ho rfl hco hgen rfl ⟨c', oc, vs, t, rfl, hoc, hd, hv⟩ ?_
  rw [hbind]
  refine wpAny_pure (wpAny_newFunctionEnv hcell (fun y hy => by rw [List.mem_singleton.mp hy]; exact hx) (fun h1 hns hsb => ⟨nolim.fresh _ hsb, ?_⟩) hkind)
  show codeAny _ _ (.expr body (PySem.W.envX qual scope s.heap.objs.size f (.ref c') cl)) _ _
  have keep : ∀ b u, s.heap.get? b = some u → h1.get? b = some u := fun b u q =>
    hsb.extBut b u (Nat.ne_of_lt (Heap.lt_size q)) (Heap.get?_push_of_some _ q)
  have dn : ∀ {b : Addr}, H' b = none → dropC cs H' b = none := fun {b} n => by
    by_cases hb : b ∈ cs
    · exact dropC_in hb
    · rw [dropC_out hb]; exact n
  have okd : HOk P w (dropC cs H') s.heap := hok_drop x e0.hok
  have noA : ∀ b : Addr, b ∉ (cxLam P w K mg base (px :: N) qual scope cl f (.ref c') A outer s (dropC cs H') Eu).ex := fun b z => absurd (show b ∈ ([] : List Addr) from z) (by simp)
  have cellAt : ∀ c ∈ cs, ∃ o v, s.heap.get? c = some o ∧ o.data = .cell v ∧ Hc c = some (fc o) := fun c hcc => by
    obtain ⟨o, v, e, d⟩ := cells c hcc
    exact ⟨o, v, (e0.hok c _ ((ecs c hcc).trans e)).1, d, e⟩
  have I : Inv (cxLam P w K mg base (px :: N) qual scope cl f (.ref c') A outer s (dropC cs H') Eu) [] (some va :: σl) (dropC cs H') { s with heap := h1, toks := s.toks + ([(px, ua)] : List (Str × Value)).length } := by
    refine ⟨⟨e0.mod, hkind, rfl, rfl, Nat.le_refl _, inj, fun y hy => ?_, fun y c z => Bool.noConfusion (show false = true from z), fun _ => hr.hd, Around.frames_deeper e0.frames, .inr ⟨rfl, rfl⟩, fun b z => absurd z (noA b), fun b o e => ⟨(e0.bs b o e).1, dn (e0.bs b o e).2⟩, e0.bsz, fun b _ _ => noA b, fun b z => absurd z (noA b), e0.funs, fun b hb => dn (e0.frf b hb)⟩,
      rfl, e0.bare, Un.kept keep, ⟨_, hns, fun i y v e1 e2 e3 => ?_⟩, fun y c h => ?_, okd.fresh (Nat.le_refl _), fun y c h => dropC_in (hcl1 y c h), fun p hp => absurd (show p ∈ ([] : List (Addr × Obj)) from hp) (by simp), okd.kept keep, ?_⟩
    · have hy : scope.names.lookup y = some .cell ∨ scope.names.lookup y = some .free := hy
      rcases hy with hy | hy
      · exact absurd rfl (hcell _ (PySem.mem_of_lookup hy))
      · exact hcl2 y (PySem.mem_of_lookup hy)
    · cases i with
      | zero =>
        have ey : px = y := Option.some.inj e1
        have ev : va = v := Option.some.inj (Option.some.inj e2)
        subst ey ev
        exact ⟨ua, rva, .inl ⟨hx, by simp⟩⟩
      | succ i =>
        obtain ⟨l1, c, o, u, l2, l3, l4, l5⟩ := vals i y v e1 e2
        obtain ⟨o2, v2, g1, g2, g3⟩ := cellAt c (hcl1 y c l2)
        rw [l3] at g3
        cases g3
        exact ⟨u, l5, .inr ⟨.inr l1, c, l2, o, keep _ _ g1, l4⟩⟩
    · obtain ⟨o2, v2, g1, g2, _⟩ := cellAt c (hcl1 y c h)
      exact ⟨v2, o2, keep _ _ g1, g2⟩
    · show (some va :: σl).length = (px :: N).length
      simp [len]
  exact PySem.W.kla_codeExpr (wpAny_mono (hbody A outer s (dropC cs H') Eu (hr.deeper _) [] _ (some va :: σl) (dropC cs H') Qu I ht) (fun v s' ⟨v', H2, J, r, q⟩ => ⟨v', H2, J.os, J.bare, J.base, J.hok, r, q⟩) fun e s' z => z)
end
section
variable {X : Cx} {pins : List (Addr × Obj)} {σ : St} {H : Hp} {b : Bool} {l I S f : Addr} {xs : List V} {kf : Nat → Int} {R : Result → Shared → Prop}
theorem minKey_loop (hh : X.A.in1.handled = none) (sq : SqB X.K H b l xs) (hlI : l ≠ I) (hSI : S ≠ I) (fI : FpOk X pins H I) (fS : FpOk X pins H S)
    (turn : ∀ (pins' : List (Addr × Obj)) (s' : Shared) (i : Nat) (v : V) (u : Value), Inv X pins' σ H s' → xs[i]? = some v → RelV v u → wpAny (model X.prog X.w) X.A.in1 (call (.ref f) [u]) (fun r s2 => ∃ t, r = .int (kf i) t ∧ Inv X pins' σ H s2) (fun _ _ => False) s')
    (hR : ∀ (i : Nat) (v : V) (u : Value) (s' : Shared), xs[i]? = some v → RelV v u → (∀ j, j < xs.length → kf i ≤ kf j ∧ (j < i → kf i < kf j)) → Inv X pins σ H s' → R (.ok (.ret u)) s') :
    ∀ (r j i : Nat) (s : Shared) (vb : V) (ub : Value) (tb : Tok) (c : Nat), xs.length - (j + 1) = r → j + 1 ≤ xs.length → Inv X pins σ H s → IterB s.heap b I l (j + 1) → s.heap.get? S = some (seqObj "list" #[ub, .int (kf i) tb] c) →
      xs[i]? = some vb → RelV vb ub → i ≤ j → (∀ j', j' ≤ j → kf i ≤ kf j' ∧ (j' < i → kf i < kf j')) → codeAny (model X.prog X.w) X.A (.builtin "min.loop" ⟨[.ref I, .ref f, .ref S], []⟩) R s := by
  have hname : (toString "min" ++ toString ".loop" : String) = "min.loop" := by decide
  have fpI : ∀ b ∈ [I], FpOk X pins H b := fun b hb => by rw [List.mem_singleton.mp hb]; exact fI
  have fpS : ∀ b ∈ [S], FpOk X pins H b := fun b hb => by rw [List.mem_singleton.mp hb]; exact fS
  have fpB : ∀ b ∈ [I, S], FpOk X pins H b := fun b hb => by
    rcases List.mem_cons.mp hb with rfl | hb
    · exact fI
    · exact fpS b hb
  intro r
  induction r with
  | zero =>
    intro j i s vb ub tb c hr hj J hit hS hvb rvb hij hbest
    obtain ⟨its, rv, p, hz⟩ := J.seqB sq
    have hlen := rv.length
    have hin : j + 1 = its.toArray.size := by rw [List.size_toArray]; omega
    refine codeAny_builtin PySem.F.entry_min_loop ?_
    rw [Around.under_plainId PySem.F.plain_min_loop _]
    show wpAny _ X.A.in1 (seqItems? (.ref S) >>= _) _ _ _
    refine wpAny_bind (wpAny_seqItems hS rfl ?_)
    show wpAny _ X.A.in1 (tryCatch (pyNext (.ref I)) _ >>= _) _ _ _
    refine wpAny_bind (wpAny_tryCatch ((walksB hh b I l hlI its.toArray).done _ _ _ ⟨by rw [← hin]; exact hit, p⟩ fun h' tk' hk' => ?_))
    have J1 : Inv X pins σ H { s with heap := h', toks := tk' } := J.turnedL (t' := tk') fpI fun b o hb e => hk' b o hb e
    have hS' := hk' S _ (by simpa using hSI) hS
    have s1 := Heap.SameBut.update h' S (Obj.mapSeq fun _ => (#[] : Array Value))
    show wpAny _ X.A.in1 (updateSeq S (fun _ => #[]) >>= _) _ _ _
    refine wpAny_bind ?_
    refine wpAny_updateSeq hS' rfl (wpAny_bind (wpAny_letGo (wpAny_pure ?_)))
    exact hR i vb ub _ hvb rvb (fun j' hj' => hbest j' (by omega)) (J1.turnedL (t' := tk') fpS fun b o hb e => (s1.2 b (by simpa using hb)).trans e)
  | succ r ih =>
    intro j i s vb ub tb c hr hj J hit hS hvb rvb hij hbest
    obtain ⟨its, rv, p, hz⟩ := J.seqB sq
    have hlen := rv.length
    have hlt : j + 1 < xs.length := by omega
    refine codeAny_builtin PySem.F.entry_min_loop ?_
    rw [Around.under_plainId PySem.F.plain_min_loop _]
    show wpAny _ X.A.in1 (seqItems? (.ref S) >>= _) _ _ _
    refine wpAny_bind (wpAny_seqItems hS rfl ?_)
    show wpAny _ X.A.in1 (tryCatch (pyNext (.ref I)) _ >>= _) _ _ _
    refine wpAny_bind (wpAny_tryCatch ((walksB hh b I l hlI its.toArray).item (j + 1) _ _ _ (by rw [List.size_toArray]; omega) ⟨hit, p⟩ fun v h' tk' hP hst' hk' => ?_))
    have J1 : Inv X pins σ H { s with heap := h', toks := tk' } := J.turnedL (t' := tk') fpI fun b o hb e => hk' b o hb e
    have hS' := hk' S _ (by simpa using hSI) hS
    have hxv : xs[j + 1]? = some xs[j + 1] := List.getElem?_eq_getElem hlt
    obtain ⟨v', ev, rvv⟩ := rv.get hxv
    have ev' : v' = v := by
      have hP : its[j + 1]? = some v := by simpa using hP
      rw [ev] at hP
      exact Option.some.inj hP
    subst ev'
    have ho : ∀ b ∈ [I, S], ∃ o, h'.get? b = some o ∧ ∀ v, o.data ≠ .cell v := fun b hb => by
      rcases List.mem_cons.mp hb with rfl | hb
      · exact hst'.1.ob
      · rw [List.mem_singleton.mp hb]; exact ⟨_, hS', fun v z => by cases z⟩
    have J1p := J1.pinned fpB ho
    show wpAny _ X.A.in1 (tryCatch (holding [v'] (call (.ref f) [v'])) _ >>= _) _ _ _
    refine wpAny_bind (wpAny_tryCatch (wpAny_holding (wpAny_mono (turn _ _ (j + 1) _ v' J1p hxv rvv) (fun x s2 he => ?_) fun _ _ hF => hF.elim)))
    obtain ⟨t2, rfl, J2p⟩ := he
    have J2 := J2p.unpinned
    have hS2 : s2.heap.get? S = some (seqObj "list" #[ub, .int (kf i) tb] c) := (J2p.pin (S, _) (List.mem_append_right _ (List.mem_append_right _ (mem_pinsAt (by simp) hS')))).1
    have hit2 : IterB s2.heap b I l (j + 1 + 1) := hst'.1.at fun o e => (J2p.pin (I, o) (List.mem_append_right _ (List.mem_append_right _ (mem_pinsAt (by simp) e)))).1
    show wpAny _ X.A.in1 (tryCatch (holding [v', .int (kf (j + 1)) t2] (richCompare .Lt (.int (kf (j + 1)) t2) (.int (kf i) tb) >>= _)) _ >>= _) _ _ _
    refine wpAny_bind (wpAny_tryCatch (wpAny_holding (wpAny_bind (CmpOf.ints_lt (prog := X.prog) (w := X.w) (A := X.A.in1) (P := fun i v => ∃ t, v = .int (kf i) t) kf (fun i v h => h) (j + 1) i _ _ _ _ _ ⟨t2, rfl⟩ ⟨tb, rfl⟩ ?_))))
    refine wpAny_bind (wpAny_holding (wpAny_truthy_bool ?_))
    refine wpAny_bind (wpAny_letGo (wpAny_pure ?_))
    by_cases hb' : kf (j + 1) < kf i
    · have s1 := Heap.SameBut.update s2.heap S (Obj.mapSeq fun _ => #[v', .int (kf (j + 1)) t2])
      obtain ⟨c2, hc2⟩ : ∃ c2, (s2.heap.update S (Obj.mapSeq fun _ => #[v', .int (kf (j + 1)) t2])).get? S = some (seqObj "list" #[v', .int (kf (j + 1)) t2] c2) := ⟨_, get?_update_seq hS2 fun _ => #[v', .int (kf (j + 1)) t2]⟩
      simp only [hb', decide_true, if_true]
      refine wpAny_bind ?_
      refine wpAny_updateSeq hS2 rfl (wpAny_bind (wpAny_letGo ?_))
      rw [hname]
      refine wpAny_pure ⟨plainId_quiet PySem.F.plain_min_loop _, ih (j + 1) (j + 1) _ xs[j + 1] v' t2 c2 (by omega) hlt (J2.turnedL (t' := s2.toks) fpS fun b o hb e => (s1.2 b (by simpa using hb)).trans e) (hit2.at fun o e => (s1.2 I hSI.symm).trans e) hc2 hxv rvv (Nat.le_refl _) fun j' hj' => ?_⟩
      by_cases e : j' = j + 1
      · subst e
        exact ⟨by omega, fun _ => by omega⟩
      · have hb1 := hbest j' (by omega)
        have hb2 := hb1.1
        exact ⟨by omega, fun _ => by omega⟩
    · simp only [hb', decide_false, Bool.false_eq_true, if_false]
      refine wpAny_bind (wpAny_letGo ?_)
      rw [hname]
      refine wpAny_pure ⟨plainId_quiet PySem.F.plain_min_loop _, ih (j + 1) i _ vb ub tb c (by omega) hlt J2 hit2 hS2 hvb rvb (by omega) fun j' hj' => ?_⟩
      by_cases e : j' = j + 1
      · subst e
        exact ⟨by omega, fun _ => by omega⟩
      · exact hbest j' (by omega)
theorem minKey_call {s : Shared} {Q : Value → Shared → Prop} {E : Value → Shared → Prop} (hc : X.calm = true) (J : Inv X pins σ H s) (sq : SqB X.K H b l xs) (hne : xs ≠ [])
    (turn : ∀ (pins' : List (Addr × Obj)) (s' : Shared) (i : Nat) (v : V) (u : Value), Inv X pins' σ H s' → xs[i]? = some v → RelV v u → wpAny (model X.prog X.w) X.A.in1 (call (.ref f) [u]) (fun r s2 => ∃ t, r = .int (kf i) t ∧ Inv X pins' σ H s2) (fun _ _ => False) s')
    (hQ : ∀ (i : Nat) (v : V) (u : Value) (s' : Shared), xs[i]? = some v → RelV v u → (∀ j, j < xs.length → kf i ≤ kf j ∧ (j < i → kf i < kf j)) → Inv X pins σ H s' → Q u s') :
    wpAny (model X.prog X.w) X.A (call (.builtin "min") [.ref l] [(Str.ofString "key", .ref f)]) Q E s := by
  have hname : (toString "min" ++ toString ".loop" : String) = "min.loop" := by decide
  have hh : X.A.in1.handled = none := J.ok.hd hc
  have hpos : 0 < xs.length := List.length_pos_iff.mpr hne
  obtain ⟨its, rv, p, hz⟩ := J.seqB sq
  have hlen := rv.length
  have hll := p.lt
  refine kmk_tree PySem.F.kind_min PySem.F.plain_min PySem.F.entry_min (kmk_min_key _ _) ?_
  show wpAny _ X.A.in1 (Builtin.Builtins.bindParams "min" ["key", "default"] 0 ⟨[], [(Str.ofString "key", .ref f)]⟩ >>= _) _ _ s
  refine wpAny_bind (wpAny_of_eq (show Builtin.Builtins.bindParams "min" ["key", "default"] 0 ⟨[], [(Str.ofString "key", .ref f)]⟩ = pure [some (.ref f), none] from rfl) ?_)
  refine wpAny_bind (wpAny_pure ?_)
  refine wpAny_bind (iterB p fun h0 it0 sz0 k0 => ?_)
  refine wpAny_bind (wpAny_newList ?_ (Nat.zero_le _))
  rw [hname]
  have J0 : Inv X pins σ H { s with heap := h0, toks := s.toks } := J.kept (t' := s.toks) k0
  have JS : Inv X pins σ H { s with heap := h0.push (seqObj "list" #[] 0), toks := s.toks } := J.kept (t' := s.toks) fun b u e => Heap.get?_push_of_some _ (k0 b u e)
  have gS : (h0.push (seqObj "list" #[] 0)).get? h0.objs.size = some (seqObj "list" #[] 0) := Heap.get?_push_size _ rfl
  have hSI : h0.objs.size ≠ s.heap.objs.size := by rw [sz0]; exact Nat.ne_of_gt (Nat.lt_succ_self _)
  have hlI : l ≠ s.heap.objs.size := Nat.ne_of_lt hll
  have fI : FpOk X pins H s.heap.objs.size := J.fpOk (Nat.le_refl _) (J.hok.fresh (Nat.le_refl _))
  have fS : FpOk X pins H h0.objs.size := J.fpOk (by rw [sz0]; exact Nat.le_succ _) (J.hok.fresh (by rw [sz0]; exact Nat.le_succ _))
  have fpI : ∀ b ∈ [s.heap.objs.size], FpOk X pins H b := fun b hb => by rw [List.mem_singleton.mp hb]; exact fI
  have fpS : ∀ b ∈ [h0.objs.size], FpOk X pins H b := fun b hb => by rw [List.mem_singleton.mp hb]; exact fS
  have fpB : ∀ b ∈ [s.heap.objs.size, h0.objs.size], FpOk X pins H b := fun b hb => by
    rcases List.mem_cons.mp hb with rfl | hb
    · exact fI
    · exact fpS b hb
  refine wpAny_pure ⟨plainId_quiet PySem.F.plain_min_loop _, ?_⟩
  generalize hI : s.heap.objs.size = I at *
  generalize hSS : h0.objs.size = S at *
  refine codeAny_builtin PySem.F.entry_min_loop ?_
  rw [Around.under_plainId PySem.F.plain_min_loop _]
  show wpAny _ X.A.in1 (seqItems? (.ref S) >>= _) _ _ _
  refine wpAny_bind (wpAny_seqItems gS rfl ?_)
  show wpAny _ X.A.in1 (tryCatch (pyNext (.ref I)) _ >>= _) _ _ _
  refine wpAny_bind (wpAny_tryCatch ((walksB hh b I l hlI its.toArray).item 0 _ _ _ (by rw [List.size_toArray]; omega) ⟨it0.at fun o e => Heap.get?_push_of_some _ e, p.at fun o e => Heap.get?_push_of_some _ (k0 _ _ e)⟩ fun v h' tk' hP hst' hk' => ?_))
  have J1 : Inv X pins σ H { s with heap := h', toks := tk' } := JS.turnedL (t' := tk') fpI fun b o hb e => hk' b o hb e
  have hS' := hk' S _ (by simpa using hSI) gS
  have hxv : xs[0]? = some xs[0] := List.getElem?_eq_getElem hpos
  obtain ⟨v', ev, rvv⟩ := rv.get hxv
  have ev' : v' = v := by
    have hP : its[0]? = some v := by simpa using hP
    rw [ev] at hP
    exact Option.some.inj hP
  subst ev'
  have ho : ∀ b ∈ [I, S], ∃ o, h'.get? b = some o ∧ ∀ v, o.data ≠ .cell v := fun b hb => by
    rcases List.mem_cons.mp hb with rfl | hb
    · exact hst'.1.ob
    · rw [List.mem_singleton.mp hb]; exact ⟨_, hS', fun v z => by cases z⟩
  have J1p := J1.pinned fpB ho
  show wpAny _ X.A.in1 (tryCatch (holding [v'] (call (.ref f) [v'])) _ >>= _) _ _ _
  refine wpAny_bind (wpAny_tryCatch (wpAny_holding (wpAny_mono (turn _ _ 0 _ v' J1p hxv rvv) (fun x s2 he => ?_) fun _ _ hF => hF.elim)))
  obtain ⟨t2, rfl, J2p⟩ := he
  have J2 := J2p.unpinned
  have hS2 : s2.heap.get? S = some (seqObj "list" #[] 0) := (J2p.pin (S, _) (List.mem_append_right _ (List.mem_append_right _ (mem_pinsAt (by simp) hS')))).1
  have hit2 : IterB s2.heap b I l (0 + 1) := hst'.1.at fun o e => (J2p.pin (I, o) (List.mem_append_right _ (List.mem_append_right _ (mem_pinsAt (by simp) e)))).1
  have s1 := Heap.SameBut.update s2.heap S (Obj.mapSeq fun _ => #[v', .int (kf 0) t2])
  obtain ⟨c2, hc2⟩ : ∃ c2, (s2.heap.update S (Obj.mapSeq fun _ => #[v', .int (kf 0) t2])).get? S = some (seqObj "list" #[v', .int (kf 0) t2] c2) := ⟨_, get?_update_seq hS2 fun _ => #[v', .int (kf 0) t2]⟩
  show wpAny _ X.A.in1 (updateSeq S (fun _ => #[v', .int (kf 0) t2]) >>= _) _ _ _
  refine wpAny_bind ?_
  refine wpAny_updateSeq hS2 rfl ?_
  rw [hname]
  refine wpAny_pure ⟨plainId_quiet PySem.F.plain_min_loop _, minKey_loop hh sq hlI hSI fI fS turn hQ _ 0 0 _ xs[0] v' t2 c2 rfl hpos (J2.turnedL (t' := s2.toks) fpS fun b o hb e => (s1.2 b (by simpa using hb)).trans e) (hit2.at fun o e => (s1.2 I hSI.symm).trans e) hc2 hxv rvv (Nat.le_refl _) fun j' hj' => ?_⟩
  have : j' = 0 := by omega
  subst this
  exact ⟨Int.le_refl _, fun z => absurd z (Nat.lt_irrefl _)⟩
end
end L2

set_option Elab.async false
set_option linter.all false
set_option maxRecDepth 100000
set_option maxHeartbeats 4000000
namespace L2
open PySem PySem.Spec PyProof.Rows
/-- min(e, key=lambda x: ..): the key tells an int and leaves everything as it is -/
def tMinKey (b : Bool) (K : PySem.W.Frag) (P : Addr) (q : Str) (σ0 : St → St) (te : TE) (t : TA) : TE := fun σ H Q => t σ H fun vs H1 => ∃ l xs, vs = [.ref l] ∧ SqB K H1 b l xs ∧ xs ≠ [] ∧ H1 P = some (.tab q) ∧
  ∀ H2, Same H1 H2 → ∃ kf : Nat → Int, (∀ i v, xs[i]? = some v → te (some v :: σ0 σ) H2 (fun u H' => u = .int (kf i) ∧ H' = H2)) ∧ ∀ i v, xs[i]? = some v → (∀ j, j < xs.length → kf i ≤ kf j ∧ (j < i → kf i < kf j)) → Q v H2
theorem SqB.same {K : PySem.W.Frag} {H H1 : Hp} (sm : Same H H1) {b : Bool} {l : Addr} {xs : List V} (h : SqB K H b l xs) : SqB K H1 b l xs := by
  cases b with
  | true =>
    rcases h with (h | ⟨ob, h⟩) | h
    · exact .inl (.inl (sm _ _ h))
    · exact .inl (.inr ⟨ob, sm _ _ h⟩)
    · exact .inr h
  | false =>
    rcases h with (h | ⟨ob, h⟩) | h
    · exact .inl (.inl (sm _ _ h))
    · exact .inl (.inr ⟨ob, sm _ _ h⟩)
    · exact .inr h
theorem pe_minKey {X : Cx} (b : Bool) (kc : Nat) (px : Str) {c P : Addr} {q : Str} {params : Arguments} {body e : Expr} {scope : Scope} {lpos p p4 pos : Pos} {N : List Str} {σ0 : St → St} {te : TE} {t : TA}
    (hr : Room (kc + 2) X.A) (hca : X.calm = true) (L : LamB X.mg X.base c P) (hcode : X.env.code = .ref c) (hq : X.env.qual ++ "<lambda>" = q) (hfn : ∀ x, X.fn x = true)
    (hdef : defaultsOf params X.env = ([], [])) (hkind : scope.kind = .function) (hco : scope.isCoroutine = false) (hgen : scope.isGenerator = false) (hcell : ∀ y ∈ scope.names, y.2 ≠ .cell) (hpx : scope.names.lookup px = some .local)
    (hfr : ∀ y ∈ scope.names, y.2 = .free → X.env.kindOf y.1 = some .cell ∨ X.env.kindOf y.1 = some .free) (hσ : Sees X scope N σ0)
    (hbind : ∀ (cl : List (Str × Addr)) (pm ctv cd u : Value), bindArgs (PySem.W.kla_fn "<lambda>" q params body scope cl pm cd ctv) ⟨[u], []⟩ = pure [(px, u)])
    (hg : Gl X "min") (hm : X.mg "min" = none) (ha : PA X [e] t)
    (hbody : ∀ (cl : List (Str × Addr)) (f c' : Addr) (A : Around) (outer : List Env) (s : Shared) (H : Hp) (E : XK), Room kc (A.deeper (PySem.W.envX q scope s.heap.objs.size f (.ref c') cl)) → PE (cxLam X.prog X.w X.K X.mg X.base (px :: N) q scope cl f (.ref c') A outer s H E) body te)
    (he : backTo pos (starEach [e] X.env) = (false, eval e X.env) :: backTo pos (starEach [] X.env) := by rfl) (hpl : (backTo pos (starEach [e] X.env)).any (·.1) = false := by rfl) :
    PE X (.Call (.Name "min" p) [e] [⟨some "key", .Lambda params body scope lpos, p4⟩] pos) (tMinKey b X.K P q σ0 te t) := by
  intro pins s σ H Q I h
  refine wpAny_Call_Name_kw (ld_blt I hg hm bt_min ?_ (by decide) (by decide))
  refine callWith_kw (thn (ha pos pins s σ H _ I h) fun us s1 ⟨vs, H1, I1, r1, q1⟩ => ?_) he hpl
  obtain ⟨l, xs, rfl, sq, hne, hP, hte⟩ := q1
  obtain ⟨u, rfl, ru⟩ := vals1 r1
  cases ru
  obtain ⟨cl, hclos, hcl1, hcl2⟩ := closure_of (env := X.env) (scope := scope) fun y hy hf => I.ok.has y.1 (hfr y hy hf)
  show wpAny _ X.A (evalAll [(do let v ← eval (.Lambda params body scope lpos) X.env; standAt pos; pure v)]) _ _ s1
  refine wpAny_evalAll_cons (wpAny_bind (thn (lam_made L hcode hq hdef hclos I1 hP) fun v s2 h2 => wpAny_bind (wpAny_standAt (wpAny_pure (wpAny_evalAll_nil ?_)))))
  obtain ⟨f, c', oc, vs, tt, pm, ctv, H2, rfl, I2, sm, ef, ec, hd1, hv1⟩ := h2
  show wpAny _ X.A (call (.builtin "min") [.ref l] [(Str.ofString "key", .ref f)]) _ _ _
  obtain ⟨kf, hkey, hQ⟩ := hte H2 sm
  refine minKey_call (kf := kf) hca I2 (sq.same sm) hne (fun pins' s' i v u J hv rv => ?_) fun i v u s' hv rv hb J => ⟨v, H2, J, rv, hQ i v hv hb⟩
  -- the key is asked
  have inC : ∀ x c, cl.lookup x = some c → c ∈ cl.filterMap fun p => cl.lookup p.1 := fun x c e => List.mem_filterMap.mpr ⟨(x, c), PySem.mem_of_lookup e, e⟩
  have ofC : ∀ c ∈ cl.filterMap (fun p => cl.lookup p.1), ∃ x, cl.lookup x = some c ∧ X.env.cells.lookup x = some c := fun c hc => by
    obtain ⟨p, _, e⟩ := List.mem_filterMap.mp hc
    exact ⟨p.1, e, hcl1 _ _ e⟩
  generalize hcs : (cl.filterMap fun p => cl.lookup p.1) = cs at *
  have xin : CellsIn cs H2 s'.heap := fun c hc => by
    obtain ⟨x, _, e⟩ := ofC c hc
    obtain ⟨v, o, eo, _⟩ := J.cell x c e
    exact ⟨J.freeC x c e, o, eo⟩
  have low : ∀ c ∈ cs, X.s₀.heap.objs.size ≤ c := fun c hc => by
    obtain ⟨x, _, e⟩ := ofC c hc
    exact J.ok.cab x c (hfn x) e
  have nS : ∀ c ∈ cs, c ∉ frs X.stack := fun c hc z => by
    obtain ⟨x, _, e⟩ := ofC c hc
    rcases List.mem_cons.mp (J.stkSub c z) with y | y
    · exact J.cne x c e y
    · obtain ⟨_, o, eo, _⟩ := J.ok.funs.mem y
      exact absurd (Nat.lt_of_lt_of_le (Heap.lt_size eo) (low c hc)) (Nat.lt_irrefl _)
  have fo : f ∉ cs := out_of xin ef
  have co : c' ∉ cs := out_of xin ec
  have e0 : Env0 X.prog X.w X.K X.mg X.base X.A X.stack s' (frzC s'.heap cs H2) := by
    refine ⟨J.ok.frames, J.ok.mod, fun b o e => ⟨J.bk b o e, ?_⟩, Nat.le_trans J.ok.bsz J.sz, J.stack, fun b hb => ?_, hok_frz xin J.hok, J.bare⟩
    · have : b ∉ cs := fun z => absurd (Nat.lt_of_lt_of_le (Heap.lt_size e) (Nat.le_trans J.ok.bsz (low b z))) (Nat.lt_irrefl _)
      rw [frzC_out this]
      exact (J.bs b o e).2
    · rw [frzC_out fun z => nS b z hb]
      exact J.stkFree b hb
  have ob : ∀ c ∈ cs, ∃ o v, frzC s'.heap cs H2 c = some (fc o) ∧ o.data = .cell v := fun c hc => by
    obtain ⟨x, _, e⟩ := ofC c hc
    obtain ⟨v, o, eo, d⟩ := J.cell x c e
    exact ⟨o, v, frzC_in hc eo, d⟩
  have cok : ClOk1 X.prog X.w X.K X.mg X.base (kc + 1) f (fun v => spLam cs (frzC s'.heap cs H2) f c' (fun _ => te) (some v :: σ0 σ)) := by
    refine lam_run1 (N := N) hkind hco hgen hcell hpx inC (fun x y c a b => J.ok.inj x y c (hcl1 x c a) (hcl1 y c b)) hcl2 (hσ σ).1 (fun i x v e1 e2 => ?_) ob (by rw [frzC_out fo]; exact ef) (by rw [frzC_out co]; exact ec) hd1 hv1 (fun u => hbind cl pm ctv (.ref c') u) fun A outer s H E hr => hbody cl f c' A outer s H E hr
    obtain ⟨hf, j, hj, hv⟩ := (hσ σ).2 i x v e1 e2
    refine ⟨hf, ?_⟩
    have hm := mem_of_lookupF hf
    obtain ⟨m', hn, hl⟩ := id J.loc
    have hk := hfr _ hm rfl
    have hvis : Vis X.env.scope x := hk.elim (fun z => .inr (.inl z)) fun z => .inr (.inr z)
    obtain ⟨u, r, lk⟩ := hl j x v hj hv hvis
    obtain ⟨c2, hc2⟩ := hcl2 x hm
    have hx := hcl1 x c2 hc2
    rcases lk with ⟨kl, _⟩ | ⟨_, c3, e3, o3, ho3, hd3⟩
    · rcases hk with z | z <;> rw [kl] at z <;> cases z
    · rw [hx] at e3
      cases e3
      exact ⟨c2, o3, u, hc2, frzC_in (inC x c2 hc2) ho3, hd3, r⟩
  have hsp : spLam cs (frzC s'.heap cs H2) f c' (fun _ => te) (some v :: σ0 σ) (frzC s'.heap cs H2) (fun u H' => u = .int (kf i) ∧ dropC cs H' = H2) (fun _ _ _ => False) := by
    refine ⟨rfl, rfl, fun _ _ => rfl, fun u H' => u = .int (kf i) ∧ H' = H2, fun _ _ _ => False, ?_, fun v H3 n z => ⟨z.1, by rw [drop_back n]; exact z.2⟩, fun c d H3 n z => z⟩
    rw [drop_frz xin]
    exact hkey i v hv
  refine wpAny_call (codeAny_mono (cok X.A.in1 X.stack s' _ v u _ _ hr.in1 e0.in1 rv hsp) fun r s'' hz => ?_)
  cases r with
  | error e =>
    obtain ⟨x, C, H', rfl, F, hE⟩ := hz
    exact False.elim hE
  | ok fl =>
    cases fl with
    | ret u =>
      obtain ⟨v, H', os, bare, un, hok, rv', rfl, hdrop⟩ := hz
      obtain ⟨t2, rfl⟩ := rv'
      have J' := J.call' os (un_frz xin un hok) (hok_drop (at_of_un xin.frz un) hok) bare fun b z => absurd z (by simp)
      rw [hdrop] at J'
      exact ⟨t2, rfl, J'⟩
    | next => exact False.elim hz
    | brk => exact False.elim hz
    | cont => exact False.elim hz
end L2

set_option Elab.async false
set_option linter.all false
set_option maxRecDepth 100000
set_option maxHeartbeats 4000000
/-! ### == and != of data: ints, texts, tuples and lists of them, nested -/
namespace L2
open PySem PySem.Spec PyProof.Rows MA SeqAt
theorem pairs_ext : ∀ {a b : List (PyData × PyData)}, a.map (·.1) = b.map (·.1) → a.map (·.2) = b.map (·.2) → a = b
  | [], [], _, _ => rfl
  | [], _ :: _, x, _ => by simp at x
  | _ :: _, [], x, _ => by simp at x
  | p :: r, p' :: r', x, y => by
    simp at x y
    rw [pairs_ext x.2 y.2, Prod.ext x.1 y.1]
mutual
theorem DataV.inj {H : Hp} : ∀ {v : V} {d d' : PyData}, DataV H v d → DataV H v d' → d = d'
  | _, _, _, .non, h => by cases h; rfl
  | _, _, _, .bl b, h => by cases h; rfl
  | _, _, _, .int i, h => by cases h; rfl
  | _, _, _, .str x, h => by cases h; rfl
  | _, _, _, .lst e r, h => by
    cases h with
    | lst e' r' => rw [e] at e'; cases e'; rw [DataL.inj r r']
    | tup e' r' => rw [e] at e'; cases e'
    | dict e' r' q' => rw [e] at e'; cases e'
  | _, _, _, .tup e r, h => by
    cases h with
    | lst e' r' => rw [e] at e'; cases e'
    | tup e' r' => rw [e] at e'; cases e'; rw [DataL.inj r r']
    | dict e' r' q' => rw [e] at e'; cases e'
  | _, _, _, .dict e r q, h => by
    cases h with
    | lst e' r' => rw [e] at e'; cases e'
    | tup e' r' => rw [e] at e'; cases e'
    | dict e' r' q' =>
      rw [e] at e'; cases e'
      have h1 := DataL.inj r r'
      have h2 := DataL.inj q q'
      exact congrArg PyData.dict (pairs_ext h1 h2)
theorem DataL.inj {H : Hp} : ∀ {vs : List V} {ds ds' : List PyData}, DataL H vs ds → DataL H vs ds' → ds = ds'
  | _, _, _, .nil, h => by cases h; rfl
  | _, _, _, .cons x r, h => by
    cases h with
    | cons x' r' => rw [DataV.inj x x', DataL.inj r r']
end
/-- what == compares without a word -/
def cmpN : Nat → PyData → PyData → Prop
  | _, .int _, .int _ => True
  | _, .str _, .str _ => True
  | n + 1, .tuple xs, .tuple ys => ∀ p ∈ xs.zip ys, cmpN n p.1 p.2
  | n + 1, .list xs, .list ys => ∀ p ∈ xs.zip ys, cmpN n p.1 p.2
  | _, _, _ => False
noncomputable def cdec (p : Prop) : Bool := @decide p (Classical.propDecidable p)
theorem cdec_iff {p : Prop} : cdec p = true ↔ p := by unfold cdec; exact @decide_eq_true_iff p (Classical.propDecidable p)
theorem cdec_eq {p : Prop} {b : Bool} (h : b = true ↔ p) : b = cdec p := by rw [Bool.eq_iff_iff, h, cdec_iff]
theorem DataL.nth {H : Hp} : ∀ {vs : List V} {ds : List PyData}, DataL H vs ds → ∀ {j : Nat}, j < vs.length → DataV H (vs.getD j .non) (ds.getD j .none)
  | _, _, .cons x r, 0, _ => x
  | _, _, .cons x r, j + 1, h => DataL.nth r (j := j) (by simpa using h)
theorem zip_at {ds es : List PyData} {j : Nat} (h1 : j < ds.length) (h2 : j < es.length) : (ds.getD j .none, es.getD j .none) ∈ ds.zip es := by
  have e : (ds.zip es)[j]? = some (ds.getD j .none, es.getD j .none) := by
    rw [List.getElem?_zip_eq_some]
    exact ⟨by rw [List.getElem?_eq_getElem h1]; simp [List.getD_eq_getElem?_getD, List.getElem?_eq_getElem h1], by rw [List.getElem?_eq_getElem h2]; simp [List.getD_eq_getElem?_getD, List.getElem?_eq_getElem h2]⟩
  exact List.mem_of_getElem? e
theorem all_iff {ds es : List PyData} (hl : ds.length = es.length) : ((List.range ds.length).all fun j => cdec (ds.getD j .none = es.getD j .none)) = true ↔ ds = es := by
  rw [List.all_eq_true]
  constructor
  · intro h
    refine List.ext_getElem hl fun i h1 h2 => ?_
    have := cdec_iff.mp (h i (List.mem_range.mpr h1))
    simpa [List.getD_eq_getElem?_getD, List.getElem?_eq_getElem h1, List.getElem?_eq_getElem h2] using this
  · rintro rfl j hj
    exact cdec_iff.mpr rfl
theorem tup_res {ds es : List PyData} : ((List.range (min ds.length es.length)).all (fun j => cdec (ds.getD j .none = es.getD j .none)) && ds.length == es.length) = cdec (ds = es) := by
  refine cdec_eq ?_
  rw [Bool.and_eq_true, beq_iff_eq]
  constructor
  · rintro ⟨h, hl⟩
    rw [← hl, Nat.min_self] at h
    exact (all_iff hl).mp h
  · rintro rfl
    rw [Nat.min_self]
    exact ⟨(all_iff rfl).mpr rfl, rfl⟩
theorem cdec_tup {ds es : List PyData} : cdec (PyData.tuple ds = PyData.tuple es) = cdec (ds = es) := by
  refine (cdec_eq ?_).symm
  rw [cdec_iff]
  exact ⟨fun h => by rw [h], fun h => PyData.tuple.inj h⟩
theorem cdec_lst {ds es : List PyData} : cdec (PyData.list ds = PyData.list es) = cdec (ds = es) := by
  refine (cdec_eq ?_).symm
  rw [cdec_iff]
  exact ⟨fun h => by rw [h], fun h => PyData.list.inj h⟩
section
variable {X : Cx} {pins : List (Addr × Obj)} {σ : St} {H : Hp} {s : Shared}
theorem eqAt_D (I : Inv X pins σ H s) : ∀ (n : Nat) {A : Around} {x y : V} {d d' : PyData} {u v : Value}, A.units + n < cLine → DataV H x d → DataV H y d' → RelV x u → RelV y v → cmpN n d d' → EqAt A s u v (cdec (d = d')) := by
  intro n
  induction n with
  | zero =>
    intro A x y d d' u v hu h1 h2 r1 r2 hc
    cases h1 with
    | int i =>
      cases h2 with
      | int j =>
        have := eqAt_V (A := A) (s := s) r1 r2 rfl rfl
        rw [show eqV (.int i) (.int j) = cdec (PyData.int i = PyData.int j) from cdec_eq (by simp [eqV])] at this
        exact this
      | _ => exact False.elim hc
    | str i =>
      cases h2 with
      | str j =>
        have := eqAt_V (A := A) (s := s) r1 r2 rfl rfl
        rw [show eqV (.str i) (.str j) = cdec (PyData.str i = PyData.str j) from cdec_eq (by simp [eqV])] at this
        exact this
      | _ => exact False.elim hc
    | _ => first | exact False.elim hc | (cases h2 <;> exact False.elim hc)
  | succ n ih =>
    intro A x y d d' u v hu h1 h2 r1 r2 hc
    cases h1 with
    | int i =>
      cases h2 with
      | int j =>
        have := eqAt_V (A := A) (s := s) r1 r2 rfl rfl
        rw [show eqV (.int i) (.int j) = cdec (PyData.int i = PyData.int j) from cdec_eq (by simp [eqV])] at this
        exact this
      | _ => exact False.elim hc
    | str i =>
      cases h2 with
      | str j =>
        have := eqAt_V (A := A) (s := s) r1 r2 rfl rfl
        rw [show eqV (.str i) (.str j) = cdec (PyData.str i = PyData.str j) from cdec_eq (by simp [eqV])] at this
        exact this
      | _ => exact False.elim hc
    | @tup a xs ds e1 q1 =>
      cases h2 with
      | @tup b ys es e2 q2 =>
        cases r1
        cases r2
        by_cases e : a = b
        · subst e
          rw [e1] at e2
          cases e2
          rw [DataL.inj q1 q2, show cdec (PyData.tuple es = PyData.tuple es) = true from cdec_iff.mpr rfl]
          exact EqAt.same _
        obtain ⟨us, v1, t1, z1⟩ := I.tuple (SqT.of e1)
        obtain ⟨ws, v2, t2, z2⟩ := I.tuple (SqT.of e2)
        have l1 := q1.length
        have l2 := q2.length
        have m1 := v1.length
        have m2 := v2.length
        refine EqAt.of_refs e ?_
        have key := RcAt.tuples (A := A) (s := s) (e := fun j => cdec (ds.getD j .none = es.getD j .none)) (show s.heap.IsTuple a us.toArray from t1) (show s.heap.IsTuple b ws.toArray from t2) (by omega) (fun j x y => ?_)
        · rw [List.size_toArray, List.size_toArray, ← m1, ← m2, l1, l2, tup_res, ← cdec_tup] at key
          exact key
        · have hx : j < xs.length := by have := x; rw [List.size_toArray] at this; omega
          have hy : j < ys.length := by have := y; rw [List.size_toArray] at this; omega
          exact ih (by show A.in1.units + n < cLine; have : A.in1.units = A.units + 1 := rfl; omega) (q1.nth hx) (q2.nth hy) (rel_at v1 x) (rel_at v2 y) (hc _ (zip_at (by omega) (by omega)))
      | _ => exact False.elim hc
    | @lst a xs ds e1 q1 =>
      cases h2 with
      | @lst b ys es e2 q2 =>
        cases r1
        cases r2
        by_cases e : a = b
        · subst e
          rw [e1] at e2
          cases e2
          rw [DataL.inj q1 q2, show cdec (PyData.list es = PyData.list es) = true from cdec_iff.mpr rfl]
          exact EqAt.same _
        obtain ⟨us, v1, t1, z1⟩ := I.list (SqL.of e1)
        obtain ⟨ws, v2, t2, z2⟩ := I.list (SqL.of e2)
        have l1 := q1.length
        have l2 := q2.length
        have m1 := v1.length
        have m2 := v2.length
        refine EqAt.of_refs e ?_
        by_cases hl : xs.length = ys.length
        · have key := RcAt.lists (A := A) (s := s) (e := fun j => cdec (ds.getD j .none = es.getD j .none)) t1.isList t2.isList (by rw [List.size_toArray, List.size_toArray]; omega) (by omega) (fun j x y => ?_)
          · rw [List.size_toArray, ← m1, l1, show ((List.range ds.length).all fun j => cdec (ds.getD j .none = es.getD j .none)) = cdec (ds = es) from cdec_eq (all_iff (by omega)), ← cdec_lst] at key
            exact key
          · have hx : j < xs.length := by have := x; rw [List.size_toArray] at this; omega
            have hy : j < ys.length := by have := y; rw [List.size_toArray] at this; omega
            exact ih (by show A.in1.units + n < cLine; have : A.in1.units = A.units + 1 := rfl; omega) (q1.nth hx) (q2.nth hy) (rel_at v1 x) (rel_at v2 y) (hc _ (zip_at (by omega) (by omega)))
        · rw [show cdec (PyData.list ds = PyData.list es) = false from (cdec_eq (b := false) (by constructor <;> intro z; cases z; exact absurd (congrArg List.length (PyData.list.inj z)) (by omega))).symm]
          exact RcAt.lists_lengths t1.isList t2.isList (by rw [List.size_toArray, List.size_toArray]; simp; omega) (by omega)
      | _ => exact False.elim hc
    | _ => first | exact False.elim hc | (cases h2 <;> exact False.elim hc)
def rNeD (n : Nat) : R2 := fun x y H Q => ∃ d d', DataV H x d ∧ DataV H y d' ∧ cmpN n d d' ∧ ∀ b : Bool, (b = true ↔ d ≠ d') → Q (.bl b) H
theorem op_neD (n : Nat) (hu : X.A.units + (n + 1) < cLine) : OpR X (compareOp .NotEq) (rNeD (n + 1)) := by
  intro pins s σ H x y v u Q I rx ry h
  obtain ⟨d, d', h1, h2, hc, k⟩ := h
  cases h1 with
  | int i =>
    cases h2 with
    | int j => exact op_ne pins s σ H _ _ v u Q I rx ry ⟨rfl, k _ (by simp)⟩
    | _ => exact False.elim hc
  | str i =>
    cases h2 with
    | str j => exact op_ne pins s σ H _ _ v u Q I rx ry ⟨rfl, k _ (by simp)⟩
    | _ => exact False.elim hc
  | @tup a xs ds e1 q1 =>
    cases h2 with
    | @tup b ys es e2 q2 =>
      cases rx
      cases ry
      obtain ⟨us, v1, t1, z1⟩ := I.tuple (SqT.of e1)
      obtain ⟨ws, v2, t2, z2⟩ := I.tuple (SqT.of e2)
      have l1 := q1.length
      have l2 := q2.length
      have m1 := v1.length
      have m2 := v2.length
      refine PySem.W.cmp_ofNotEq (RcNeAt.tuples (e := fun j => cdec (ds.getD j .none = es.getD j .none)) (show s.heap.IsTuple a us.toArray from t1) (show s.heap.IsTuple b ws.toArray from t2) (by omega) (fun j x y => ?_) X.prog X.w X.xe _ (fin_bl I (k (!cdec (PyData.tuple ds = PyData.tuple es)) ?_) ?_))
      · have hx : j < xs.length := by have := x; rw [List.size_toArray] at this; omega
        have hy : j < ys.length := by have := y; rw [List.size_toArray] at this; omega
        exact eqAt_D I n (by show X.A.in1.units + n < cLine; have : X.A.in1.units = X.A.units + 1 := rfl; omega) (q1.nth hx) (q2.nth hy) (rel_at v1 x) (rel_at v2 y) (hc _ (zip_at (by omega) (by omega)))
      · rw [Bool.not_eq_true', ← Bool.not_eq_true, not_congr cdec_iff]
      · rw [List.size_toArray, List.size_toArray, ← m1, ← m2, l1, l2, tup_res, ← cdec_tup]
    | _ => exact False.elim hc
  | @lst a xs ds e1 q1 =>
    cases h2 with
    | @lst b ys es e2 q2 =>
      cases rx
      cases ry
      obtain ⟨us, v1, t1, z1⟩ := I.list (SqL.of e1)
      obtain ⟨ws, v2, t2, z2⟩ := I.list (SqL.of e2)
      have l1 := q1.length
      have l2 := q2.length
      have m1 := v1.length
      have m2 := v2.length
      by_cases hl : xs.length = ys.length
      · refine PySem.W.cmp_ofNotEq (RcNeAt.lists (e := fun j => cdec (ds.getD j .none = es.getD j .none)) t1.isList t2.isList (by rw [List.size_toArray, List.size_toArray]; omega) (by omega) (fun j x y => ?_) X.prog X.w X.xe _ (fin_bl I (k (!cdec (PyData.list ds = PyData.list es)) ?_) ?_))
        · have hx : j < xs.length := by have := x; rw [List.size_toArray] at this; omega
          have hy : j < ys.length := by have := y; rw [List.size_toArray] at this; omega
          exact eqAt_D I n (by show X.A.in1.units + n < cLine; have : X.A.in1.units = X.A.units + 1 := rfl; omega) (q1.nth hx) (q2.nth hy) (rel_at v1 x) (rel_at v2 y) (hc _ (zip_at (by omega) (by omega)))
        · rw [Bool.not_eq_true', ← Bool.not_eq_true, not_congr cdec_iff]
        · rw [List.size_toArray, ← m1, l1, show ((List.range ds.length).all fun j => cdec (ds.getD j .none = es.getD j .none)) = cdec (ds = es) from cdec_eq (all_iff (by omega)), ← cdec_lst]
      · have nd : PyData.list ds ≠ PyData.list es := fun z => absurd (congrArg List.length (PyData.list.inj z)) (by omega)
        refine PySem.W.cmp_ofNotEq (RcNeAt.lists_lengths t1.isList t2.isList (by rw [List.size_toArray, List.size_toArray]; simp; omega) (by omega) X.prog X.w X.xe _ (fin_bl I (k true ?_) rfl))
        simp [nd]
    | _ => exact False.elim hc
  | _ => first | exact False.elim hc | (cases h2 <;> exact False.elim hc)
end
end L2

set_option Elab.async false
set_option linter.all false
set_option maxRecDepth 100000
set_option maxHeartbeats 4000000
namespace PySem.SeqAt
open AutoSeq1 (wpAny_loadPart')
open MeetsSeq MeetsSeq2 MeetsSeq3 SeqRoads2
end PySem.SeqAt
namespace L2
open PySem PySem.Spec PyProof.Rows MA
section
variable {X : Cx}
end
end L2

set_option Elab.async false
set_option linter.all false
set_option maxRecDepth 100000
set_option maxHeartbeats 4000000
/-! ### methods and classes of the text -/
namespace L2
open PySem PySem.Spec PyProof.Rows
structure MCal (P : Program) (w : World) (K : PySem.W.Frag) (mg : Str → Option Value) (base : Heap) (C : Addr) (m : Str) (ps : List Str) (k : Nat) (sp : Sp) : Prop where
  ex : ∃ f fd, FnOk P w K mg base CX0 k f fd ps sp ∧ Meth K C m f ∧ Binds K fd ps []
structure MFun (K : PySem.W.Frag) (C : Addr) (m qual : Str) (ps : List Str) (st : Stmt) : Prop where
  ex : ∃ f fd, Fun K m qual st f fd ∧ Meth K C m f ∧ Binds K fd ps []
theorem MFun.cal {P : Program} {w : World} {K : PySem.W.Frag} {mg : Str → Option Value} {base : Heap} {C : Addr} {m qual : Str} {ps N : List Str} {st : Stmt} {k : Nat} {sp : Sp} (F : MFun K C m qual ps st) (S : FnScope N ps (defScope st)) (len : ∀ vs H Q E, sp vs H Q E → vs.length = ps.length)
    (hbody : ∀ (f : Addr) (cdv : Value) (A : Around) (outer : List Env) (s : Shared) (H : Hp) (vs : List V) (Q : VK) (E : XK), Room k (A.deeper (envOfC qual (defScope st) s.heap.objs.size f cdv)) → sp vs H Q E →
      ∃ t, PSs (cxOf CX0 P w K mg base N qual (defScope st) f cdv A outer s H E).nox (defBody st) t ∧ t { nx := fun _ H' => Q .non H', rt := Q } (start N vs) H) : MCal P w K mg base C m ps (k + 1) sp := by
  obtain ⟨f, fd, F1, m, b⟩ := F.ex
  exact ⟨f, fd, F1.ok S len (hbody f), m, b⟩
/-- what a class is: made by its name -/
structure CAt (K : PySem.W.Frag) (mg : Str → Option Value) (x : Str) (C : Addr) : Prop where
  cl : Cls K C
  mg : mg x = some (.ref C)
  mks : PySem.W.makesIn K C = true
  kp : PySem.W.keepIn K (.ref C) = true
section
variable {X : Cx} {C : Addr} {x m : Str} {ps : List Str} {k : Nat} {sp : Sp} {o e : Expr} {es : List Expr} {t : TA} {to : TE} {p pos apos : Pos}
/-- o.m(e, ..) -/
theorem pm {pl : Sem Bool} (c : MCal X.prog X.w X.K X.mg X.base C m ps k sp) (cl : Cls X.K C) (hr : Room k X.A) (ho : PE X o to) (ha : PA X (e :: es) t)
    (hst : starEach (e :: es) X.env = (false, eval e X.env) :: starEach es X.env := by rfl) (hpl : (backTo pos (starEach es X.env)).any (·.1) = false := by rfl)
    (ht : eval (.Call (.Attribute o m apos) (e :: es) [] pos) X.env = (do
      let ov ← eval o X.env
      standAt apos.atName
      let (f, first) ← holding [ov] (getMethod ov m pl)
      callWith pos f first (backTo pos (starEach (e :: es) X.env)) (backToKw pos (keywordEach [] X.env))) := by rfl) :
    PE X (.Call (.Attribute o m apos) (e :: es) [] pos) (tMeth C m sp [] E0 to t) := by
  obtain ⟨f, fd, F, hm, b⟩ := c.ex
  exact pe_meth ho cl hm F hr b .nil pass0 ha hst hpl ht
/-- o.m() -/
theorem pm0 {pl : Sem Bool} (c : MCal X.prog X.w X.K X.mg X.base C m ps k sp) (cl : Cls X.K C) (hr : Room k X.A) (ho : PE X o to)
    (ht : eval (.Call (.Attribute o m apos) [] [] pos) X.env = (do
      let ov ← eval o X.env
      standAt apos.atName
      let (f, first) ← holding [ov] (getMethod ov m pl)
      callWith pos f first (backTo pos (starEach [] X.env)) (backToKw pos (keywordEach [] X.env))) := by rfl) :
    PE X (.Call (.Attribute o m apos) [] [] pos) (tMeth C m sp [] E0 to tNil) := by
  obtain ⟨f, fd, F, hm, b⟩ := c.ex
  exact pe_meth0 ho cl hm F hr b .nil pass0 ht
/-- C(e, ..) -/
theorem pmk (c : MCal X.prog X.w X.K X.mg X.base C "__init__" ps k sp) (ca : CAt X.K X.mg x C) (hr : Room (k + 1) X.A) (ha : PA X (e :: es) t) (hg : Gl X x := by rfl) (hdb : (x == ("__debug__" : Str)) = false := by decide)
    (he : starEach (e :: es) X.env = (false, eval e X.env) :: starEach es X.env := by rfl) (hpl : (backTo pos (starEach es X.env)).any (·.1) = false := by rfl) : PE X (.Call (.Name x p) (e :: es) [] pos) (tMake C sp [] E0 t) := by
  obtain ⟨f, fd, F, hm, b⟩ := c.ex
  exact pe_make ⟨ca.mks, hm.at_, hm.fn, ca.kp⟩ F hr hg ca.mg b .nil pass0 ha hdb he hpl
/-- if xs, xs a list -/
def tTL (t : TE) : TT := fun σ H Q => t σ H fun x H1 => ∃ l xs, x = .ref l ∧ H1 l = some (.lst xs) ∧ Q (!xs.isEmpty) H1
theorem pt_list {t : TE} (h : PE X e t) (he : ∀ whole, isTrue e X.env whole = (do let v ← whole; standAt e.pos; holding [v] (truthy v)) := by intro _; rfl) : PT X e (tTL t) := by
  intro pins s σ H Q I hw
  refine isTrue_plain (thn (h pins s σ H _ I hw) fun v s1 ⟨x, H1, I1, r1, q1⟩ => ?_) (he _)
  obtain ⟨l, xs, rfl, hl, q⟩ := q1
  cases r1
  obtain ⟨its, r, pl, hz⟩ := I1.list (SqL.of hl)
  have hlen := r.length
  have h63 := line63
  refine wpAny_truthy_list pl.isList (by rw [List.size_toArray]; omega) ⟨H1, I1.tok _, ?_⟩
  have e : (!its.toArray.isEmpty) = !xs.isEmpty := by
    cases r <;> rfl
  rw [e]
  exact q
end
theorem mfun_mk {K : PySem.W.Frag} {C : Addr} {m qual : Str} {ps : List Str} {st : Stmt} {f : Addr} {oc : Value} {od an : Option Addr} {osl : Array (Option Value)} {kV doc pm cdv ct : Value}
    (hb : ∀ (kV doc pm : Value) (an : Option Addr) (cdv ct : Value) (us : List Value), us.length = ps.length → bindArgs (PySem.W.fnOf m qual (defArgs st) (defBody st) (defScope st) .none kV doc pm an cdv ct) ⟨us, []⟩ = pure (ps.zip us))
    (a : PySem.W.findIn K (.ref C) m = some (some (.ref f))) (i : PySem.W.isFn K (.ref f) = true) (l : K.lookup f = some ⟨oc, od, .func (PySem.W.fnOf m qual (defArgs st) (defBody st) (defScope st) .none kV doc pm an cdv ct), osl⟩)
    (c : PySem.W.codeIn K cdv qual = true) (k : PySem.W.keepIn K (.ref f) = true) : MFun K C m qual ps st :=
  let F := fun_mk (st := st) l c k
  ⟨f, _, F, ⟨a, i, k⟩, F.binds hb⟩
end L2

set_option Elab.async false
set_option linter.all false
set_option maxRecDepth 100000
set_option maxHeartbeats 4000000
namespace PyProof.Rows
open PySem
section
variable {prog : Program} {w : World} {A : Around} {E : Value → Shared → Prop} {s : Shared}
theorem collect_tup {l : Addr} {vs : List Value} {Q : List Value → Shared → Prop} (hl : s.heap.IsTuple l vs.toArray)
    (h : Q vs { s with heap := (s.heap.push (seqObj "list" #[] 0)).update s.heap.objs.size (Obj.mapSeq (· ++ vs.toArray)) }) (hsz : vs.length ≤ sizeLine := by size_fits) :
    wpAny (model prog w) A (collect (.ref l)) Q E s := by
  obtain ⟨o, ho, hc, n, hd⟩ := id hl
  unfold collect
  refine wpAny_bind (wpAny_runValue (codeAny_builtin entry_proto_collect' ?_))
  show wpAny _ _ (do again (.builtin "list.__iadd__" ⟨[← newList [], .ref l], []⟩)) _ _ s
  refine wpAny_bind (wpAny_newList (wpAny_pure ⟨Code.quiet_builtin _ (by decide +kernel), codeAny_builtin entry_list_iadd' ?_⟩))
  show wpAny _ _ (Builtin.List.listExtendWith (.ref s.heap.objs.size) (.ref l) (.ref s.heap.objs.size)) _ _ { s with heap := s.heap.push (seqObj "list" #[] 0) }
  unfold Builtin.List.listExtendWith
  have ho' : (s.heap.push (seqObj "list" #[] 0)).get? l = some o := Heap.get?_push_of_some _ ho
  refine wpAny_bind (wpAny_typeOf (T := "tuple") ⟨o, ho', hc⟩ ?_)
  have ht : (Value.type "tuple" == Value.type "tuple") = true := by rfl
  rw [if_pos (by rw [ht]; simp)]
  refine wpAny_bind (listItems_at ho' hd ?_)
  refine wpAny_bind (listItems_at (xs := #[]) (n := 0) (Heap.get?_push_size _ rfl) rfl ?_)
  rw [if_neg (by simp)]
  refine wpAny_bind (listUpdate_at (xs := #[]) (n := 0) (Heap.get?_push_size _ rfl) rfl ?_ (Nat.zero_le _) (by show (#[] ++ vs.toArray).size ≤ sizeLine + 1; simp only [Array.size_append, List.size_toArray, List.length_nil]; omega))
  refine wpAny_pure ?_
  show wpAny (model prog w) A (do
      let o ← load s.heap.objs.size
      match o.data with
      | .seq xs _ => pure xs.toList
      | _ => unsupported "internal:collect") Q E { s with heap := (s.heap.push (seqObj "list" #[] 0)).update s.heap.objs.size (Obj.mapSeq (· ++ vs.toArray)) }
  refine wpAny_bind (wpAny_load (get?_update_seq (Heap.get?_push_size _ rfl) _) ?_)
  show wpAny _ _ (pure ((#[] : Array Value) ++ vs.toArray).toList) Q E _
  rw [show ((#[] : Array Value) ++ vs.toArray).toList = vs by simp]
  exact wpAny_pure h
theorem sorted_tup_rev {l : Addr} {vs : List Value} {ns : List Int} {b : Bool} {Q : Value → Shared → Prop} (hl : s.heap.IsTuple l vs.toArray) (hI : IntsAre vs ns) (h64 : vs.length < 64)
    (h : ∀ (out : Array Value) (ns' : List Int), IntsAre out.toList ns' → ns'.Perm ns → Ordered b ns' → Q (.ref (s.heap.objs.size + 1)) { s with heap := sortedAll s.heap vs out }) :
    wpAny (model prog w) A (call (.builtin "sorted") [.ref l] [(Str.ofString "reverse", .bool b)]) Q E s := by
  refine call_function_entry_kw kind_sorted plain_sorted entry_sorted (args_sorted_rev _ _) ?_
  unfold Builtin.«sorted»
  refine wpAny_bind (m := checkCount "sorted" 1 1 _) (wpAny_pure ?_)
  refine wpAny_bind (collect_tup hl ?_ (by rw [sizeLine_eq]; omega))
  refine wpAny_bind (wpAny_newList ?_)
  have hsz : ((s.heap.push (seqObj "list" #[] 0)).update s.heap.objs.size (Obj.mapSeq (· ++ vs.toArray))).objs.size = s.heap.objs.size + 1 := by
    rw [Heap.size_update, size_push']
  have hoL : (((s.heap.push (seqObj "list" #[] 0)).update s.heap.objs.size (Obj.mapSeq (· ++ vs.toArray))).push (seqObj "list" vs.toArray 0)).get? (s.heap.objs.size + 1) = some (seqObj "list" vs.toArray 0) := by
    rw [← hsz]; exact Heap.get?_push_size _ rfl
  show wpAny _ _ _ _ _ { s with heap := ((s.heap.push (seqObj "list" #[] 0)).update s.heap.objs.size (Obj.mapSeq (· ++ vs.toArray))).push (seqObj "list" vs.toArray 0) }
  rw [hsz]
  refine wpAny_bind (wpAny_holding (wpAny_call_entry_kw slot_list_sort ⟨_, hoL, rfl⟩ entry_list_sort (list_sort_tree_rev hoL hI h64 fun out ns' a1 a2 a3 => ⟨_, rfl, ?_⟩) (args_list_sort_rev _ _)))
  exact wpAny_pure ⟨_, rfl, h out ns' a1 a2 a3⟩
end
end PyProof.Rows
namespace L2
open PySem PySem.Spec PyProof.Rows MA
section
variable {X : Cx} {e : Expr} {t : TA} {p p3 p4 pos : Pos}
def tSortRT (b : Bool) (t : TA) : TE := fun σ H Q => t σ H fun vs H1 => ∃ (l : Addr) (ns : List Int), vs = [.ref l] ∧ H1 l = some (.tup (ns.map V.int)) ∧ ns.length < 64 ∧ ∀ (q : Addr) (ms : List Int), H1 q = none → ms.Perm ns → Ordered b ms → Q (.ref q) (upd H1 q (.lst (ms.map V.int)))
theorem pe_sortedRT {b : Bool} {kk : _} (hg : Gl X "sorted") (hm : X.mg "sorted" = none) (ha : PA X [e] t)
    (he : backTo pos (starEach [e] X.env) = (false, eval e X.env) :: backTo pos (starEach [] X.env) := by rfl) (hpl : (backTo pos (starEach [e] X.env)).any (·.1) = false := by rfl) :
    PE X (.Call (.Name "sorted" p) [e] [⟨some "reverse", .Constant (.bool b) kk p3, p4⟩] pos) (tSortRT b t) := by
  intro pins s σ H Q I h
  refine wpAny_Call_Name_kw (ld_blt I hg hm bt_sorted ?_ (by decide) (by decide))
  refine callWith_kw (thn (ha pos pins s σ H _ I h) fun us s1 ⟨vs, H1, I1, r1, q1⟩ => ?_) he hpl
  obtain ⟨l, ns, rfl, hl, h64, q⟩ := q1
  obtain ⟨u, rfl, ru⟩ := vals1 r1
  cases ru
  show wpAny _ X.A (evalAll [(do let v ← eval (.Constant (.bool b) kk p3) X.env; standAt pos; pure v)]) _ _ s1
  refine wpAny_evalAll_cons (wpAny_bind (Constant_bool (wpAny_bind (wpAny_standAt (wpAny_pure (wpAny_evalAll_nil ?_))))))
  show wpAny _ X.A (call (.builtin "sorted") [.ref l] [(Str.ofString "reverse", .bool b)]) _ _ _
  obtain ⟨its, rv, pl, hz⟩ := I1.tuple (SqT.of (K := X.K) hl)
  have hlen := rv.length
  rw [List.length_map] at hlen
  refine sorted_tup_rev pl (intsAre_of rv) (by omega) fun out ms a1 a2 a3 => ?_
  obtain ⟨ee, he'⟩ := sortedAll_at s1.heap its out
  have hml : ms.length = ns.length := a2.length_eq
  refine ⟨.ref (s1.heap.objs.size + 1), _, I1.laid (t' := s1.toks) (a := s1.heap.objs.size + 1) (o := .lst (ms.map V.int)) (fun b o q => sortedAll_old q) (Nat.le_succ _) ⟨?_, out.toList, ee, vals_ints a1, ?_⟩, rfl, q _ ms (I1.hok.fresh (Nat.le_succ _)) a2 a3⟩
  · rw [List.length_map, hml, sizeLine_eq]; omega
  · rw [he']
end
end L2

set_option Elab.async false
set_option linter.all false
set_option maxRecDepth 100000
set_option maxHeartbeats 4000000
namespace My
open PySem L2 MA
def top (i : Nat) : Stmt := PySem.Challenge.pw_emptierbox_k58_whole_rooms_and_draws.main.body.getD i (.Pass ⟨0, 0, 0, 0⟩)
abbrev s_emptiest_of : Stmt := top 1
theorem sc_emptiest_of : FnScope ["numbers", "draw"] ["numbers", "draw"] (defScope s_emptiest_of) := ⟨rfl, rfl, rfl, by decide +kernel, rfl, by decide +kernel, by decide +kernel⟩
abbrev s_by_draws : Stmt := top 2
theorem sc_by_draws : FnScope ["stand", "draws", "draw", "numbers", "boxes", "box"] ["stand", "draws"] (defScope s_by_draws) := ⟨rfl, rfl, rfl, by decide +kernel, rfl, by decide +kernel, by decide +kernel⟩
abbrev s_is_whole : Stmt := top 9
theorem sc_is_whole : FnScope ["thing"] ["thing"] (defScope s_is_whole) := ⟨rfl, rfl, rfl, by decide +kernel, rfl, by decide +kernel, by decide +kernel⟩
abbrev s_falling : Stmt := top 11
theorem sc_falling : FnScope ["numbers"] ["numbers"] (defScope s_falling) := ⟨rfl, rfl, rfl, by decide +kernel, rfl, by decide +kernel, by decide +kernel⟩
abbrev s_l_pen : Stmt := top 16
theorem sc_l_pen : FnScope ["_law_script"] ["_law_script"] (defScope s_l_pen) := ⟨rfl, rfl, rfl, by decide +kernel, rfl, by decide +kernel, by decide +kernel⟩
abbrev s_l_draw : Stmt := top 17
theorem sc_l_draw : FnScope ["_law_pen_here", "_law_many", "_law_at", "_law_cell", "_law_prime", "_law_number", "_law_found"] ["_law_pen_here", "_law_many"] (defScope s_l_draw) := ⟨rfl, rfl, rfl, by decide +kernel, rfl, by decide +kernel, by decide +kernel⟩
abbrev s_l_draws : Stmt := top 18
theorem sc_l_draws : FnScope ["_law_pen_here", "_law_n", "_law_most", "_law_way", "_law_size", "_law_many", "_law_found", "_law_k", "_law_boxes"] ["_law_pen_here", "_law_n", "_law_most"] (defScope s_l_draws) := ⟨rfl, rfl, rfl, by decide +kernel, rfl, by decide +kernel, by decide +kernel⟩
abbrev s_l_order : Stmt := top 19
theorem sc_l_order : FnScope ["_law_pen_here", "_law_some", "_law_left", "_law_found", "_law_k"] ["_law_pen_here", "_law_some"] (defScope s_l_order) := ⟨rfl, rfl, rfl, by decide +kernel, rfl, by decide +kernel, by decide +kernel⟩
abbrev s_l_filled : Stmt := top 20
theorem sc_l_filled : FnScope ["_law_n", "_law_draws_here", "_law_room"] ["_law_n", "_law_draws_here"] (defScope s_l_filled) := ⟨rfl, rfl, rfl, by decide +kernel, rfl, by decide +kernel, by decide +kernel⟩
abbrev s_l_restless : Stmt := top 21
theorem sc_l_restless : FnScope ["_law_n", "_law_draws_here", "_law_room", "_law_found", "_law_draw_here", "_law_ball", "_law_box"] ["_law_n", "_law_draws_here"] (defScope s_l_restless) := ⟨rfl, rfl, rfl, by decide +kernel, rfl, by decide +kernel, by decide +kernel⟩
abbrev s_l_left_right : Stmt := top 22
theorem sc_l_left_right : FnScope ["_law_pen_here", "_law_n", "_law_draws_here", "_law_gone", "_law_stands", "_law_again", "_law_full", "_law_ball", "_law_k", "_law_room", "_law_balls", "_law_here", "_law_boxes"] ["_law_pen_here", "_law_n", "_law_draws_here", "_law_gone"] (defScope s_l_left_right) := ⟨rfl, rfl, rfl, by decide +kernel, rfl, by decide +kernel, by decide +kernel⟩
abbrev s_law : Stmt := top 23
theorem sc_law : FnScope ["_law_script", "_law_pen_here", "_law_k", "_law_n", "_law_draws_here", "_law_gone", "_law_room", "_law_balls", "_law_stand", "_law_boxes"] ["_law_script"] (defScope s_law) := ⟨rfl, rfl, rfl, by decide +kernel, rfl, by decide +kernel, by decide +kernel⟩
abbrev s_Room____init__ : Stmt := inClass (top 14) 0
theorem sc_Room____init__ : FnScope ["self", "n"] ["self", "n"] (defScope s_Room____init__) := ⟨rfl, rfl, rfl, by decide +kernel, rfl, by decide +kernel, by decide +kernel⟩
abbrev s_Room__put : Stmt := inClass (top 14) 1
theorem sc_Room__put : FnScope ["self", "draw", "ball", "box"] ["self", "draw"] (defScope s_Room__put) := ⟨rfl, rfl, rfl, by decide +kernel, rfl, by decide +kernel, by decide +kernel⟩
abbrev s_Room__leave : Stmt := inClass (top 14) 2
theorem sc_Room__leave : FnScope ["self", "ball", "box"] ["self", "ball"] (defScope s_Room__leave) := ⟨rfl, rfl, rfl, by decide +kernel, rfl, by decide +kernel, by decide +kernel⟩
abbrev s_Room__back : Stmt := inClass (top 14) 3
theorem sc_Room__back : FnScope ["self", "deed", "ball", "box"] ["self"] (defScope s_Room__back) := ⟨rfl, rfl, rfl, by decide +kernel, rfl, by decide +kernel, by decide +kernel⟩
abbrev s_Room__lay : Stmt := inClass (top 14) 4
theorem sc_Room__lay : FnScope ["self", "ball", "box"] ["self", "ball", "box"] (defScope s_Room__lay) := ⟨rfl, rfl, rfl, by decide +kernel, rfl, by decide +kernel, by decide +kernel⟩
abbrev s_Room__lift : Stmt := inClass (top 14) 5
theorem sc_Room__lift : FnScope ["self", "ball", "box"] ["self", "ball", "box"] (defScope s_Room__lift) := ⟨rfl, rfl, rfl, by decide +kernel, rfl, by decide +kernel, by decide +kernel⟩
abbrev s_Room__where : Stmt := inClass (top 14) 6
theorem sc_Room__where : FnScope ["self", "ball"] ["self", "ball"] (defScope s_Room__where) := ⟨rfl, rfl, rfl, by decide +kernel, rfl, by decide +kernel, by decide +kernel⟩
abbrev s_Room__stand : Stmt := inClass (top 14) 7
theorem sc_Room__stand : FnScope ["self"] ["self"] (defScope s_Room__stand) := ⟨rfl, rfl, rfl, by decide +kernel, rfl, by decide +kernel, by decide +kernel⟩
abbrev s_Room__load : Stmt := inClass (top 14) 8
theorem sc_Room__load : FnScope ["self"] ["self"] (defScope s_Room__load) := ⟨rfl, rfl, rfl, by decide +kernel, rfl, by decide +kernel, by decide +kernel⟩

section
variable {P : Program} {w : World} {K : PySem.W.Frag} {mg : Str → Option Value} {base : Heap}
theorem ok_pen (F : FunAt K mg "_law_pen" ["_law_script"] s_l_pen) : Cal P w K mg base "_law_pen" ["_law_script"] 1 (spPen K) := by
  have S := sc_l_pen
  refine F.cal sc_l_pen (fun vs H Q E h => ?_) (fun f cdv A outer s H vs Q E hr h => ?_)
  · obtain ⟨a, ns, rfl, _⟩ := h; rfl
  obtain ⟨a, ns, rfl, ha, k⟩ := h
  obtain ⟨ms, hms⟩ := cut_ints ns none (some 63)
  refine ⟨_, (@pss_one _ _ _ (@ps_ret _ _ _ _ (@pe_disp _ _ _ _ _ (@pps_cons _ _ _ _ _ _ _ _ _ pe_str (@pe_slice _ _ _ _ _ _ _ _ _ _ sl_list (pv 0) po_none (@po_some _ _ _ pe_int)) (@pps_cons _ _ _ _ _ _ _ _ _ pe_str pe_int (@pps_cons _ _ _ _ _ _ _ _ _ pe_str pe_int pps_nil))) (by rfl) (by rfl) (by simp) (by decide)))), ?_⟩
  intro p hp
  have s1 : Same H (upd H p (.dK [])) := same_new hp _
  refine ⟨_, rfl, _, rfl, a, _, rfl, s1.seq ha, fun c hc => ?_⟩
  have hpc : p ≠ c := fun e => by rw [← e, upd_same] at hc; cases hc
  refine ⟨by rw [upd_ne hpc]; exact upd_same, [(.inr "cells", .ref c), (.inr "at", .int 0), (.inr "left", .int 0)], rfl, (by show 3 ≤ 15; decide), ?_⟩
  refine k p _ (fun b o e => ?_) ⟨c, ms, 0, 0, ?_, ?_, by omega, by omega⟩
  · rw [upd_ne (ne_of_none e hp), upd_ne, upd_ne (ne_of_none e hp)]
    · exact e
    · intro z
      subst z
      rw [upd_ne (Ne.symm hpc), e] at hc
      cases hc
  · rw [upd_same]
    rfl
  · rw [upd_ne (Ne.symm hpc), upd_same, hms]
theorem ok_draw (T : Txt mg) (F : FunAt K mg "_law_draw" ["_law_pen_here", "_law_many"] s_l_draw) : Cal P w K mg base "_law_draw" ["_law_pen_here", "_law_many"] 1 spDraw := by
  have S := sc_l_draw
  refine F.cal sc_l_draw (fun vs H Q E h => ?_) (fun f cdv A outer s H vs Q E hr h => ?_)
  · obtain ⟨p, m, n, rfl, _⟩ := h; rfl
  obtain ⟨p, m, n, rfl, ⟨c, ns, a, l, hp, hc, ha0, han⟩, hn, hm, hm2, k⟩ := h
  have hu := hu_of hr
  have hcp : c ≠ p := ne_of hc hp (by intro z; cases z)
  refine ⟨_, (@pss_cons _ _ _ _ _ (@ps_if _ _ _ _ _ _ _ _ (@pt_cmpR _ _ _ _ _ _ _ _ op_gt (@pe_dget _ _ _ _ _ _ (by exact hu) (pv 0) pe_str (by exact (fun _ _ => rfl))) pe_int (by exact (nomark _))) (@pss_cons _ _ _ _ _ (@ps_set _ _ (6) _ _ _ _ (by exact S.nd) (by rfl) (by first | exact Or.inl rfl | exact Or.inr rfl) (@pe_op _ _ _ _ _ _ _ _ op_mod (@pe_dget _ _ _ _ _ _ (by exact hu) (pv 0) pe_str (by exact (fun _ _ => rfl))) (pv 1)) (by first | rfl | decide | exact Or.inl rfl | exact Or.inr rfl | (intro _; rfl) | (intro _ _; rfl) | (intro _ _ _; rfl)) (by first | rfl | decide | exact Or.inl rfl | exact Or.inr rfl | (intro _; rfl) | (intro _ _; rfl) | (intro _ _ _; rfl))) (@pss_cons _ _ _ _ _ (@ps_dput _ _ _ _ _ _ _ _ _ (by exact hu) (pv 0) pe_str (@pe_op _ _ _ _ _ _ _ _ op_fdiv (@pe_dget _ _ _ _ _ _ (by exact hu) (pv 0) pe_str (by exact (fun _ _ => rfl))) (pv 1)) (by rfl)) (@pss_one _ _ _ (@ps_ret _ _ _ _ (pv 6))))) pss_nil) (@pss_cons _ _ _ _ _ (@ps_set _ _ (2) _ _ _ _ (by exact S.nd) (by rfl) (by first | exact Or.inl rfl | exact Or.inr rfl) (@pe_dget _ _ _ _ _ _ (by exact hu) (pv 0) pe_str (by exact (fun _ _ => rfl))) (by first | rfl | decide | exact Or.inl rfl | exact Or.inr rfl | (intro _; rfl) | (intro _ _; rfl) | (intro _ _ _; rfl)) (by first | rfl | decide | exact Or.inl rfl | exact Or.inr rfl | (intro _; rfl) | (intro _ _; rfl) | (intro _ _ _; rfl))) (@pss_cons _ _ _ _ _ (@ps_dput _ _ _ _ _ _ _ _ _ (by exact hu) (pv 0) pe_str (@pe_op _ _ _ _ _ _ _ _ op_add (pv 2) pe_int) (by rfl)) (@pss_cons _ _ _ _ _ (@ps_set _ _ (3) _ _ _ _ (by exact S.nd) (by rfl) (by first | exact Or.inl rfl | exact Or.inr rfl) (@pe_op _ _ _ _ _ _ _ _ op_add (@pe_op _ _ _ _ _ _ _ _ op_mul pe_int (pv 2)) pe_int) (by first | rfl | decide | exact Or.inl rfl | exact Or.inr rfl | (intro _; rfl) | (intro _ _; rfl) | (intro _ _ _; rfl)) (by first | rfl | decide | exact Or.inl rfl | exact Or.inr rfl | (intro _; rfl) | (intro _ _; rfl) | (intro _ _ _; rfl))) (@pss_cons _ _ _ _ _ (@ps_if _ _ _ _ _ _ _ _ (@pt_cmpR _ _ _ _ _ _ _ _ op_gt (@pe_callB _ _ _ _ _ _ _ _ _ call_len_seq (by rfl) (by exact T.z_len) (by exact bt_len) (@pa_consN _ _ _ _ _ (@pe_dget _ _ _ _ _ _ (by exact hu) (pv 0) pe_str (by exact (fun _ _ => rfl))) pa_nil (by first | rfl | decide | exact Or.inl rfl | exact Or.inr rfl | (intro _; rfl) | (intro _ _; rfl) | (intro _ _ _; rfl))) (by first | rfl | decide | exact Or.inl rfl | exact Or.inr rfl | (intro _; rfl) | (intro _ _; rfl) | (intro _ _ _; rfl)) (by first | rfl | decide | exact Or.inl rfl | exact Or.inr rfl | (intro _; rfl) | (intro _ _; rfl) | (intro _ _ _; rfl)) (by first | rfl | decide | exact Or.inl rfl | exact Or.inr rfl | (intro _; rfl) | (intro _ _; rfl) | (intro _ _ _; rfl)) (by first | rfl | decide | exact Or.inl rfl | exact Or.inr rfl | (intro _; rfl) | (intro _ _; rfl) | (intro _ _ _; rfl))) pe_int (by exact (nomark _))) (@pss_one _ _ _ (@ps_set _ _ (3) _ _ _ _ (by exact S.nd) (by rfl) (by first | exact Or.inl rfl | exact Or.inr rfl) (@pe_ix _ _ _ _ _ _ _ ix_list (@pe_dget _ _ _ _ _ _ (by exact hu) (pv 0) pe_str (by exact (fun _ _ => rfl))) (@pe_op _ _ _ _ _ _ _ _ op_mod (pv 2) (@pe_callB _ _ _ _ _ _ _ _ _ call_len_seq (by rfl) (by exact T.z_len) (by exact bt_len) (@pa_consN _ _ _ _ _ (@pe_dget _ _ _ _ _ _ (by exact hu) (pv 0) pe_str (by exact (fun _ _ => rfl))) pa_nil (by first | rfl | decide | exact Or.inl rfl | exact Or.inr rfl | (intro _; rfl) | (intro _ _; rfl) | (intro _ _ _; rfl))) (by first | rfl | decide | exact Or.inl rfl | exact Or.inr rfl | (intro _; rfl) | (intro _ _; rfl) | (intro _ _ _; rfl)) (by first | rfl | decide | exact Or.inl rfl | exact Or.inr rfl | (intro _; rfl) | (intro _ _; rfl) | (intro _ _ _; rfl)) (by first | rfl | decide | exact Or.inl rfl | exact Or.inr rfl | (intro _; rfl) | (intro _ _; rfl) | (intro _ _ _; rfl)) (by first | rfl | decide | exact Or.inl rfl | exact Or.inr rfl | (intro _; rfl) | (intro _ _; rfl) | (intro _ _ _; rfl)))) (by exact (fun _ _ => rfl))) (by first | rfl | decide | exact Or.inl rfl | exact Or.inr rfl | (intro _; rfl) | (intro _ _; rfl) | (intro _ _ _; rfl)) (by first | rfl | decide | exact Or.inl rfl | exact Or.inr rfl | (intro _; rfl) | (intro _ _; rfl) | (intro _ _ _; rfl)))) pss_nil) (@pss_cons _ _ _ _ _ (@ps_if _ _ _ _ _ _ _ _ (@PW.pt _ _ _ (@pw_and _ _ _ _ _ _ _ (@pt_cmpR _ _ _ _ _ _ _ _ op_lt (pv 2) (@pe_callB _ _ _ _ _ _ _ _ _ call_len_seq (by rfl) (by exact T.z_len) (by exact bt_len) (@pa_consN _ _ _ _ _ (@pe_dget _ _ _ _ _ _ (by exact hu) (pv 0) pe_str (by exact (fun _ _ => rfl))) pa_nil (by first | rfl | decide | exact Or.inl rfl | exact Or.inr rfl | (intro _; rfl) | (intro _ _; rfl) | (intro _ _ _; rfl))) (by first | rfl | decide | exact Or.inl rfl | exact Or.inr rfl | (intro _; rfl) | (intro _ _; rfl) | (intro _ _ _; rfl)) (by first | rfl | decide | exact Or.inl rfl | exact Or.inr rfl | (intro _; rfl) | (intro _ _; rfl) | (intro _ _ _; rfl)) (by first | rfl | decide | exact Or.inl rfl | exact Or.inr rfl | (intro _; rfl) | (intro _ _; rfl) | (intro _ _ _; rfl)) (by first | rfl | decide | exact Or.inl rfl | exact Or.inr rfl | (intro _; rfl) | (intro _ _; rfl) | (intro _ _ _; rfl))) (by exact (nomark _))) (@pw_and1 _ _ _ _ (@pt_cmpR _ _ _ _ _ _ _ _ op_ge (@pe_callB _ _ _ _ _ _ _ _ _ call_abs (by rfl) (by exact T.z_abs) (by exact bt_abs) (@pa_consN _ _ _ _ _ (pv 3) pa_nil (by first | rfl | decide | exact Or.inl rfl | exact Or.inr rfl | (intro _; rfl) | (intro _ _; rfl) | (intro _ _ _; rfl))) (by first | rfl | decide | exact Or.inl rfl | exact Or.inr rfl | (intro _; rfl) | (intro _ _; rfl) | (intro _ _ _; rfl)) (by first | rfl | decide | exact Or.inl rfl | exact Or.inr rfl | (intro _; rfl) | (intro _ _; rfl) | (intro _ _ _; rfl)) (by first | rfl | decide | exact Or.inl rfl | exact Or.inr rfl | (intro _; rfl) | (intro _ _; rfl) | (intro _ _ _; rfl)) (by first | rfl | decide | exact Or.inl rfl | exact Or.inr rfl | (intro _; rfl) | (intro _ _; rfl) | (intro _ _ _; rfl))) (@pe_op _ _ _ _ _ _ _ _ op_pow pe_int pe_int) (by exact (nomark _)))))) (@pss_cons _ _ _ _ _ (@ps_dput _ _ _ _ _ _ _ _ _ (by exact hu) (pv 0) pe_str (@pe_op _ _ _ _ _ _ _ _ op_fdiv (@pe_callB _ _ _ _ _ _ _ _ _ call_abs (by rfl) (by exact T.z_abs) (by exact bt_abs) (@pa_consN _ _ _ _ _ (pv 3) pa_nil (by first | rfl | decide | exact Or.inl rfl | exact Or.inr rfl | (intro _; rfl) | (intro _ _; rfl) | (intro _ _ _; rfl))) (by first | rfl | decide | exact Or.inl rfl | exact Or.inr rfl | (intro _; rfl) | (intro _ _; rfl) | (intro _ _ _; rfl)) (by first | rfl | decide | exact Or.inl rfl | exact Or.inr rfl | (intro _; rfl) | (intro _ _; rfl) | (intro _ _ _; rfl)) (by first | rfl | decide | exact Or.inl rfl | exact Or.inr rfl | (intro _; rfl) | (intro _ _; rfl) | (intro _ _ _; rfl)) (by first | rfl | decide | exact Or.inl rfl | exact Or.inr rfl | (intro _; rfl) | (intro _ _; rfl) | (intro _ _ _; rfl))) (pv 1)) (by rfl)) (@pss_one _ _ _ (@ps_ret _ _ _ _ (@pe_op _ _ _ _ _ _ _ _ op_mod (@pe_callB _ _ _ _ _ _ _ _ _ call_abs (by rfl) (by exact T.z_abs) (by exact bt_abs) (@pa_consN _ _ _ _ _ (pv 3) pa_nil (by first | rfl | decide | exact Or.inl rfl | exact Or.inr rfl | (intro _; rfl) | (intro _ _; rfl) | (intro _ _ _; rfl))) (by first | rfl | decide | exact Or.inl rfl | exact Or.inr rfl | (intro _; rfl) | (intro _ _; rfl) | (intro _ _ _; rfl)) (by first | rfl | decide | exact Or.inl rfl | exact Or.inr rfl | (intro _; rfl) | (intro _ _; rfl) | (intro _ _ _; rfl)) (by first | rfl | decide | exact Or.inl rfl | exact Or.inr rfl | (intro _; rfl) | (intro _ _; rfl) | (intro _ _ _; rfl)) (by first | rfl | decide | exact Or.inl rfl | exact Or.inr rfl | (intro _; rfl) | (intro _ _; rfl) | (intro _ _ _; rfl))) (pv 1))))) pss_nil) (@pss_cons _ _ _ _ _ (@ps_set _ _ (4) _ _ _ _ (by exact S.nd) (by rfl) (by first | exact Or.inl rfl | exact Or.inr rfl) (@pe_ix _ _ _ _ _ _ _ ix_tup (@pe_tup _ _ _ _ _ (@pa_consN _ _ _ _ _ pe_int (@pa_consN _ _ _ _ _ pe_int (@pa_consN _ _ _ _ _ pe_int (@pa_consN _ _ _ _ _ pe_int (@pa_consN _ _ _ _ _ pe_int (@pa_consN _ _ _ _ _ pe_int (@pa_consN _ _ _ _ _ pe_int pa_nil (by first | rfl | decide | exact Or.inl rfl | exact Or.inr rfl | (intro _; rfl) | (intro _ _; rfl) | (intro _ _ _; rfl))) (by first | rfl | decide | exact Or.inl rfl | exact Or.inr rfl | (intro _; rfl) | (intro _ _; rfl) | (intro _ _ _; rfl))) (by first | rfl | decide | exact Or.inl rfl | exact Or.inr rfl | (intro _; rfl) | (intro _ _; rfl) | (intro _ _ _; rfl))) (by first | rfl | decide | exact Or.inl rfl | exact Or.inr rfl | (intro _; rfl) | (intro _ _; rfl) | (intro _ _ _; rfl))) (by first | rfl | decide | exact Or.inl rfl | exact Or.inr rfl | (intro _; rfl) | (intro _ _; rfl) | (intro _ _ _; rfl))) (by first | rfl | decide | exact Or.inl rfl | exact Or.inr rfl | (intro _; rfl) | (intro _ _; rfl) | (intro _ _ _; rfl))) (by first | rfl | decide | exact Or.inl rfl | exact Or.inr rfl | (intro _; rfl) | (intro _ _; rfl) | (intro _ _ _; rfl)))) (@pe_op _ _ _ _ _ _ _ _ op_mod (pv 2) pe_int) (by exact (fun _ _ => rfl))) (by first | rfl | decide | exact Or.inl rfl | exact Or.inr rfl | (intro _; rfl) | (intro _ _; rfl) | (intro _ _ _; rfl)) (by first | rfl | decide | exact Or.inl rfl | exact Or.inr rfl | (intro _; rfl) | (intro _ _; rfl) | (intro _ _ _; rfl))) (@pss_cons _ _ _ _ _ (@ps_set _ _ (5) _ _ _ _ (by exact S.nd) (by rfl) (by first | exact Or.inl rfl | exact Or.inr rfl) (@pe_op _ _ _ _ _ _ _ _ op_mod (@pe_op _ _ _ _ _ _ _ _ op_pow (@pe_op _ _ _ _ _ _ _ _ op_add (@pe_op _ _ _ _ _ _ _ _ op_add (@pe_op _ _ _ _ _ _ _ _ op_add (@pe_op _ _ _ _ _ _ _ _ op_mod (pv 3) pe_int) (@pe_op _ _ _ _ _ _ _ _ op_mul (@pe_op _ _ _ _ _ _ _ _ op_mul pe_int (pv 2)) (pv 2))) (@pe_op _ _ _ _ _ _ _ _ op_mul pe_int (pv 2))) pe_int) pe_int) (pv 4)) (by first | rfl | decide | exact Or.inl rfl | exact Or.inr rfl | (intro _; rfl) | (intro _ _; rfl) | (intro _ _ _; rfl)) (by first | rfl | decide | exact Or.inl rfl | exact Or.inr rfl | (intro _; rfl) | (intro _ _; rfl) | (intro _ _ _; rfl))) (@pss_cons _ _ _ _ _ (@ps_set _ _ (5) _ _ _ _ (by exact S.nd) (by rfl) (by first | exact Or.inl rfl | exact Or.inr rfl) (@pe_op _ _ _ _ _ _ _ _ op_mod (@pe_op _ _ _ _ _ _ _ _ op_pow (@pe_op _ _ _ _ _ _ _ _ op_add (@pe_op _ _ _ _ _ _ _ _ op_add (pv 5) (@pe_op _ _ _ _ _ _ _ _ op_mul pe_int (pv 2))) pe_int) pe_int) pe_int) (by first | rfl | decide | exact Or.inl rfl | exact Or.inr rfl | (intro _; rfl) | (intro _ _; rfl) | (intro _ _ _; rfl)) (by first | rfl | decide | exact Or.inl rfl | exact Or.inr rfl | (intro _; rfl) | (intro _ _; rfl) | (intro _ _ _; rfl))) (@pss_one _ _ _ (@ps_ret _ _ _ _ (@pe_op _ _ _ _ _ _ _ _ op_mod (@pe_op _ _ _ _ _ _ _ _ op_fdiv (@pe_op _ _ _ _ _ _ _ _ op_mod (@pe_op _ _ _ _ _ _ _ _ op_mul (pv 5) pe_int) pe_int) pe_int) (pv 1))))))))))))), ?_⟩
  have gl := get_left hp
  refine ⟨_, rfl, p, _, rfl, gl, _, _, rfl, rfl, _, rfl, ?_⟩
  refine ite2 (fun _ => ?_) (fun _ => ?_)
  · refine ⟨_, rfl, p, _, rfl, gl, _, rfl, _, _, rfl, rfl, hm, ?_⟩
    refine ⟨_, rfl, p, _, rfl, gl, _, rfl, _, _, rfl, rfl, ⟨hm, hm2⟩, _, rfl, p, _, rfl, dput_left hp, ?_⟩
    refine ⟨_, rfl, ?_⟩
    exact k _ _ (Int.emod_nonneg _ (by omega)) (Int.emod_lt_of_pos _ hm) ⟨c, ns, a, _, upd_same, by rw [upd_ne hcp]; exact hc, ha0, by omega⟩ (SameX.upd hp)
  refine ⟨_, rfl, p, _, rfl, get_at hp, ?_⟩
  refine ⟨_, rfl, _, _, rfl, rfl, _, rfl, p, _, rfl, dput_at hp, ?_⟩
  have hp1 : (upd H p (.dK (penL c (a + 1) l))) p = some (.dK (penL c (a + 1) l)) := upd_same
  have hc1 : (upd H p (.dK (penL c (a + 1) l))) c = some (.lst (ns.map V.int)) := by rw [upd_ne hcp]; exact hc
  have x1 : SameX p H (upd H p (.dK (penL c (a + 1) l))) := SameX.upd hp
  have gc := get_cells hp1
  obtain ⟨pr, pr0, pr1, hpr⟩ := prime_at a
  obtain ⟨sq0, sq1⟩ := sq_bound ha0 (show a ≤ 100000 by omega)
  refine ⟨_, rfl, _, _, rfl, rfl, .inl ⟨by decide, by decide⟩, _, _, rfl, rfl, ?_⟩
  refine ⟨_, rfl, p, _, rfl, gc, c, _, rfl, .inl (SqL.of hc1), _, _, rfl, rfl, _, rfl, ?_⟩
  refine ite2 (fun c0 => ?_) (fun c0 => ?_)
  · have hl : 0 < ns.length := by
      have : (0 : Int) < (((ns.map V.int).length : Nat) : Int) := of_decide_eq_true c0
      rw [List.length_map] at this
      omega
    obtain ⟨z, hz⟩ := cell_at (ns := ns) a hl
    refine ⟨_, rfl, p, _, rfl, gc, _, rfl, _, rfl, p, _, rfl, gc, c, _, rfl, .inl (SqL.of hc1), _, _, rfl, rfl, (by rw [List.length_map]; omega), c, _, _, _, rfl, rfl, SqL.of hc1, hz, ?_⟩
    refine ⟨_, rfl, _, rfl, p, _, rfl, gc, c, _, rfl, .inl (SqL.of hc1), _, _, rfl, rfl, _, rfl, ?_⟩
    refine ite2 (fun c1 => ?_) (fun c1 => iteF ?_)
    · refine ⟨_, rfl, _, rfl, _, _, rfl, rfl, ⟨by decide, by decide, by decide⟩, _, _, rfl, rfl, _, rfl, ?_⟩
      refine ite2 (fun c2 => ?_) (fun c2 => ?_)
      · refine ⟨_, rfl, _, rfl, _, rfl, _, _, rfl, rfl, ⟨hm, hm2⟩, _, rfl, p, _, rfl, dput_left hp1, ?_⟩
        refine ⟨_, rfl, _, rfl, _, rfl, _, _, rfl, rfl, hm, ?_⟩
        exact k _ _ (Int.emod_nonneg _ (by omega)) (Int.emod_lt_of_pos _ hm) ⟨c, ns, a + 1, _, upd_same, by rw [upd_ne hcp]; exact hc1, by omega, by omega⟩ (x1.trans (SameX.upd hp1))
      · exact draw_tail hm pr0 pr1 hpr ha0 (show a ≤ 100000 by omega) sq0 sq1 fun r t ht hr0 hrm => k _ _ hr0 hrm ⟨c, ns, a + 1, l, (same_new ht _) _ _ hp1, (same_new ht _) _ _ hc1, by omega, by omega⟩ (x1.trans (Same.x (same_new ht _)))
    · exact draw_tail hm pr0 pr1 hpr ha0 (show a ≤ 100000 by omega) sq0 sq1 fun r t ht hr0 hrm => k _ _ hr0 hrm ⟨c, ns, a + 1, l, (same_new ht _) _ _ hp1, (same_new ht _) _ _ hc1, by omega, by omega⟩ (x1.trans (Same.x (same_new ht _)))
  · refine ⟨_, rfl, _, rfl, p, _, rfl, gc, c, _, rfl, .inl (SqL.of hc1), _, _, rfl, rfl, _, rfl, ?_⟩
    refine ite2 (fun c1 => ?_) (fun c1 => iteF ?_)
    · exfalso
      have e1 : ¬ (0 : Int) < (((ns.map V.int).length : Nat) : Int) := by simpa using c0
      have e2 : a < (((ns.map V.int).length : Nat) : Int) := of_decide_eq_true c1
      omega
    · exact draw_tail hm pr0 pr1 hpr ha0 (show a ≤ 100000 by omega) sq0 sq1 fun r t ht hr0 hrm => k _ _ hr0 hrm ⟨c, ns, a + 1, l, (same_new ht _) _ _ hp1, (same_new ht _) _ _ hc1, by omega, by omega⟩ (x1.trans (Same.x (same_new ht _)))

theorem ok_whole (T : Txt mg) (F : FunAt K mg "is_whole" ["thing"] s_is_whole) : Cal P w K mg base "is_whole" ["thing"] 1 spWhole := by
  have S := sc_is_whole
  refine F.cal sc_is_whole (fun vs H Q E h => ?_) (fun f cdv A outer s H vs Q E hr h => ?_)
  · obtain ⟨a, rfl, _⟩ := h; rfl
  obtain ⟨a, rfl, k⟩ := h
  refine ⟨_, (@pss_one _ _ _ (@ps_ret _ _ _ _ (@pe_and _ _ _ _ _ _ _ (@pe_callB _ _ _ _ _ _ _ _ _ call_isi (by rfl) (by exact T.z_isinstance) (by exact bt_isinstance) (@pa_consN _ _ _ _ _ (pv 0) (@pa_consN _ _ _ _ _ (@pe_bltn _ _ (.ty "int") _ _ (by rfl) (by exact T.z_int) (by exact bt_int) (by rfl) (by first | rfl | decide | exact Or.inl rfl | exact Or.inr rfl | (intro _; rfl) | (intro _ _; rfl) | (intro _ _ _; rfl)) (by first | rfl | decide | exact Or.inl rfl | exact Or.inr rfl | (intro _; rfl) | (intro _ _; rfl) | (intro _ _ _; rfl))) pa_nil (by first | rfl | decide | exact Or.inl rfl | exact Or.inr rfl | (intro _; rfl) | (intro _ _; rfl) | (intro _ _ _; rfl))) (by first | rfl | decide | exact Or.inl rfl | exact Or.inr rfl | (intro _; rfl) | (intro _ _; rfl) | (intro _ _ _; rfl))) (by first | rfl | decide | exact Or.inl rfl | exact Or.inr rfl | (intro _; rfl) | (intro _ _; rfl) | (intro _ _ _; rfl)) (by first | rfl | decide | exact Or.inl rfl | exact Or.inr rfl | (intro _; rfl) | (intro _ _; rfl) | (intro _ _ _; rfl)) (by first | rfl | decide | exact Or.inl rfl | exact Or.inr rfl | (intro _; rfl) | (intro _ _; rfl) | (intro _ _ _; rfl)) (by first | rfl | decide | exact Or.inl rfl | exact Or.inr rfl | (intro _; rfl) | (intro _ _; rfl) | (intro _ _ _; rfl))) (@pe_one _ _ _ _ _ (@pe_not _ _ _ _ (@pe_callB _ _ _ _ _ _ _ _ _ call_isi (by rfl) (by exact T.z_isinstance) (by exact bt_isinstance) (@pa_consN _ _ _ _ _ (pv 0) (@pa_consN _ _ _ _ _ (@pe_bltn _ _ (.ty "bool") _ _ (by rfl) (by exact T.z_bool) (by exact bt_bool) (by rfl) (by first | rfl | decide | exact Or.inl rfl | exact Or.inr rfl | (intro _; rfl) | (intro _ _; rfl) | (intro _ _ _; rfl)) (by first | rfl | decide | exact Or.inl rfl | exact Or.inr rfl | (intro _; rfl) | (intro _ _; rfl) | (intro _ _ _; rfl))) pa_nil (by first | rfl | decide | exact Or.inl rfl | exact Or.inr rfl | (intro _; rfl) | (intro _ _; rfl) | (intro _ _ _; rfl))) (by first | rfl | decide | exact Or.inl rfl | exact Or.inr rfl | (intro _; rfl) | (intro _ _; rfl) | (intro _ _ _; rfl))) (by first | rfl | decide | exact Or.inl rfl | exact Or.inr rfl | (intro _; rfl) | (intro _ _; rfl) | (intro _ _ _; rfl)) (by first | rfl | decide | exact Or.inl rfl | exact Or.inr rfl | (intro _; rfl) | (intro _ _; rfl) | (intro _ _ _; rfl)) (by first | rfl | decide | exact Or.inl rfl | exact Or.inr rfl | (intro _; rfl) | (intro _ _; rfl) | (intro _ _ _; rfl)) (by first | rfl | decide | exact Or.inl rfl | exact Or.inr rfl | (intro _; rfl) | (intro _ _; rfl) | (intro _ _ _; rfl)))))))), ?_⟩
  refine ⟨_, rfl, _, _, _, _, rfl, .int a, rfl, _, rfl, iteT ?_⟩
  exact ⟨_, rfl, _, _, _, _, rfl, .int a, rfl, _, rfl, k⟩
end
end My

set_option Elab.async false
set_option linter.all false
set_option maxRecDepth 100000
set_option maxHeartbeats 4000000
namespace My
open PySem L2 MA
/-- the emptiest box of a draw, the first of those -/
def emF (ns ds : List Int) : Int := (ds.find? fun b => ds.all fun c => decide (ns.getD b.toNat 0 ≤ ns.getD c.toNat 0)).getD 0
theorem emF_of {ns ds : List Int} {i : Nat} (hi : i < ds.length) (h : ∀ j (hj : j < ds.length), ns.getD ds[i].toNat 0 ≤ ns.getD ds[j].toNat 0 ∧ (j < i → ns.getD ds[i].toNat 0 < ns.getD ds[j].toNat 0)) : emF ns ds = ds[i] := by
  have e : (ds.find? fun b => ds.all fun c => decide (ns.getD b.toNat 0 ≤ ns.getD c.toNat 0)) = some ds[i] := by
    rw [List.find?_eq_some_iff_getElem]
    refine ⟨?_, i, hi, rfl, fun j hj => ?_⟩
    · rw [List.all_eq_true]
      intro c hc
      obtain ⟨j, hj, rfl⟩ := List.mem_iff_getElem.mp hc
      exact decide_eq_true (h j hj).1
    · have lt := (h j (by omega)).2 hj
      rw [Bool.not_eq_true', ← Bool.not_eq_true, List.all_eq_true]
      intro z
      have := of_decide_eq_true (z ds[i] (List.getElem_mem hi))
      omega
  unfold emF
  rw [e]
  rfl
/-- .. and it is one of the draw, and least -/
theorem emF_mem {ns ds : List Int} (h : ds ≠ []) : ∃ (i : Nat) (hi : i < ds.length), emF ns ds = ds[i] ∧ ∀ j (hj : j < ds.length), ns.getD ds[i].toNat 0 ≤ ns.getD ds[j].toNat 0 ∧ (j < i → ns.getD ds[i].toNat 0 < ns.getD ds[j].toNat 0) := by
  have key : ∀ (n : Nat), 0 < n → n ≤ ds.length → ∃ (i : Nat) (hi : i < ds.length), i < n ∧ ∀ j (hj : j < ds.length), j < n → ns.getD ds[i].toNat 0 ≤ ns.getD ds[j].toNat 0 ∧ (j < i → ns.getD ds[i].toNat 0 < ns.getD ds[j].toNat 0) := by
    intro n
    induction n with
    | zero => intro z; omega
    | succ n ih =>
      intro _ hn
      cases n with
      | zero => exact ⟨0, by omega, by omega, fun j hj hj1 => by obtain rfl : j = 0 := by omega
                                                                 exact ⟨Int.le_refl _, fun z => by omega⟩⟩
      | succ n =>
        obtain ⟨i, hi, hin, hb⟩ := ih (by omega) (by omega)
        by_cases c : ns.getD ds[n + 1].toNat 0 < ns.getD ds[i].toNat 0
        · refine ⟨n + 1, by omega, by omega, fun j hj hj1 => ?_⟩
          by_cases e : j = n + 1
          · subst e; exact ⟨Int.le_refl _, fun z => by omega⟩
          · have := (hb j hj (by omega)).1
            exact ⟨by omega, fun _ => by omega⟩
        · refine ⟨i, hi, by omega, fun j hj hj1 => ?_⟩
          by_cases e : j = n + 1
          · subst e; exact ⟨by omega, fun z => by omega⟩
          · exact hb j hj (by omega)
  have hp : 0 < ds.length := List.length_pos_iff.mpr h
  obtain ⟨i, hi, _, hb⟩ := key ds.length hp (Nat.le_refl _)
  exact ⟨i, hi, emF_of hi fun j hj => hb j hj hj, fun j hj => hb j hj hj⟩
def inc (ns : List Int) (b : Int) : List Int := ns.set b.toNat (ns.getD b.toNat 0 + 1)
def stepF (p : List Int × List Int) (ds : List Int) : List Int × List Int := (inc p.1 (emF p.1 ds), p.2 ++ [emF p.1 ds])
def byF (ns : List Int) (dss : List (List Int)) : List Int × List Int := dss.foldl stepF (ns, [])
theorem byF_snoc (ns : List Int) (a : List (List Int)) (d : List Int) : byF ns (a ++ [d]) = stepF (byF ns a) d := by unfold byF; rw [List.foldl_append]; rfl
theorem byF_take (ns : List Int) {dss : List (List Int)} {i : Nat} (h : i < dss.length) : byF ns (dss.take (i + 1)) = stepF (byF ns (dss.take i)) dss[i] := by
  rw [List.take_add_one, List.getElem?_eq_getElem h]
  exact byF_snoc _ _ _
theorem byF_len (ns : List Int) (dss : List (List Int)) : (byF ns dss).1.length = ns.length ∧ (byF ns dss).2.length = dss.length := by
  have key : ∀ (dss : List (List Int)) (p : List Int × List Int), (dss.foldl stepF p).1.length = p.1.length ∧ (dss.foldl stepF p).2.length = p.2.length + dss.length := by
    intro dss
    induction dss with
    | nil => intro p; simp
    | cons d r ih => intro p; rw [List.foldl_cons]; have := ih (stepF p d); simp [stepF, inc] at this ⊢; omega
  have := key dss (ns, [])
  simpa [byF] using this
/-- told draws -/
inductive Drs (H : Hp) : List V → List (List Int) → Prop
  | nil : Drs H [] []
  | cons {t : Addr} {ds : List Int} {xs : List V} {dss : List (List Int)} : H t = some (.tup (iv ds)) → Drs H xs dss → Drs H (.ref t :: xs) (ds :: dss)
theorem Drs.mono {H H' : Hp} (s : ∀ a xs, H a = some (.tup xs) → H' a = some (.tup xs)) {xs : List V} {dss : List (List Int)} (h : Drs H xs dss) : Drs H' xs dss := by
  induction h with
  | nil => exact .nil
  | cons e _ ih => exact .cons (s _ _ e) ih
theorem Drs.same {H H' : Hp} (s : Same H H') {xs : List V} {dss : List (List Int)} (h : Drs H xs dss) : Drs H' xs dss := h.mono fun a xs e => s _ _ e
theorem Drs.len {H : Hp} {xs : List V} {dss : List (List Int)} (h : Drs H xs dss) : xs.length = dss.length := by
  induction h with
  | nil => rfl
  | cons _ _ ih => simp [ih]
theorem Drs.get {H : Hp} {xs : List V} {dss : List (List Int)} (h : Drs H xs dss) {i : Nat} {v : V} (hv : xs[i]? = some v) : ∃ t ds, v = .ref t ∧ dss[i]? = some ds ∧ H t = some (.tup (iv ds)) := by
  induction h generalizing i with
  | nil => simp at hv
  | @cons t ds xs dss e _ ih =>
    cases i with
    | zero => exact ⟨t, ds, by simpa using hv.symm, rfl, e⟩
    | succ i => exact ih (by simpa using hv)
theorem Drs.app {H : Hp} {xs ys : List V} {a b : List (List Int)} (h : Drs H xs a) (g : Drs H ys b) : Drs H (xs ++ ys) (a ++ b) := by
  induction h with
  | nil => exact g
  | cons e _ ih => exact .cons e ih
theorem Drs.take {H : Hp} {xs : List V} {dss : List (List Int)} (h : Drs H xs dss) (n : Nat) : Drs H (xs.take n) (dss.take n) := by
  induction h generalizing n with
  | nil => simp; exact .nil
  | cons e _ ih =>
    cases n with
    | zero => exact .nil
    | succ n => exact .cons e (ih n)
/-- draws of N boxes -/
def OkD (N : Nat) (dss : List (List Int)) : Prop := ∀ ds ∈ dss, ds ≠ [] ∧ ds.length ≤ 4 ∧ ∀ b ∈ ds, 0 ≤ b ∧ b < N
theorem OkD.take {N : Nat} {dss : List (List Int)} (h : OkD N dss) (n : Nat) : OkD N (dss.take n) := fun d hd => h d (List.mem_of_mem_take hd)
section
variable {P : Program} {w : World} {K : PySem.W.Frag} {mg : Str → Option Value} {base : Heap}
def spEm (T : Addr) (q : Str) : Sp := fun vs H Q _ => ∃ (l t : Addr) (ns ds : List Int), vs = [.ref l, .ref t] ∧ H l = some (.lst (iv ns)) ∧ H t = some (.tup (iv ds)) ∧ ds ≠ [] ∧ (∀ b ∈ ds, 0 ≤ b ∧ b < ns.length) ∧ H T = some (.tab q) ∧ ∀ H', Same H H' → Q (.int (emF ns ds)) H'
theorem ok_em {c D : Addr} (T : Txt2 mg) (kb : K.In base) (L : LamFor mg base "emptiest_of" c D) (F : FunAt K mg "emptiest_of" ["numbers", "draw"] s_emptiest_of) : Cal P w K mg base "emptiest_of" ["numbers", "draw"] 3 (spEm D (qLam "emptiest_of")) := by
  have S := sc_emptiest_of
  have LB := L.lb
  refine F.calL kb L sc_emptiest_of (fun vs H Q E h => ?_) (fun f A outer s H vs Q E hr h => ?_)
  · obtain ⟨l, t, ns, ds, rfl, _⟩ := h; rfl
  obtain ⟨l, t, ns, ds, rfl, hl, ht, hne, hin, hT, k⟩ := h
  refine ⟨_, (@pss_one _ _ _ (@ps_ret _ _ _ _ (@pe_minKey _ false (by exact 0) (by exact (Str.ofString "box")) _ _ _ _ _ _ _ _ _ _ _ _ _ _ _ (by exact (hr.mono (by decide))) (by rfl) (by exact LB) (by rfl) (by rfl) (by exact (fun _ => rfl)) (by rfl) (by rfl) (by rfl) (by rfl) (by decide +kernel) (by rfl) (by exact hfr_of rfl) (by exact Sees.frees [] [("numbers", 0)] (fr_cons ⟨rfl, rfl⟩ fr_nil)) (by exact (fun _ _ _ _ _ => rfl)) (by rfl) (by exact T.z_min) (@pa_consN _ _ _ _ _ (pv 1) pa_nil (by first | rfl | decide | exact Or.inl rfl | exact Or.inr rfl | (intro _; rfl) | (intro _ _; rfl) | (intro _ _ _; rfl))) (fun _ _ _ _ _ _ _ _ hrl => (@pe_ix _ _ _ _ _ _ _ ix_list0 (pv 1) (pv 0) (by exact (fun _ _ => rfl)))) (by first | rfl | decide | exact Or.inl rfl | exact Or.inr rfl | (intro _; rfl) | (intro _ _; rfl) | (intro _ _ _; rfl)) (by first | rfl | decide | exact Or.inl rfl | exact Or.inr rfl | (intro _; rfl) | (intro _ _; rfl) | (intro _ _ _; rfl))))), ?_⟩
  refine ⟨_, rfl, t, iv ds, rfl, SqB.t ht, by simpa using hne, hT, fun H2 s2 => ⟨fun i => ns.getD (ds.getD i 0).toNat 0, fun i v hv => ?_, fun i v hv hb => ?_⟩⟩
  · obtain ⟨b, hb, rfl⟩ := iv_at hv
    obtain ⟨hi, e⟩ := List.getElem?_eq_some_iff.mp hb
    have hr := hin b (List.mem_of_getElem? hb)
    have hlt : b.toNat < ns.length := by omega
    refine ⟨_, rfl, _, rfl, l, iv ns, b, .int (ns.getD b.toNat 0), rfl, rfl, s2 _ _ hl, ?_, ?_, rfl⟩
    · rw [show b = (b.toNat : Int) by omega]
      exact iv_atI hlt
    · dsimp only
      rw [getD_of hi, e]
  · obtain ⟨b, hb', rfl⟩ := iv_at hv
    obtain ⟨hi, e⟩ := List.getElem?_eq_some_iff.mp hb'
    have := k H2 s2
    rw [emF_of (ns := ns) hi fun j hj => ?_, e] at this
    · exact this
    · have hh := hb j (by simpa using hj)
      dsimp only at hh
      rw [getD_of hi, getD_of hj] at hh
      exact hh
end
end My

set_option Elab.async false
set_option linter.all false
set_option maxRecDepth 100000
set_option maxHeartbeats 4000000
namespace My
open PySem L2 MA
theorem em_in {N : Nat} {dss : List (List Int)} (h : OkD N dss) {i : Nat} (hi : i < dss.length) (ns : List Int) : 0 ≤ emF ns dss[i] ∧ emF ns dss[i] < N := by
  obtain ⟨h1, h2, h3⟩ := h dss[i] (List.getElem_mem hi)
  obtain ⟨j, hj, e, _⟩ := emF_mem (ns := ns) h1
  rw [e]
  exact h3 _ (List.getElem_mem hj)
section
variable {P : Program} {w : World} {K : PySem.W.Frag} {mg : Str → Option Value} {base : Heap}
def spBy (T : Addr) (q : Str) : Sp := fun vs H Q _ => ∃ (a b : Addr) (ns : List Int) (xs : List V) (dss : List (List Int)), vs = [.ref a, .ref b] ∧ H a = some (.tup (iv ns)) ∧ H b = some (.lst xs) ∧ Drs H xs dss ∧ OkD ns.length dss ∧ xs.length ≤ 1000 ∧ H T = some (.tab q) ∧
  ∀ (r t l : Addr) (H' : Hp), Same H H' → H' r = some (.tup [.ref t, .ref l]) → H' t = some (.tup (iv (byF ns dss).1)) → H' l = some (.lst (iv (byF ns dss).2)) → H l = none → Q (.ref r) H'
theorem ok_by {D : Addr} (T : Txt2 mg) (C_emptiest_of : Cal P w K mg base "emptiest_of" ["numbers", "draw"] 3 (spEm D (qLam "emptiest_of"))) (F : FunAt K mg "by_draws" ["stand", "draws"] s_by_draws) : Cal P w K mg base "by_draws" ["stand", "draws"] 4 (spBy D (qLam "emptiest_of")) := by
  have S := sc_by_draws
  refine F.cal sc_by_draws (fun vs H Q E h => ?_) (fun f cdv A outer s H vs Q E hr h => ?_)
  · obtain ⟨a, b, ns, xs, dss, rfl, _⟩ := h; rfl
  obtain ⟨a, b, ns, xs, dss, rfl, ha, hb, dr, od, h1000, hT, k⟩ := h
  have dl := dr.len
  refine ⟨_, (@pss_cons _ _ _ _ _ (@ps_par _ _ (3) (4) _ _ _ _ _ _ _ _ _ _ _ (by rfl) (by exact S.nd) (by rfl) (by rfl) (by decide) (by rfl) (by rfl) (@pa_consN _ _ _ _ _ (@pe_callTy _ _ _ _ _ _ _ _ _ call_list_of (by rfl) (by exact T.z_list) (by exact bt_list) (@pa_consN _ _ _ _ _ (pv 0) pa_nil (by first | rfl | decide | exact Or.inl rfl | exact Or.inr rfl | (intro _; rfl) | (intro _ _; rfl) | (intro _ _ _; rfl))) (by first | rfl | decide | exact Or.inl rfl | exact Or.inr rfl | (intro _; rfl) | (intro _ _; rfl) | (intro _ _ _; rfl)) (by first | rfl | decide | exact Or.inl rfl | exact Or.inr rfl | (intro _; rfl) | (intro _ _; rfl) | (intro _ _ _; rfl)) (by first | rfl | decide | exact Or.inl rfl | exact Or.inr rfl | (intro _; rfl) | (intro _ _; rfl) | (intro _ _ _; rfl)) (by first | rfl | decide | exact Or.inl rfl | exact Or.inr rfl | (intro _; rfl) | (intro _ _; rfl) | (intro _ _ _; rfl))) (@pa_consN _ _ _ _ _ (@pe_lst _ _ _ _ pa_nil) pa_nil (by first | rfl | decide | exact Or.inl rfl | exact Or.inr rfl | (intro _; rfl) | (intro _ _; rfl) | (intro _ _ _; rfl))) (by first | rfl | decide | exact Or.inl rfl | exact Or.inr rfl | (intro _; rfl) | (intro _ _; rfl) | (intro _ _ _; rfl))) (by rfl) (by first | rfl | decide | exact Or.inl rfl | exact Or.inr rfl | (intro _; rfl) | (intro _ _; rfl) | (intro _ _ _; rfl))) (@pss_cons _ _ _ _ _ (@ps_for _ _ _ _ _ _ _ _ (by exact PassesOwn.never) (by rfl) (@pi_list _ _ _ _ (pv 1)) (@pg_name _ _ (2) _ (by exact S.nd) (by rfl) (by first | exact Or.inl rfl | exact Or.inr rfl) (by first | rfl | decide | exact Or.inl rfl | exact Or.inr rfl | (intro _; rfl) | (intro _ _; rfl) | (intro _ _ _; rfl))) (@pss_cons _ _ _ _ _ (@ps_set _ _ (5) _ _ _ _ (by exact S.nd) (by rfl) (by first | exact Or.inl rfl | exact Or.inr rfl) (@cc _ _ _ _ _ _ _ _ _ _ (by exact C_emptiest_of) (by exact (hr.mono (by decide))) (@pa_consN _ _ _ _ _ (pv 3) (@pa_consN _ _ _ _ _ (pv 2) pa_nil (by first | rfl | decide | exact Or.inl rfl | exact Or.inr rfl | (intro _; rfl) | (intro _ _; rfl) | (intro _ _ _; rfl))) (by first | rfl | decide | exact Or.inl rfl | exact Or.inr rfl | (intro _; rfl) | (intro _ _; rfl) | (intro _ _ _; rfl))) (by first | rfl | decide | exact Or.inl rfl | exact Or.inr rfl | (intro _; rfl) | (intro _ _; rfl) | (intro _ _ _; rfl)) (by first | rfl | decide | exact Or.inl rfl | exact Or.inr rfl | (intro _; rfl) | (intro _ _; rfl) | (intro _ _ _; rfl)) (by first | rfl | decide | exact Or.inl rfl | exact Or.inr rfl | (intro _; rfl) | (intro _ _; rfl) | (intro _ _ _; rfl)) (by first | rfl | decide | exact Or.inl rfl | exact Or.inr rfl | (intro _; rfl) | (intro _ _; rfl) | (intro _ _ _; rfl))) (by first | rfl | decide | exact Or.inl rfl | exact Or.inr rfl | (intro _; rfl) | (intro _ _; rfl) | (intro _ _ _; rfl)) (by first | rfl | decide | exact Or.inl rfl | exact Or.inr rfl | (intro _; rfl) | (intro _ _; rfl) | (intro _ _ _; rfl))) (@pss_cons _ _ _ _ _ (@ps_augS _ _ _ _ _ _ _ _ _ _ _ _ _ (pv 3) (pv 5) get_list pe_int ip_add set_list (by first | rfl | decide | exact Or.inl rfl | exact Or.inr rfl | (intro _; rfl) | (intro _ _; rfl) | (intro _ _ _; rfl))) (@pss_one _ _ _ (@ps_expr _ _ _ _ (@pe_bm _ _ _ _ _ _ _ _ _ _ _ _ (by exact PySem.F.plainAttrs_list) (by exact PySem.F.slot_list_append) (by exact PySem.F.type_list_append) mt_append (pv 4) (@pa_consN _ _ _ _ _ (pv 5) pa_nil (by first | rfl | decide | exact Or.inl rfl | exact Or.inr rfl | (intro _; rfl) | (intro _ _; rfl) | (intro _ _ _; rfl))) (by first | rfl | decide | exact Or.inl rfl | exact Or.inr rfl | (intro _; rfl) | (intro _ _; rfl) | (intro _ _ _; rfl)) (by first | rfl | decide | exact Or.inl rfl | exact Or.inr rfl | (intro _; rfl) | (intro _ _; rfl) | (intro _ _ _; rfl)) (by first | rfl | decide | exact Or.inl rfl | exact Or.inr rfl | (intro _; rfl) | (intro _ _; rfl) | (intro _ _ _; rfl)) (by first | rfl | decide | exact Or.inl rfl | exact Or.inr rfl | (intro _; rfl) | (intro _ _; rfl) | (intro _ _ _; rfl)) (by first | rfl | decide | exact Or.inl rfl | exact Or.inr rfl | (intro _; rfl) | (intro _ _; rfl) | (intro _ _ _; rfl))) (by first | rfl | decide | exact Or.inl rfl | exact Or.inr rfl | (intro _; rfl) | (intro _ _; rfl) | (intro _ _ _; rfl)))))) (by first | rfl | decide | exact Or.inl rfl | exact Or.inr rfl | (intro _; rfl) | (intro _ _; rfl) | (intro _ _ _; rfl))) (@pss_one _ _ _ (@ps_ret _ _ _ _ (@pe_tup _ _ _ _ _ (@pa_consN _ _ _ _ _ (@pe_callTy _ _ _ _ _ _ _ _ _ call_tuple_of (by rfl) (by exact T.z_tuple) (by exact bt_tuple) (@pa_consN _ _ _ _ _ (pv 3) pa_nil (by first | rfl | decide | exact Or.inl rfl | exact Or.inr rfl | (intro _; rfl) | (intro _ _; rfl) | (intro _ _ _; rfl))) (by first | rfl | decide | exact Or.inl rfl | exact Or.inr rfl | (intro _; rfl) | (intro _ _; rfl) | (intro _ _ _; rfl)) (by first | rfl | decide | exact Or.inl rfl | exact Or.inr rfl | (intro _; rfl) | (intro _ _; rfl) | (intro _ _ _; rfl)) (by first | rfl | decide | exact Or.inl rfl | exact Or.inr rfl | (intro _; rfl) | (intro _ _; rfl) | (intro _ _ _; rfl)) (by first | rfl | decide | exact Or.inl rfl | exact Or.inr rfl | (intro _; rfl) | (intro _ _; rfl) | (intro _ _ _; rfl))) (@pa_consN _ _ _ _ _ (pv 4) pa_nil (by first | rfl | decide | exact Or.inl rfl | exact Or.inr rfl | (intro _; rfl) | (intro _ _; rfl) | (intro _ _ _; rfl))) (by first | rfl | decide | exact Or.inl rfl | exact Or.inr rfl | (intro _; rfl) | (intro _ _; rfl) | (intro _ _ _; rfl)))))))), ?_⟩
  refine ⟨_, rfl, a, _, rfl, .inr (SqT.of ha), fun l1 hl1 => ⟨(by show 0 ≤ sizeLine; exact Nat.zero_le _), fun l2 hl2 => ⟨_, _, rfl, ?_⟩⟩⟩
  have s1 := same_new hl1 (.lst (iv ns))
  have s2 := s1.trans (same_new hl2 (.lst []))
  have l12 : l1 ≠ l2 := fun z => by rw [← z, upd_same] at hl2; cases hl2
  have h1 : (upd (upd H l1 (.lst (iv ns))) l2 (.lst [])) l1 = some (.lst (iv ns)) := by rw [upd_ne l12, upd_same]
  have h2 : (upd (upd H l1 (.lst (iv ns))) l2 (.lst [])) l2 = some (.lst []) := upd_same
  have hl20 : H l2 = none := by rw [upd_ne (Ne.symm l12)] at hl2; exact hl2
  generalize upd (upd H l1 (.lst (iv ns))) l2 (.lst []) = H1 at s2 h1 h2
  clear s1 hl2
  refine ⟨_, rfl, b, rfl, ⟨_, SqL.of (s2 _ _ hb)⟩, for_list (xs := xs) (fun i σ H' => (∃ o2 o5, σ = [some (.ref a), some (.ref b), o2, some (.ref l1), some (.ref l2), o5]) ∧ Same H H' ∧ H' l1 = some (.lst (iv (byF ns (dss.take i)).1)) ∧ H' l2 = some (.lst (iv (byF ns (dss.take i)).2))) ⟨⟨_, _, rfl⟩, s2, h1, h2⟩ (fun i σ H' _ h => SqL.of (h.2.1 _ _ hb)) ?_ ?_⟩
  · rintro i v σ H2 hv ⟨⟨o2, o5, rfl⟩, s', g1, g2⟩
    obtain ⟨t, ds, rfl, hd, ht⟩ := dr.get hv
    obtain ⟨hi, ed⟩ := List.getElem?_eq_some_iff.mp hd
    have bl := byF_len ns (dss.take i)
    have ei := em_in od hi (byF ns (dss.take i)).1
    obtain ⟨d1, d2, d3⟩ := od ds (List.mem_of_getElem? hd)
    refine ⟨_, rfl, _, rfl, l1, t, _, ds, rfl, g1, s' _ _ ht, d1, (by rw [bl.1]; exact d3), s' _ _ hT, fun H3 s3 => ?_⟩
    have tk := byF_take ns hi
    rw [ed] at tk ei
    generalize hb' : emF (byF ns (dss.take i)).1 ds = bx at tk ei
    obtain ⟨B, rfl⟩ : ∃ B : Nat, bx = (B : Int) := ⟨bx.toNat, by omega⟩
    have hB : B < (byF ns (dss.take i)).1.length := by rw [bl.1]; omega
    refine ⟨_, rfl, _, rfl, l1, _, (B : Int), _, rfl, rfl, by omega, s3 _ _ g1, iv_atI hB, _, 1, rfl, rfl, l1, _, (B : Int), B, rfl, rfl, s3 _ _ g1, ixN_nat (by simpa using hB), ?_⟩
    rw [iv_set]
    have g2' := s3 _ _ g2
    have s4 := same_updN hl1 (s'.trans s3) (.lst (iv ((byF ns (dss.take i)).1.set B ((byF ns (dss.take i)).1.getD B 0 + 1))))
    have e1 : (upd H3 l1 (.lst (iv ((byF ns (dss.take i)).1.set B ((byF ns (dss.take i)).1.getD B 0 + 1))))) l1 = _ := upd_same
    have e2 : (upd H3 l1 (.lst (iv ((byF ns (dss.take i)).1.set B ((byF ns (dss.take i)).1.getD B 0 + 1))))) l2 = some (.lst (iv (byF ns (dss.take i)).2)) := by rw [upd_ne (Ne.symm l12)]; exact g2'
    generalize upd H3 l1 (.lst (iv ((byF ns (dss.take i)).1.set B ((byF ns (dss.take i)).1.getD B 0 + 1)))) = H4 at s4 e1 e2
    refine ⟨_, rfl, .inl ⟨rfl, _, SqL.of e2⟩, _, rfl, l2, _, .int (B : Int), rfl, rfl, e2, (by rw [sizeLine_eq]; simp [bl.2]; omega), ?_⟩
    refine ⟨⟨_, _, rfl⟩, same_updN hl20 s4 _, ?_, ?_⟩
    · rw [upd_ne l12, e1, tk]
      unfold stepF inc
      rw [hb']
      rfl
    · rw [upd_same, tk]
      unfold stepF
      rw [hb']
      simp
  · rintro σ H2 ⟨⟨o2, o5, rfl⟩, s', g1, g2⟩
    rw [dl, List.take_length] at g1 g2
    refine ⟨_, rfl, l1, _, rfl, .inl ⟨SqL.of g1, fun t ht => ?_⟩⟩
    have s3 := same_new ht (.tup (iv (byF ns dss).1))
    refine ⟨_, rfl, (by show 2 ≤ sizeLine; decide), fun r hr => ?_⟩
    have s4 := s3.trans (same_new hr (.tup [.ref t, .ref l2]))
    refine k r t l2 _ (s'.trans s4) upd_same ?_ (s4 _ _ g2) hl20
    exact same_new hr _ _ _ upd_same
end
end My

set_option Elab.async false
set_option linter.all false
set_option maxRecDepth 100000
set_option maxHeartbeats 4000000
namespace My
open PySem L2 MA
theorem pick5 {a b c d e i : Int} {P : Int → Prop} (h0 : 0 ≤ i) (h1 : i < 5) (ha : P a) (hb : P b) (hc : P c) (hd : P d) (he : P e) : ∃ z, P z ∧ atI ([.int a, .int b, .int c, .int d, .int e] : List V) i = some (.int z) := by
  rcases (show i = 0 ∨ i = 1 ∨ i = 2 ∨ i = 3 ∨ i = 4 by omega) with rfl | rfl | rfl | rfl | rfl
  · exact ⟨a, ha, rfl⟩
  · exact ⟨b, hb, rfl⟩
  · exact ⟨c, hc, rfl⟩
  · exact ⟨d, hd, rfl⟩
  · exact ⟨e, he, rfl⟩
theorem joinA {C R : Addr → Hp → Prop} {G : Prop} (main : (∀ a h, C a h → R a h) → G) (key : ∀ a h, C a h → R a h) : G := main key
theorem rep_iv (k : Nat) (bs : List Int) : (List.replicate k (iv bs)).flatten = iv (List.replicate k bs).flatten := by
  induction k with
  | zero => rfl
  | succ k ih => rw [List.replicate_succ, List.flatten_cons, ih, List.replicate_succ, List.flatten_cons]; simp
section
variable {P : Program} {w : World} {K : PySem.W.Frag} {mg : Str → Option Value} {base : Heap}
def spDraws : Sp := fun vs H Q _ => ∃ (p : Addr) (n most : Int) (m : Nat), vs = [.ref p, .int n, .int most] ∧ Pen H p m ∧ m < 60000 ∧ 1 ≤ n ∧ n ≤ 6 ∧ 2 ≤ most ∧ most ≤ 60 ∧
  ∀ (l : Addr) (xs : List V) (dss : List (List Int)) (H' : Hp), H' l = some (.lst xs) → Drs H' xs dss → OkD n.toNat dss → (xs.length : Int) ≤ most → Pen H' p (m + 250) → SameX p H H' → Q (.ref l) H'
theorem ok_draws (T : Txt2 mg) (C_l_draw : Cal P w K mg base "_law_draw" ["_law_pen_here", "_law_many"] 1 spDraw) (F : FunAt K mg "_law_draws" ["_law_pen_here", "_law_n", "_law_most"] s_l_draws) : Cal P w K mg base "_law_draws" ["_law_pen_here", "_law_n", "_law_most"] 2 spDraws := by
  have S := sc_l_draws
  refine F.cal sc_l_draws (fun vs H Q E h => ?_) (fun f cdv A outer s H vs Q E hr h => ?_)
  · obtain ⟨p, n, mo, m, rfl, _⟩ := h; rfl
  obtain ⟨p, n, mo, m, rfl, pen, hm, n1, n6, mo2, mo60, k⟩ := h
  refine ⟨_, (@pss_cons _ _ _ _ _ (@ps_set _ _ (3) _ _ _ _ (by exact S.nd) (by rfl) (by first | exact Or.inl rfl | exact Or.inr rfl) (@cc _ _ _ _ _ _ _ _ _ _ (by exact C_l_draw) (by exact (hr.mono (by decide))) (@pa_consN _ _ _ _ _ (pv 0) (@pa_consN _ _ _ _ _ pe_int pa_nil (by first | rfl | decide | exact Or.inl rfl | exact Or.inr rfl | (intro _; rfl) | (intro _ _; rfl) | (intro _ _ _; rfl))) (by first | rfl | decide | exact Or.inl rfl | exact Or.inr rfl | (intro _; rfl) | (intro _ _; rfl) | (intro _ _ _; rfl))) (by first | rfl | decide | exact Or.inl rfl | exact Or.inr rfl | (intro _; rfl) | (intro _ _; rfl) | (intro _ _ _; rfl)) (by first | rfl | decide | exact Or.inl rfl | exact Or.inr rfl | (intro _; rfl) | (intro _ _; rfl) | (intro _ _ _; rfl)) (by first | rfl | decide | exact Or.inl rfl | exact Or.inr rfl | (intro _; rfl) | (intro _ _; rfl) | (intro _ _ _; rfl)) (by first | rfl | decide | exact Or.inl rfl | exact Or.inr rfl | (intro _; rfl) | (intro _ _; rfl) | (intro _ _ _; rfl))) (by first | rfl | decide | exact Or.inl rfl | exact Or.inr rfl | (intro _; rfl) | (intro _ _; rfl) | (intro _ _ _; rfl)) (by first | rfl | decide | exact Or.inl rfl | exact Or.inr rfl | (intro _; rfl) | (intro _ _; rfl) | (intro _ _ _; rfl))) (@pss_cons _ _ _ _ _ (@ps_set _ _ (4) _ _ _ _ (by exact S.nd) (by rfl) (by first | exact Or.inl rfl | exact Or.inr rfl) (@cc _ _ _ _ _ _ _ _ _ _ (by exact C_l_draw) (by exact (hr.mono (by decide))) (@pa_consN _ _ _ _ _ (pv 0) (@pa_consN _ _ _ _ _ pe_int pa_nil (by first | rfl | decide | exact Or.inl rfl | exact Or.inr rfl | (intro _; rfl) | (intro _ _; rfl) | (intro _ _ _; rfl))) (by first | rfl | decide | exact Or.inl rfl | exact Or.inr rfl | (intro _; rfl) | (intro _ _; rfl) | (intro _ _ _; rfl))) (by first | rfl | decide | exact Or.inl rfl | exact Or.inr rfl | (intro _; rfl) | (intro _ _; rfl) | (intro _ _ _; rfl)) (by first | rfl | decide | exact Or.inl rfl | exact Or.inr rfl | (intro _; rfl) | (intro _ _; rfl) | (intro _ _ _; rfl)) (by first | rfl | decide | exact Or.inl rfl | exact Or.inr rfl | (intro _; rfl) | (intro _ _; rfl) | (intro _ _ _; rfl)) (by first | rfl | decide | exact Or.inl rfl | exact Or.inr rfl | (intro _; rfl) | (intro _ _; rfl) | (intro _ _ _; rfl))) (by first | rfl | decide | exact Or.inl rfl | exact Or.inr rfl | (intro _; rfl) | (intro _ _; rfl) | (intro _ _ _; rfl)) (by first | rfl | decide | exact Or.inl rfl | exact Or.inr rfl | (intro _; rfl) | (intro _ _; rfl) | (intro _ _ _; rfl))) (@pss_cons _ _ _ _ _ (@ps_set _ _ (5) _ _ _ _ (by exact S.nd) (by rfl) (by first | exact Or.inl rfl | exact Or.inr rfl) (@pe_ix _ _ _ _ _ _ _ ix_list0 (@pe_lst _ _ _ _ (@pa_consN _ _ _ _ _ pe_int (@pa_consN _ _ _ _ _ pe_int (@pa_consN _ _ _ _ _ pe_int (@pa_consN _ _ _ _ _ (pv 2) (@pa_consN _ _ _ _ _ (@cc _ _ _ _ _ _ _ _ _ _ (by exact C_l_draw) (by exact (hr.mono (by decide))) (@pa_consN _ _ _ _ _ (pv 0) (@pa_consN _ _ _ _ _ (@pe_op _ _ _ _ _ _ _ _ op_add (pv 2) pe_int) pa_nil (by first | rfl | decide | exact Or.inl rfl | exact Or.inr rfl | (intro _; rfl) | (intro _ _; rfl) | (intro _ _ _; rfl))) (by first | rfl | decide | exact Or.inl rfl | exact Or.inr rfl | (intro _; rfl) | (intro _ _; rfl) | (intro _ _ _; rfl))) (by first | rfl | decide | exact Or.inl rfl | exact Or.inr rfl | (intro _; rfl) | (intro _ _; rfl) | (intro _ _ _; rfl)) (by first | rfl | decide | exact Or.inl rfl | exact Or.inr rfl | (intro _; rfl) | (intro _ _; rfl) | (intro _ _ _; rfl)) (by first | rfl | decide | exact Or.inl rfl | exact Or.inr rfl | (intro _; rfl) | (intro _ _; rfl) | (intro _ _ _; rfl)) (by first | rfl | decide | exact Or.inl rfl | exact Or.inr rfl | (intro _; rfl) | (intro _ _; rfl) | (intro _ _ _; rfl))) pa_nil (by first | rfl | decide | exact Or.inl rfl | exact Or.inr rfl | (intro _; rfl) | (intro _ _; rfl) | (intro _ _ _; rfl))) (by first | rfl | decide | exact Or.inl rfl | exact Or.inr rfl | (intro _; rfl) | (intro _ _; rfl) | (intro _ _ _; rfl))) (by first | rfl | decide | exact Or.inl rfl | exact Or.inr rfl | (intro _; rfl) | (intro _ _; rfl) | (intro _ _ _; rfl))) (by first | rfl | decide | exact Or.inl rfl | exact Or.inr rfl | (intro _; rfl) | (intro _ _; rfl) | (intro _ _ _; rfl))) (by first | rfl | decide | exact Or.inl rfl | exact Or.inr rfl | (intro _; rfl) | (intro _ _; rfl) | (intro _ _ _; rfl)))) (pv 3) (by exact (fun _ _ => rfl))) (by first | rfl | decide | exact Or.inl rfl | exact Or.inr rfl | (intro _; rfl) | (intro _ _; rfl) | (intro _ _ _; rfl)) (by first | rfl | decide | exact Or.inl rfl | exact Or.inr rfl | (intro _; rfl) | (intro _ _; rfl) | (intro _ _ _; rfl))) (@pss_cons _ _ _ _ _ (@ps_set _ _ (6) _ _ _ _ (by exact S.nd) (by rfl) (by first | exact Or.inl rfl | exact Or.inr rfl) (@pe_lst _ _ _ _ pa_nil) (by first | rfl | decide | exact Or.inl rfl | exact Or.inr rfl | (intro _; rfl) | (intro _ _; rfl) | (intro _ _ _; rfl)) (by first | rfl | decide | exact Or.inl rfl | exact Or.inr rfl | (intro _; rfl) | (intro _ _; rfl) | (intro _ _ _; rfl))) (@pss_cons _ _ _ _ _ (@ps_for _ _ _ _ _ _ _ _ (by exact PassesOwn.never) (by rfl) (@pi_range1 _ _ _ _ _ _ (by rfl) (by exact T.z_range) (@pa_consN _ _ _ _ _ (pv 5) pa_nil (by first | rfl | decide | exact Or.inl rfl | exact Or.inr rfl | (intro _; rfl) | (intro _ _; rfl) | (intro _ _ _; rfl))) (by first | rfl | decide | exact Or.inl rfl | exact Or.inr rfl | (intro _; rfl) | (intro _ _; rfl) | (intro _ _ _; rfl))) (@pg_name _ _ (7) _ (by exact S.nd) (by rfl) (by first | exact Or.inl rfl | exact Or.inr rfl) (by first | rfl | decide | exact Or.inl rfl | exact Or.inr rfl | (intro _; rfl) | (intro _ _; rfl) | (intro _ _ _; rfl))) (@pss_cons _ _ _ _ _ (@ps_comp _ _ _ _ _ _ _ _ _ _ _ _ _ _ _ (8) _ (by exact S.nd) (by rfl) (by first | exact Or.inl rfl | exact Or.inr rfl) (by rfl) (by exact (fun _ _ h => h)) (by decide +kernel) (by rfl) (by decide +kernel) (by exact hfr_of rfl) (by exact Sees.frees ["_law_j"] [("_law_pen_here", 0), ("_law_n", 1)] (fr_cons ⟨rfl, rfl⟩ (fr_cons ⟨rfl, rfl⟩ fr_nil))) (@pi_range1 _ _ _ _ _ _ (by rfl) (by exact T.z_range) (@pa_consN _ _ _ _ _ (@pe_op _ _ _ _ _ _ _ _ op_add pe_int (@cc _ _ _ _ _ _ _ _ _ _ (by exact C_l_draw) (by exact (hr.mono (by decide))) (@pa_consN _ _ _ _ _ (pv 0) (@pa_consN _ _ _ _ _ pe_int pa_nil (by first | rfl | decide | exact Or.inl rfl | exact Or.inr rfl | (intro _; rfl) | (intro _ _; rfl) | (intro _ _ _; rfl))) (by first | rfl | decide | exact Or.inl rfl | exact Or.inr rfl | (intro _; rfl) | (intro _ _; rfl) | (intro _ _ _; rfl))) (by first | rfl | decide | exact Or.inl rfl | exact Or.inr rfl | (intro _; rfl) | (intro _ _; rfl) | (intro _ _ _; rfl)) (by first | rfl | decide | exact Or.inl rfl | exact Or.inr rfl | (intro _; rfl) | (intro _ _; rfl) | (intro _ _ _; rfl)) (by first | rfl | decide | exact Or.inl rfl | exact Or.inr rfl | (intro _; rfl) | (intro _ _; rfl) | (intro _ _ _; rfl)) (by first | rfl | decide | exact Or.inl rfl | exact Or.inr rfl | (intro _; rfl) | (intro _ _; rfl) | (intro _ _ _; rfl)))) pa_nil (by first | rfl | decide | exact Or.inl rfl | exact Or.inr rfl | (intro _; rfl) | (intro _ _; rfl) | (intro _ _ _; rfl))) (by first | rfl | decide | exact Or.inl rfl | exact Or.inr rfl | (intro _; rfl) | (intro _ _; rfl) | (intro _ _ _; rfl))) (fun _ _ _ _ _ => @pg_name _ _ (0) _ (by exact (show (["_law_j", "_law_pen_here", "_law_n"] : List Str).Nodup by decide +kernel)) (by rfl) (by first | exact Or.inl rfl | exact Or.inr rfl) (by first | rfl | decide | exact Or.inl rfl | exact Or.inr rfl | (intro _; rfl) | (intro _ _; rfl) | (intro _ _ _; rfl))) (fun _ _ _ _ _ => pts_nil) (fun _ _ _ _ _ => (@cc _ _ _ _ _ _ _ _ _ _ (by exact C_l_draw) (by exact (hr.mono (by decide))) (@pa_consN _ _ _ _ _ (pv 1) (@pa_consN _ _ _ _ _ (pv 2) pa_nil (by first | rfl | decide | exact Or.inl rfl | exact Or.inr rfl | (intro _; rfl) | (intro _ _; rfl) | (intro _ _ _; rfl))) (by first | rfl | decide | exact Or.inl rfl | exact Or.inr rfl | (intro _; rfl) | (intro _ _; rfl) | (intro _ _ _; rfl))) (by first | rfl | decide | exact Or.inl rfl | exact Or.inr rfl | (intro _; rfl) | (intro _ _; rfl) | (intro _ _ _; rfl)) (by first | rfl | decide | exact Or.inl rfl | exact Or.inr rfl | (intro _; rfl) | (intro _ _; rfl) | (intro _ _ _; rfl)) (by first | rfl | decide | exact Or.inl rfl | exact Or.inr rfl | (intro _; rfl) | (intro _ _; rfl) | (intro _ _ _; rfl)) (by first | rfl | decide | exact Or.inl rfl | exact Or.inr rfl | (intro _; rfl) | (intro _ _; rfl) | (intro _ _ _; rfl)))) (by first | rfl | decide | exact Or.inl rfl | exact Or.inr rfl | (intro _; rfl) | (intro _ _; rfl) | (intro _ _ _; rfl)) (by first | rfl | decide | exact Or.inl rfl | exact Or.inr rfl | (intro _; rfl) | (intro _ _; rfl) | (intro _ _ _; rfl)) (by first | rfl | decide | exact Or.inl rfl | exact Or.inr rfl | (intro _; rfl) | (intro _ _; rfl) | (intro _ _ _; rfl))) (@pss_cons _ _ _ _ _ (@ps_if _ _ _ _ _ _ _ _ (@pt_cmpR _ _ _ _ _ _ _ _ op_lt (pv 4) pe_int (by exact (nomark _))) (@pss_one _ _ _ (@ps_set _ _ (8) _ _ _ _ (by exact S.nd) (by rfl) (by first | exact Or.inl rfl | exact Or.inr rfl) (@pe_slice _ _ _ _ _ _ _ _ _ _ sl_list0 (@pe_op _ _ _ _ _ _ _ _ op_rep (pv 8) pe_int) po_none (@po_some _ _ _ (@pe_op _ _ _ _ _ _ _ _ op_add (pv 4) pe_int))) (by first | rfl | decide | exact Or.inl rfl | exact Or.inr rfl | (intro _; rfl) | (intro _ _; rfl) | (intro _ _ _; rfl)) (by first | rfl | decide | exact Or.inl rfl | exact Or.inr rfl | (intro _; rfl) | (intro _ _; rfl) | (intro _ _ _; rfl)))) pss_nil) (@pss_one _ _ _ (@ps_expr _ _ _ _ (@pe_bm _ _ _ _ _ _ _ _ _ _ _ _ (by exact PySem.F.plainAttrs_list) (by exact PySem.F.slot_list_append) (by exact PySem.F.type_list_append) mt_append (pv 6) (@pa_consN _ _ _ _ _ (@pe_callTy _ _ _ _ _ _ _ _ _ call_tuple_of (by rfl) (by exact T.z_tuple) (by exact bt_tuple) (@pa_consN _ _ _ _ _ (pv 8) pa_nil (by first | rfl | decide | exact Or.inl rfl | exact Or.inr rfl | (intro _; rfl) | (intro _ _; rfl) | (intro _ _ _; rfl))) (by first | rfl | decide | exact Or.inl rfl | exact Or.inr rfl | (intro _; rfl) | (intro _ _; rfl) | (intro _ _ _; rfl)) (by first | rfl | decide | exact Or.inl rfl | exact Or.inr rfl | (intro _; rfl) | (intro _ _; rfl) | (intro _ _ _; rfl)) (by first | rfl | decide | exact Or.inl rfl | exact Or.inr rfl | (intro _; rfl) | (intro _ _; rfl) | (intro _ _ _; rfl)) (by first | rfl | decide | exact Or.inl rfl | exact Or.inr rfl | (intro _; rfl) | (intro _ _; rfl) | (intro _ _ _; rfl))) pa_nil (by first | rfl | decide | exact Or.inl rfl | exact Or.inr rfl | (intro _; rfl) | (intro _ _; rfl) | (intro _ _ _; rfl))) (by first | rfl | decide | exact Or.inl rfl | exact Or.inr rfl | (intro _; rfl) | (intro _ _; rfl) | (intro _ _ _; rfl)) (by first | rfl | decide | exact Or.inl rfl | exact Or.inr rfl | (intro _; rfl) | (intro _ _; rfl) | (intro _ _ _; rfl)) (by first | rfl | decide | exact Or.inl rfl | exact Or.inr rfl | (intro _; rfl) | (intro _ _; rfl) | (intro _ _ _; rfl)) (by first | rfl | decide | exact Or.inl rfl | exact Or.inr rfl | (intro _; rfl) | (intro _ _; rfl) | (intro _ _ _; rfl)) (by first | rfl | decide | exact Or.inl rfl | exact Or.inr rfl | (intro _; rfl) | (intro _ _; rfl) | (intro _ _ _; rfl))) (by first | rfl | decide | exact Or.inl rfl | exact Or.inr rfl | (intro _; rfl) | (intro _ _; rfl) | (intro _ _ _; rfl)))))) (by first | rfl | decide | exact Or.inl rfl | exact Or.inr rfl | (intro _; rfl) | (intro _ _; rfl) | (intro _ _ _; rfl))) (@pss_one _ _ _ (@ps_ret _ _ _ _ (pv 6)))))))), ?_⟩
  refine ⟨_, rfl, p, _, m, rfl, pen, by omega, by decide, by decide, fun d1 H1 d10 d11 p1 x1 => ?_⟩
  refine ⟨_, rfl, p, _, _, rfl, p1, by omega, by decide, by decide, fun d2 H2 d20 d21 p2 x2 => ?_⟩
  obtain ⟨D, rfl⟩ : ∃ D : Nat, d2 = (D : Int) := ⟨d2.toNat, by omega⟩
  refine ⟨_, rfl, _, rfl, _, rfl, _, _, rfl, rfl, p, _, _, rfl, p2, by omega, by omega, by omega, fun d3 H3 d30 d31 p3 x3 => ⟨lz 5 rfl, fun t ht => ?_⟩⟩
  have st := same_new ht (.lst [.int 0, .int 1, .int 2, .int mo, .int d3])
  obtain ⟨N, ⟨N0, N1⟩, hN⟩ := pick5 (a := 0) (b := 1) (c := 2) (d := mo) (e := d3) (P := fun z => 0 ≤ z ∧ z ≤ mo) d10 d11 ⟨by decide, by omega⟩ ⟨by decide, by omega⟩ ⟨by decide, by omega⟩ ⟨by omega, by omega⟩ ⟨by omega, by omega⟩
  refine ⟨_, rfl, t, _, _, _, rfl, rfl, upd_same, hN, ?_⟩
  have p3' := p3.same st
  have x03 := ((x1.trans x2).trans x3).trans st.x
  generalize upd H3 t (.lst [.int 0, .int 1, .int 2, .int mo, .int d3]) = H4 at p3' x03
  clear st ht hN
  refine ⟨lz 0 rfl, fun l hl => ?_⟩
  refine ⟨_, rfl, N, rfl, by omega, by omega, for_range (n := N.toNat) (fun i σ H' => Pen H' p (m + 3 + 4 * i) ∧ SameX p H4 H' ∧ (∃ xs dss, H' l = some (.lst xs) ∧ Drs H' xs dss ∧ OkD n.toNat dss ∧ xs.length = i) ∧ ∃ o7 o8, σ = [some (.ref p), some (.int n), some (.int mo), some (.int d1), some (.int (D : Int)), some (.int N), some (.ref l), o7, o8]) ?_ ?_ ?_⟩
  · exact ⟨p3'.same (same_new hl _), (same_new hl _).x, ⟨[], [], upd_same, .nil, fun d hd => by simp at hd, rfl⟩, _, _, rfl⟩
  · rintro i σ H5 hi ⟨p5, x5, ⟨xs, dss, hl5, dr, od, hxl⟩, o7, o8, rfl⟩
    apply joinA (C := fun c H' => ∃ bs : List Int, H' c = some (.lst (iv bs)) ∧ bs ≠ [] ∧ bs.length ≤ 4 ∧ (∀ b ∈ bs, 0 ≤ b ∧ b < n.toNat) ∧ Pen H' p (m + 3 + 4 * i + 4) ∧ SameX p H5 H')
    case main =>
      intro key
      refine ⟨_, rfl, p, _, _, rfl, p5, by omega, by decide, by decide, fun e H6 e0 e1 p6 x6 => ?_⟩
      refine ⟨_, _, rfl, rfl, _, rfl, by omega, by omega, comp_rng (n := (1 + e).toNat) (lo := 0) (fs := [some (.ref p), some (.int n)]) (fun acc j ys H' => Pen H' p (m + 3 + 4 * i + 1 + j) ∧ SameX p H6 H' ∧ ∃ bs : List Int, ys = iv bs ∧ ∀ b ∈ bs, 0 ≤ b ∧ b < n.toNat) (by omega) ?_ ?_ ?_⟩
      · exact fun acc hacc => ⟨p6.same (same_new hacc _), (same_new hacc _).x, [], rfl, by simp⟩
      · rintro acc j ys H' hacc hj hl' ⟨p', x', bs, rfl, hb⟩ hacc' Q' hQ
        refine ⟨_, rfl, _, rfl, p, _, _, rfl, p', by omega, by omega, by omega, fun r H2 r0 r1 p2 x2 => ?_⟩
        obtain ⟨u1, u2⟩ := penX_upd hacc p6 (x'.trans x2) p2 (.lst (iv bs ++ [.int r]))
        refine hQ _ H2 (p'.keep x2 hacc') ⟨u1, u2, bs ++ [r], by simp, fun b hbm => ?_⟩
        rcases List.mem_append.mp hbm with q | q
        · exact hb b q
        · have : b = r := by simpa using q
          omega
      rintro lb ys H7 hlb0 ⟨p7, x7, bs, rfl, hb⟩ hlb hlen
      have hbn : bs.length = (1 + e).toNat := by simpa using hlen
      have x57 := x6.trans x7
      refine ⟨_, rfl, _, _, rfl, rfl, _, rfl, ?_⟩
      refine ite2 (fun c => ?tt) (fun c => ?ff)
      case ff => exact key lb H7 ⟨bs, hlb, List.ne_nil_of_length_pos (by omega), by omega, hb, p7.mono (by omega), x57⟩
      case tt =>
        have c' : (D : Int) < 2 := of_decide_eq_true c
        refine ⟨_, rfl, lb, 3, _, rfl, rfl, hlb, by decide, by decide, (by rw [sizeLine_eq]; simp; omega), fun q hq => ?_⟩
        have sq := same_new hq (.lst (List.replicate (3 : Int).toNat (iv bs)).flatten)
        refine ⟨_, rfl, _, _, rfl, rfl, _, rfl, q, _, rfl, upd_same, fun q2 hq2 => ?_⟩
        have sq2 := sq.trans (same_new hq2 (.lst (cutV (List.replicate (3 : Int).toNat (iv bs)).flatten none (some ((D : Int) + 1)))))
        refine key q2 _ ⟨((List.replicate 3 bs).flatten).take (D + 1), ?_, ?_, ?_, ?_, (p7.same sq2).mono (by omega), x57.trans sq2.x⟩
        · rw [upd_same, show ((D : Int) + 1) = ((D + 1 : Nat) : Int) by omega, cut_take (by rw [len_rep]; simp; omega), show (3 : Int).toNat = 3 from rfl, rep_iv, ← List.map_take]
        · refine List.ne_nil_of_length_pos ?_
          rw [List.length_take, len_rep]
          omega
        · rw [List.length_take]
          omega
        · intro b hb'
          have := List.mem_of_mem_take hb'
          obtain ⟨z, hz, hbz⟩ := List.mem_flatten.mp this
          rw [List.eq_of_mem_replicate hz] at hbz
          exact hb b hbz
    rintro lb H8 ⟨bs, hlb, bne, b4, hb, p8, x8⟩
    have hl8 := p5.keep x8 hl5
    have dr8 : Drs H8 xs dss := dr.mono fun a xs e => p5.keep x8 e
    refine ⟨_, rfl, .inl ⟨rfl, _, SqL.of hl8⟩, _, rfl, lb, _, rfl, .inl ⟨SqL.of hlb, fun t ht => ?_⟩⟩
    have s9 := same_new ht (.tup (iv bs))
    have ht9 : (upd H8 t (.tup (iv bs))) t = some (.tup (iv bs)) := upd_same
    have hl9 := s9 _ _ hl8
    have dr9 := dr8.same s9
    have p9 := p8.same s9
    have x9 := (x5.trans x8).trans s9.x
    generalize upd H8 t (.tup (iv bs)) = H9 at s9 ht9 hl9 dr9 p9 x9
    refine ⟨l, xs, .ref t, rfl, rfl, hl9, (by rw [sizeLine_eq]; omega), ?_⟩
    obtain ⟨u1, u2⟩ := penX_upd hl p3' x9 p9 (.lst (xs ++ [.ref t]))
    have up : ∀ a ys, H9 a = some (.tup ys) → (upd H9 l (.lst (xs ++ [.ref t]))) a = some (.tup ys) := fun a ys e => by rw [upd_ne (ne_of e hl9 (by intro z; cases z))]; exact e
    refine ⟨u1.mono (by omega), u2, ⟨xs ++ [.ref t], dss ++ [bs], upd_same, (dr9.mono up).app (.cons (up _ _ ht9) .nil), fun d hd => ?_, by simp; omega⟩, _, _, rfl⟩
    rcases List.mem_append.mp hd with z | z
    · exact od d z
    · rw [List.mem_singleton.mp z]
      exact ⟨bne, b4, hb⟩
  · rintro σ H5 ⟨p5, x5, ⟨xs, dss, hl5, dr, od, hxl⟩, o7, o8, rfl⟩
    exact ⟨_, rfl, k l xs dss H5 hl5 dr od (by omega) (p5.mono (by omega)) (x03.trans x5)⟩
end
end My

set_option Elab.async false
set_option linter.all false
set_option maxRecDepth 100000
set_option maxHeartbeats 4000000
namespace My
open PySem L2 MA
/-! ### a room -/
def flds (l d : Addr) (nb : Int) (q : Addr) : List (Str × V) := [("numbers", .ref l), ("places", .ref d), ("next_ball", .int nb), ("deeds", .ref q)]
theorem n12 : ¬ (("numbers" : Str) = "places") := by decide +kernel
theorem n13 : ¬ (("numbers" : Str) = "next_ball") := by decide +kernel
theorem n14 : ¬ (("numbers" : Str) = "deeds") := by decide +kernel
theorem n23 : ¬ (("places" : Str) = "next_ball") := by decide +kernel
theorem n24 : ¬ (("places" : Str) = "deeds") := by decide +kernel
theorem n34 : ¬ (("next_ball" : Str) = "deeds") := by decide +kernel
theorem flds_mk (l d : Addr) (nb : Int) (q : Addr) : putF "deeds" (.ref q) (putF "next_ball" (.int nb) (putF "places" (.ref d) (putF "numbers" (.ref l) []))) = flds l d nb q := by
  simp only [putF, if_neg n12, if_neg n13, if_neg n14, if_neg n23, if_neg n24, if_neg n34]
  rfl
theorem flds_put (l d : Addr) (nb y : Int) (q : Addr) : putF "next_ball" (.int y) (flds l d nb q) = flds l d y q := by
  unfold flds
  simp only [putF, if_neg n13, if_neg n23, if_true]
theorem flds_num (l d : Addr) (nb : Int) (q : Addr) : (flds l d nb q).lookup ("numbers" : Str) = some (.ref l) := rfl
theorem flds_plc (l d : Addr) (nb : Int) (q : Addr) : (flds l d nb q).lookup ("places" : Str) = some (.ref d) := by rw [← flds_mk, lookup_putF, if_neg n24, lookup_putF, if_neg n23, lookup_putF, if_pos rfl]
theorem flds_nxt (l d : Addr) (nb : Int) (q : Addr) : (flds l d nb q).lookup ("next_ball" : Str) = some (.int nb) := by rw [← flds_mk, lookup_putF, if_neg n34, lookup_putF, if_pos rfl]
theorem flds_ded (l d : Addr) (nb : Int) (q : Addr) : (flds l d nb q).lookup ("deeds" : Str) = some (.ref q) := by rw [← flds_mk, lookup_putF, if_pos rfl]
theorem flds_no (l d : Addr) (nb : Int) (q : Addr) {m : Str} (h1 : ¬ m = "numbers") (h2 : ¬ m = "places") (h3 : ¬ m = "next_ball") (h4 : ¬ m = "deeds") : (flds l d nb q).lookup m = none := by
  rw [← flds_mk, lookup_putF, if_neg h4, lookup_putF, if_neg h3, lookup_putF, if_neg h2, lookup_putF, if_neg h1]
  rfl
structure RoomAt (C : Addr) (H : Hp) (p l d q : Addr) (ns : List Int) (kvs : List (Key × V)) (nb : Int) (dv : List V) : Prop where
  ob : ∃ dx, H p = some (.ins C dx (flds l d nb q))
  nm : H l = some (.lst (iv ns))
  pl : H d = some (.dK kvs)
  de : H q = some (.lst dv)
  lq : l ≠ q
def dec (ns : List Int) (b : Int) : List Int := ns.set b.toNat (ns.getD b.toNat 0 - 1)
theorem inc_len (ns : List Int) (b : Int) : (inc ns b).length = ns.length := by simp [inc]
theorem dec_len (ns : List Int) (b : Int) : (dec ns b).length = ns.length := by simp [dec]
theorem set_back {ns : List Int} {i : Nat} {x y : Int} (h : i < ns.length) (e : (ns.set i x).getD i 0 + y = ns.getD i 0) : (ns.set i x).set i ((ns.set i x).getD i 0 + y) = ns := by
  rw [e, List.set_set, getD_of h]
  exact List.set_getElem_self h
theorem getD_set {ns : List Int} {i : Nat} {x : Int} (h : i < ns.length) : (ns.set i x).getD i 0 = x := by
  rw [getD_of (by rw [List.length_set]; exact h), List.getElem_set_self]
theorem dec_inc {ns : List Int} {b : Int} (h : b.toNat < ns.length) : dec (inc ns b) b = ns := by
  unfold dec inc
  rw [Int.sub_eq_add_neg]
  exact set_back h (by rw [getD_set h]; omega)
theorem inc_dec {ns : List Int} {b : Int} (h : b.toNat < ns.length) : inc (dec ns b) b = ns := by
  unfold dec inc
  exact set_back h (by rw [getD_set h]; omega)
theorem valV_drop (k j : Key) : ∀ kvs : List (Key × V), valV (dropK kvs k) j = if j = k then none else valV kvs j
  | [] => by rw [show dropK ([] : List (Key × V)) k = [] from rfl, valV_nil]; split <;> rfl
  | p :: r => by
    by_cases e : p.1 = k
    · rw [dropK_pos e, valV_drop k j r]
      by_cases ej : j = k
      · rw [if_pos ej, if_pos ej]
      · rw [if_neg ej, if_neg ej, valV_neg (by rw [e]; exact fun z => ej z.symm)]
    · rw [dropK_neg e]
      by_cases ep : p.1 = j
      · rw [valV_pos ep, valV_pos ep, if_neg (by rw [← ep]; exact e)]
      · rw [valV_neg ep, valV_neg ep, valV_drop k j r]
section
variable {P : Program} {w : World} {K : PySem.W.Frag} {mg : Str → Option Value} {base : Heap}
structure RmT (K : PySem.W.Frag) (mg : Str → Option Value) (C : Addr) : Prop where
  ca : CAt K mg "Room" C
  n1 : NoAttr K C "numbers"
  n2 : NoAttr K C "places"
  n3 : NoAttr K C "next_ball"
  n4 : NoAttr K C "deeds"
def spInit (C : Addr) : Sp := fun vs H Q _ => ∃ (p dx : Addr) (n : Int), vs = [.ref p, .int n] ∧ H p = some (.ins C dx []) ∧ 1 ≤ n ∧ n ≤ 6 ∧ ∀ (l d q : Addr) (H' : Hp), H l = none → H d = none → H q = none → RoomAt C H' p l d q (List.replicate n.toNat 0) [] 0 [] → (∀ b o, H b = some o → b ≠ p → H' b = some o) → Q .non H'
theorem rep1' (x : Int) : ∀ k : Nat, (List.replicate k [V.int x]).flatten = iv (List.replicate k x)
  | 0 => rfl
  | k + 1 => by rw [List.replicate_succ, List.flatten_cons, rep1' x k, List.replicate_succ]; rfl
theorem ok_init {C : Addr} (R : RmT K mg C) (F : MFun K C "__init__" "Room.__init__" ["self", "n"] s_Room____init__) : MCal P w K mg base C "__init__" ["self", "n"] 1 (spInit C) := by
  have S := sc_Room____init__
  refine F.cal sc_Room____init__ (fun vs H Q E h => ?_) (fun f cdv A outer s H vs Q E hr h => ?_)
  · obtain ⟨p, dx, n, rfl, _⟩ := h; rfl
  obtain ⟨p, dx, n, rfl, hp, n1, n6, k⟩ := h
  refine ⟨_, (@pss_cons _ _ _ _ _ (@ps_fld _ _ _ _ _ _ _ _ (pv 0) (@pe_op _ _ _ _ _ _ _ _ op_rep (@pe_lst _ _ _ _ (@pa_consN _ _ _ _ _ pe_int pa_nil (by first | rfl | decide | exact Or.inl rfl | exact Or.inr rfl | (intro _; rfl) | (intro _ _; rfl) | (intro _ _ _; rfl)))) (pv 1)) (by rfl)) (@pss_cons _ _ _ _ _ (@ps_fld _ _ _ _ _ _ _ _ (pv 0) pe_dnewK (by rfl)) (@pss_cons _ _ _ _ _ (@ps_fld _ _ _ _ _ _ _ _ (pv 0) pe_int (by rfl)) (@pss_one _ _ _ (@ps_fld _ _ _ _ _ _ _ _ (pv 0) (@pe_lst _ _ _ _ pa_nil) (by rfl)))))), ?_⟩
  refine ⟨lz 1 rfl, fun a1 ha1 => ⟨_, rfl, a1, n, _, rfl, rfl, upd_same, by omega, by omega, (by rw [sizeLine_eq]; simp; omega), fun l hl => ?_⟩⟩
  rw [rep1']
  have s1 := (same_new ha1 (.lst [.int 0])).trans (same_new hl (.lst (iv (List.replicate n.toNat 0))))
  have e1 := upd_same (H := upd H a1 (.lst [.int 0])) (a := l) (o := .lst (iv (List.replicate n.toNat 0)))
  have hl0 : H l = none := by
    cases e : H l with
    | none => rfl
    | some o => rw [same_new ha1 _ _ _ e] at hl; cases hl
  generalize upd (upd H a1 (.lst [.int 0])) l (.lst (iv (List.replicate n.toNat 0))) = H1 at s1 e1
  have npl : p ≠ l := ne_of_none hp hl0
  refine ⟨_, rfl, p, C, dx, [], rfl, s1 _ _ hp, R.ca.cl, R.n1, (by show 0 < 1000; decide), ?_⟩
  have keep0 : ∀ b o, H b = some o → b ≠ p → (upd H1 p (.ins C dx (putF "numbers" (.ref l) []))) b = some o := fun b o e hb => by rw [upd_ne hb]; exact s1 _ _ e
  have f2 : (upd H1 p (.ins C dx (putF "numbers" (.ref l) []))) p = some (.ins C dx (putF "numbers" (.ref l) [])) := upd_same
  have g2 : (upd H1 p (.ins C dx (putF "numbers" (.ref l) []))) l = some (.lst (iv (List.replicate n.toNat 0))) := by rw [upd_ne (Ne.symm npl)]; exact e1
  generalize upd H1 p (.ins C dx (putF "numbers" (.ref l) [])) = H2 at keep0 f2 g2
  intro d hd
  have npd : p ≠ d := ne_of_none f2 hd
  have nld : l ≠ d := ne_of_none g2 hd
  refine ⟨_, rfl, p, C, dx, _, rfl, (by rw [upd_ne npd]; exact f2), R.ca.cl, R.n2, (by show 1 < 1000; decide), ?_⟩
  refine ⟨_, rfl, p, C, dx, _, rfl, upd_same, R.ca.cl, R.n3, (by show 2 < 1000; decide), ?_⟩
  rw [upd_upd]
  have fr : ∀ b o, H b = some o → H2 b = some o ∨ b = p := fun b o e => by
    by_cases hb : b = p
    · exact .inr hb
    · exact .inl (keep0 b o e hb)
  have hd0 : H d = none := by
    cases e : H d with
    | none => rfl
    | some o =>
      rcases fr d o e with z | z
      · rw [z] at hd; cases hd
      · exact absurd z.symm npd
  have f3 := upd_same (H := upd H2 d (.dK [])) (a := p) (o := .ins C dx (putF "next_ball" (.int 0) (putF "places" (.ref d) (putF "numbers" (.ref l) []))))
  have g3 : (upd (upd H2 d (.dK [])) p (.ins C dx (putF "next_ball" (.int 0) (putF "places" (.ref d) (putF "numbers" (.ref l) []))))) l = some (.lst (iv (List.replicate n.toNat 0))) := by rw [upd_ne (Ne.symm npl), upd_ne nld]; exact g2
  have d3 : (upd (upd H2 d (.dK [])) p (.ins C dx (putF "next_ball" (.int 0) (putF "places" (.ref d) (putF "numbers" (.ref l) []))))) d = some (.dK []) := by rw [upd_ne (Ne.symm npd), upd_same]
  have keep3 : ∀ b o, H b = some o → b ≠ p → (upd (upd H2 d (.dK [])) p (.ins C dx (putF "next_ball" (.int 0) (putF "places" (.ref d) (putF "numbers" (.ref l) []))))) b = some o := fun b o e hb => by rw [upd_ne hb, upd_ne (ne_of_none e hd0)]; exact keep0 b o e hb
  generalize upd (upd H2 d (.dK [])) p (.ins C dx (putF "next_ball" (.int 0) (putF "places" (.ref d) (putF "numbers" (.ref l) [])))) = H3 at f3 g3 d3 keep3
  refine ⟨lz 0 rfl, fun q hq => ?_⟩
  have npq : p ≠ q := ne_of_none f3 hq
  refine ⟨_, rfl, p, C, dx, _, rfl, (by rw [upd_ne npq]; exact f3), R.ca.cl, R.n4, (by show 3 < 1000; decide), ?_⟩
  have hq0 : H q = none := by
    cases e : H q with
    | none => rfl
    | some o => rw [keep3 q o e (Ne.symm npq)] at hq; cases hq
  rw [flds_mk]
  refine k l d q _ hl0 hd0 hq0 ⟨⟨dx, upd_same⟩, ?_, ?_, ?_, ne_of_none g3 hq⟩ fun b o e hb => ?_
  · rw [upd_ne (Ne.symm npl), upd_ne (ne_of_none g3 hq)]; exact g3
  · rw [upd_ne (Ne.symm npd), upd_ne (ne_of_none d3 hq)]; exact d3
  · rw [upd_ne (Ne.symm npq), upd_same]
  · rw [upd_ne hb, upd_ne (ne_of_none e hq0)]; exact keep3 b o e hb
/-! lay, lift: the dict, then the numbers -/
def spLay (C : Addr) : Sp := fun vs H Q _ => ∃ (p l d q : Addr) (ns : List Int) (kvs : List (Key × V)) (nb : Int) (dv : List V) (b bx : Int), vs = [.ref p, .int b, .int bx] ∧ RoomAt C H p l d q ns kvs nb dv ∧ kvs.length ≤ 1000 ∧ 0 ≤ bx ∧ bx < ns.length ∧
  Q .non (upd (upd H d (.dK (putK kvs (Sum.inl b) (.int bx)))) l (.lst (iv (inc ns bx))))
theorem ok_lay {C : Addr} (R : RmT K mg C) (F : MFun K C "lay" "Room.lay" ["self", "ball", "box"] s_Room__lay) : MCal P w K mg base C "lay" ["self", "ball", "box"] 1 (spLay C) := by
  have S := sc_Room__lay
  refine F.cal sc_Room__lay (fun vs H Q E h => ?_) (fun f cdv A outer s H vs Q E hr h => ?_)
  · obtain ⟨p, l, d, q, ns, kvs, nb, dv, b, bx, rfl, _⟩ := h; rfl
  obtain ⟨p, l, d, q, ns, kvs, nb, dv, b, bx, rfl, A, hk, b0, b1, k⟩ := h
  obtain ⟨⟨dx, h1⟩, hl, hd, hq, lq⟩ := A
  have hu1 := hu_of hr
  have npd : p ≠ d := ne_of h1 hd (by intro z; cases z)
  have nld : l ≠ d := ne_of hl hd (by intro z; cases z)
  refine ⟨_, (@pss_cons _ _ _ _ _ (@ps_dput _ _ _ _ _ _ _ _ _ (by exact hu1) (@pe_fld _ _ _ _ _ (pv 0) (by rfl)) (pv 1) (pv 2) (by rfl)) (@pss_one _ _ _ (@ps_augS _ _ _ _ _ _ _ _ _ _ _ _ _ (@pe_fld _ _ _ _ _ (pv 0) (by rfl)) (pv 2) get_list pe_int ip_add set_list (by first | rfl | decide | exact Or.inl rfl | exact Or.inr rfl | (intro _; rfl) | (intro _ _; rfl) | (intro _ _ _; rfl))))), ?_⟩
  obtain ⟨B, rfl⟩ : ∃ B : Nat, bx = (B : Int) := ⟨bx.toNat, by omega⟩
  have hB : B < ns.length := by omega
  refine ⟨_, rfl, _, rfl, p, C, dx, _, _, rfl, h1, R.ca.cl, R.n2, flds_plc _ _ _ _, _, rfl, d, _, rfl, DPut.k (k := Sum.inl b) hd (by rw [sizeLine_eq]; omega), ?_⟩
  have h1' : ∀ o, (upd H d o) p = some (.ins C dx (flds l d nb q)) := fun o => by rw [upd_ne npd]; exact h1
  have hl' : ∀ o, (upd H d o) l = some (.lst (iv ns)) := fun o => by rw [upd_ne nld]; exact hl
  refine ⟨_, rfl, p, C, dx, _, _, rfl, h1' _, R.ca.cl, R.n1, flds_num _ _ _ _, _, rfl, l, _, (B : Int), _, rfl, rfl, by omega, hl' _, iv_atI hB, _, 1, rfl, rfl, l, _, (B : Int), B, rfl, rfl, hl' _, ixN_nat (by simpa using hB), ?_⟩
  rw [iv_set]
  exact k
def spLift (C : Addr) : Sp := fun vs H Q _ => ∃ (p l d q : Addr) (ns : List Int) (kvs : List (Key × V)) (nb : Int) (dv : List V) (b bx : Int) (v : V), vs = [.ref p, .int b, .int bx] ∧ RoomAt C H p l d q ns kvs nb dv ∧ valV kvs (Sum.inl b) = some v ∧ 0 ≤ bx ∧ bx < ns.length ∧
  Q .non (upd (upd H d (.dK (dropK kvs (Sum.inl b)))) l (.lst (iv (dec ns bx))))
theorem ok_lift {C : Addr} (R : RmT K mg C) (F : MFun K C "lift" "Room.lift" ["self", "ball", "box"] s_Room__lift) : MCal P w K mg base C "lift" ["self", "ball", "box"] 1 (spLift C) := by
  have S := sc_Room__lift
  refine F.cal sc_Room__lift (fun vs H Q E h => ?_) (fun f cdv A outer s H vs Q E hr h => ?_)
  · obtain ⟨p, l, d, q, ns, kvs, nb, dv, b, bx, v, rfl, _⟩ := h; rfl
  obtain ⟨p, l, d, q, ns, kvs, nb, dv, b, bx, v, rfl, A, hv, b0, b1, k⟩ := h
  obtain ⟨⟨dx, h1⟩, hl, hd, hq, lq⟩ := A
  have npd : p ≠ d := ne_of h1 hd (by intro z; cases z)
  have nld : l ≠ d := ne_of hl hd (by intro z; cases z)
  refine ⟨_, (@pss_cons _ _ _ _ _ (@ps_expr _ _ _ _ (@pe_dpop1 _ _ _ _ _ _ _ (@pe_fld _ _ _ _ _ (pv 0) (by rfl)) (pv 1) (by exact ⟨rfl, rfl, rfl, rfl⟩)) (by first | rfl | decide | exact Or.inl rfl | exact Or.inr rfl | (intro _; rfl) | (intro _ _; rfl) | (intro _ _ _; rfl))) (@pss_one _ _ _ (@ps_augS _ _ _ _ _ _ _ _ _ _ _ _ _ (@pe_fld _ _ _ _ _ (pv 0) (by rfl)) (pv 2) get_list pe_int ip_sub set_list (by first | rfl | decide | exact Or.inl rfl | exact Or.inr rfl | (intro _; rfl) | (intro _ _; rfl) | (intro _ _ _; rfl))))), ?_⟩
  obtain ⟨B, rfl⟩ : ∃ B : Nat, bx = (B : Int) := ⟨bx.toNat, by omega⟩
  have hB : B < ns.length := by omega
  refine ⟨_, rfl, p, C, dx, _, _, rfl, h1, R.ca.cl, R.n2, flds_plc _ _ _ _, d, rfl, .inl ⟨_, .inl hd⟩, _, rfl, kvs, Sum.inl b, v, hd, rfl, hv, ?_⟩
  have h1' : ∀ o, (upd H d o) p = some (.ins C dx (flds l d nb q)) := fun o => by rw [upd_ne npd]; exact h1
  have hl' : ∀ o, (upd H d o) l = some (.lst (iv ns)) := fun o => by rw [upd_ne nld]; exact hl
  refine ⟨_, rfl, p, C, dx, _, _, rfl, h1' _, R.ca.cl, R.n1, flds_num _ _ _ _, _, rfl, l, _, (B : Int), _, rfl, rfl, by omega, hl' _, iv_atI hB, _, 1, rfl, rfl, l, _, (B : Int), B, rfl, rfl, hl' _, ixN_nat (by simpa using hB), ?_⟩
  rw [iv_set]
  exact k
def spWhere (C : Addr) : Sp := fun vs H Q _ => ∃ (p l d q : Addr) (ns : List Int) (kvs : List (Key × V)) (nb : Int) (dv : List V) (b : Int) (v : V), vs = [.ref p, .int b] ∧ RoomAt C H p l d q ns kvs nb dv ∧ valV kvs (Sum.inl b) = some v ∧ Q v H
theorem ok_where {C : Addr} (R : RmT K mg C) (C_is_whole : Cal P w K mg base "is_whole" ["thing"] 1 spWhole) (F : MFun K C "where" "Room.where" ["self", "ball"] s_Room__where) : MCal P w K mg base C "where" ["self", "ball"] 2 (spWhere C) := by
  have S := sc_Room__where
  refine F.cal sc_Room__where (fun vs H Q E h => ?_) (fun f cdv A outer s H vs Q E hr h => ?_)
  · obtain ⟨p, l, d, q, ns, kvs, nb, dv, b, v, rfl, _⟩ := h; rfl
  obtain ⟨p, l, d, q, ns, kvs, nb, dv, b, v, rfl, A, hv, k⟩ := h
  obtain ⟨⟨dx, h1⟩, hl, hd, hq, lq⟩ := A
  have hu1 := hu_of hr
  refine ⟨_, (@pss_cons _ _ _ _ _ (@ps_if _ _ _ _ _ _ _ _ (@PW.pt _ _ _ (@pw_or _ _ _ _ _ _ _ (@pt_not _ _ _ _ (@pt_val _ _ _ (@cc _ _ _ _ _ _ _ _ _ _ (by exact C_is_whole) (by exact (hr.mono (by decide))) (@pa_consN _ _ _ _ _ (pv 1) pa_nil (by first | rfl | decide | exact Or.inl rfl | exact Or.inr rfl | (intro _; rfl) | (intro _ _; rfl) | (intro _ _ _; rfl))) (by first | rfl | decide | exact Or.inl rfl | exact Or.inr rfl | (intro _; rfl) | (intro _ _; rfl) | (intro _ _ _; rfl)) (by first | rfl | decide | exact Or.inl rfl | exact Or.inr rfl | (intro _; rfl) | (intro _ _; rfl) | (intro _ _ _; rfl)) (by first | rfl | decide | exact Or.inl rfl | exact Or.inr rfl | (intro _; rfl) | (intro _ _; rfl) | (intro _ _ _; rfl)) (by first | rfl | decide | exact Or.inl rfl | exact Or.inr rfl | (intro _; rfl) | (intro _ _; rfl) | (intro _ _ _; rfl))) (by first | rfl | decide | exact Or.inl rfl | exact Or.inr rfl | (intro _; rfl) | (intro _ _; rfl) | (intro _ _ _; rfl)))) (@pw_or1 _ _ _ _ (@pt_cmp _ _ _ _ _ _ (@pc_dnotin _ _ _ _ _ (by exact hu1) (pv 1) (@pe_fld _ _ _ _ _ (pv 0) (by rfl))) (by first | rfl | decide | exact Or.inl rfl | exact Or.inr rfl | (intro _; rfl) | (intro _ _; rfl) | (intro _ _ _; rfl)))))) (@pss_one _ _ _ ps_never) pss_nil) (@pss_one _ _ _ (@ps_ret _ _ _ _ (@pe_dget _ _ _ _ _ _ (by exact hu1) (@pe_fld _ _ _ _ _ (pv 0) (by rfl)) (pv 1) (by exact (fun _ _ => rfl)))))), ?_⟩
  have dg := DGet.k (k := Sum.inl b) hd
  rw [hv] at dg
  refine ⟨_, rfl, _, rfl, _, rfl, iteF ?_⟩
  refine ⟨_, rfl, _, rfl, p, C, dx, _, _, rfl, h1, R.ca.cl, R.n2, flds_plc _ _ _ _, d, _, rfl, dg, _, rfl, iteF ?_⟩
  exact ⟨_, rfl, p, C, dx, _, _, rfl, h1, R.ca.cl, R.n2, flds_plc _ _ _ _, _, rfl, d, _, rfl, dg, k⟩
end
end My

set_option Elab.async false
set_option linter.all false
set_option maxRecDepth 100000
set_option maxHeartbeats 4000000
namespace My
open PySem L2 MA
/-- a deed: put or left, the ball, the box -/
abbrev Deed := Bool × Int × Int
def dword (b : Bool) : Str := if b then "put" else "leave"
/-- the deeds, the last one first -/
inductive Deeds (H : Hp) : List V → List Deed → Prop
  | nil : Deeds H [] []
  | snoc {dv : List V} {ds : List Deed} {t : Addr} {x : Deed} : H t = some (.tup [.str (dword x.1), .int x.2.1, .int x.2.2]) → Deeds H dv ds → Deeds H (dv ++ [.ref t]) (x :: ds)
theorem Deeds.mono {H H' : Hp} (s : ∀ a xs, H a = some (.tup xs) → H' a = some (.tup xs)) {dv : List V} {ds : List Deed} (h : Deeds H dv ds) : Deeds H' dv ds := by
  induction h with
  | nil => exact .nil
  | snoc e _ ih => exact .snoc (s _ _ e) ih
theorem Deeds.len {H : Hp} {dv : List V} {ds : List Deed} (h : Deeds H dv ds) : dv.length = ds.length := by
  induction h with
  | nil => rfl
  | snoc e _ ih => simp [ih]
def updf (f : Int → Option Int) (b : Int) (x : Option Int) : Int → Option Int := fun j => if j = b then x else f j
/-- what the deeds have made: the numbers, where each ball lies, how many -/
inductive Hist (n : Nat) : List Deed → List Int → (Int → Option Int) → Nat → Prop
  | nil : Hist n [] (List.replicate n 0) (fun _ => none) 0
  | put {ds : List Deed} {ns : List Int} {pl : Int → Option Int} {sz : Nat} {b bx : Int} : Hist n ds ns pl sz → pl b = none → 0 ≤ bx → bx < n → Hist n ((true, b, bx) :: ds) (inc ns bx) (updf pl b (some bx)) (sz + 1)
  | leave {ds : List Deed} {ns : List Int} {pl : Int → Option Int} {sz : Nat} {b bx : Int} : Hist n ds ns pl (sz + 1) → pl b = some bx → Hist n ((false, b, bx) :: ds) (dec ns bx) (updf pl b none) sz
theorem Hist.len {n : Nat} {ds : List Deed} {ns : List Int} {pl : Int → Option Int} {sz : Nat} (h : Hist n ds ns pl sz) : ns.length = n := by
  induction h with
  | nil => simp
  | put _ _ _ _ ih => rw [inc_len]; exact ih
  | leave _ _ ih => rw [dec_len]; exact ih
theorem Hist.rng {n : Nat} {ds : List Deed} {ns : List Int} {pl : Int → Option Int} {sz : Nat} (h : Hist n ds ns pl sz) : ∀ b bx, pl b = some bx → 0 ≤ bx ∧ bx < n := by
  induction h with
  | nil => intro b bx e; cases e
  | put _ _ h0 h1 ih =>
    intro b bx e
    unfold updf at e
    split at e
    · cases e; exact ⟨h0, h1⟩
    · exact ih b bx e
  | leave _ _ ih =>
    intro b bx e
    unfold updf at e
    split at e
    · cases e
    · exact ih b bx e
theorem Hist.mem {n : Nat} {ds : List Deed} {ns : List Int} {pl : Int → Option Int} {sz : Nat} (h : Hist n ds ns pl sz) : ∀ b, pl b ≠ none → ∃ x ∈ ds, x.2.1 = b := by
  induction h with
  | nil => intro b e; exact absurd rfl e
  | @put ds ns pl sz b0 bx _ _ _ _ ih =>
    intro b e
    by_cases z : b = b0
    · exact ⟨_, List.mem_cons_self, z.symm⟩
    · unfold updf at e
      rw [if_neg z] at e
      obtain ⟨x, hx, ex⟩ := ih b e
      exact ⟨x, List.mem_cons_of_mem _ hx, ex⟩
  | @leave ds ns pl sz b0 bx _ _ ih =>
    intro b e
    unfold updf at e
    by_cases z : b = b0
    · rw [if_pos z] at e; exact absurd rfl e
    · rw [if_neg z] at e
      obtain ⟨x, hx, ex⟩ := ih b e
      exact ⟨x, List.mem_cons_of_mem _ hx, ex⟩
theorem Hist.det {n : Nat} {ds : List Deed} {ns : List Int} {pl : Int → Option Int} {sz : Nat} (h : Hist n ds ns pl sz) : ∀ {ns' : List Int} {pl' : Int → Option Int} {sz' : Nat}, Hist n ds ns' pl' sz' → ns = ns' ∧ pl = pl' ∧ sz = sz' := by
  induction h with
  | nil => intro _ _ _ g; cases g; exact ⟨rfl, rfl, rfl⟩
  | put _ _ _ _ ih =>
    intro _ _ _ g
    cases g with
    | put g' _ _ _ =>
      obtain ⟨rfl, rfl, rfl⟩ := ih g'
      exact ⟨rfl, rfl, rfl⟩
  | leave _ _ ih =>
    intro _ _ _ g
    cases g with
    | leave g' _ =>
      obtain ⟨rfl, rfl, e⟩ := ih g'
      exact ⟨rfl, rfl, by omega⟩
/-- a room, as its deeds have made it -/
structure RoomIs (C : Addr) (n : Nat) (H : Hp) (p l d q : Addr) (ds : List Deed) (ns : List Int) (pl : Int → Option Int) (sz : Nat) (nb : Int) : Prop where
  ex : ∃ kvs dv, RoomAt C H p l d q ns kvs nb dv ∧ Deeds H dv ds ∧ kvs.length = sz ∧ (kvs.map (·.1)).Nodup ∧ ∀ b : Int, valV kvs (Sum.inl b) = (pl b).map V.int
  hs : Hist n ds ns pl sz
  lo : ∀ x ∈ ds, x.2.1 < nb
/-- all but the room -/
def SR (p l d q : Addr) (H H' : Hp) : Prop := ∀ b o, H b = some o → b ≠ p → b ≠ l → b ≠ d → b ≠ q → H' b = some o
theorem SR.trans {p l d q : Addr} {H H1 H2 : Hp} (a : SR p l d q H H1) (b : SR p l d q H1 H2) : SR p l d q H H2 := fun c o e h1 h2 h3 h4 => b c o (a c o e h1 h2 h3 h4) h1 h2 h3 h4
theorem SR.of {p l d q : Addr} {H H1 : Hp} (s : Same H H1) : SR p l d q H H1 := fun c o e _ _ _ _ => s _ _ e
theorem RoomIs.same {C : Addr} {n : Nat} {H H' : Hp} {p l d q : Addr} {ds : List Deed} {ns : List Int} {pl : Int → Option Int} {sz : Nat} {nb : Int} (R : RoomIs C n H p l d q ds ns pl sz nb) (s : Same H H') : RoomIs C n H' p l d q ds ns pl sz nb := by
  obtain ⟨⟨kvs, dv, ⟨⟨dx, h1⟩, h2, h3, h4, h5⟩, D, r⟩, hs, lo⟩ := R
  exact ⟨⟨kvs, dv, ⟨⟨dx, s _ _ h1⟩, s _ _ h2, s _ _ h3, s _ _ h4, h5⟩, D.mono fun a xs e => s _ _ e, r⟩, hs, lo⟩
theorem RoomIs.tup {C : Addr} {n : Nat} {H H' : Hp} {p l d q : Addr} {ds : List Deed} {ns : List Int} {pl : Int → Option Int} {sz : Nat} {nb : Int} (R : RoomIs C n H p l d q ds ns pl sz nb) (s : SR p l d q H H') {t : Addr} {xs : List V} (e : H t = some (.tup xs)) : H' t = some (.tup xs) := by
  obtain ⟨⟨kvs, dv, ⟨⟨dx, h1⟩, h2, h3, h4, h5⟩, _⟩, _⟩ := R
  exact s t _ e (ne_of e h1 (by intro z; cases z)) (ne_of e h2 (by intro z; cases z)) (ne_of e h3 (by intro z; cases z)) (ne_of e h4 (by intro z; cases z))
theorem val_put {kvs : List (Key × V)} {pl : Int → Option Int} (h : ∀ b : Int, valV kvs (Sum.inl b) = (pl b).map V.int) (b bx : Int) : ∀ j : Int, valV (putK kvs (Sum.inl b) (.int bx)) (Sum.inl j) = (updf pl b (some bx) j).map V.int := fun j => by
  rw [valV_put]
  unfold updf
  by_cases e : j = b
  · subst e; rw [if_pos rfl, if_pos rfl]; rfl
  · rw [if_neg (fun z => e (Sum.inl.inj z)), if_neg e]; exact h j
theorem val_drop {kvs : List (Key × V)} {pl : Int → Option Int} (h : ∀ b : Int, valV kvs (Sum.inl b) = (pl b).map V.int) (b : Int) : ∀ j : Int, valV (dropK kvs (Sum.inl b)) (Sum.inl j) = (updf pl b none j).map V.int := fun j => by
  rw [valV_drop]
  unfold updf
  by_cases e : j = b
  · subst e; rw [if_pos rfl, if_pos rfl]; rfl
  · rw [if_neg (fun z => e (Sum.inl.inj z)), if_neg e]; exact h j
theorem updf_back {pl : Int → Option Int} {b : Int} {x y : Option Int} (h : pl b = y) : updf (updf pl b x) b y = pl := by
  funext j
  unfold updf
  by_cases e : j = b
  · rw [if_pos e, e, h]
  · rw [if_neg e, if_neg e]
section
variable {P : Program} {w : World} {K : PySem.W.Frag} {mg : Str → Option Value} {base : Heap}
def spPut (C T : Addr) (z : Str) : Sp := fun vs H Q _ => ∃ (p l d q t : Addr) (n : Nat) (ds : List Deed) (ns : List Int) (pl : Int → Option Int) (sz : Nat) (nb : Int) (dr : List Int), vs = [.ref p, .ref t] ∧ RoomIs C n H p l d q ds ns pl sz nb ∧ H t = some (.tup (iv dr)) ∧ dr ≠ [] ∧ (∀ b ∈ dr, 0 ≤ b ∧ b < n) ∧ sz < 60 ∧ ds.length ≤ 1000 ∧ H T = some (.tab z) ∧
  ∀ (r : Addr) (H' : Hp), RoomIs C n H' p l d q ((true, nb, emF ns dr) :: ds) (inc ns (emF ns dr)) (updf pl nb (some (emF ns dr))) (sz + 1) (nb + 1) → H' r = some (.tup [.int nb, .int (emF ns dr)]) → SR p l d q H H' → Q (.ref r) H'
theorem ok_put {C D : Addr} (R : RmT K mg C) (T : Txt2 mg) {u60 : Value} (gm : mg "MOST_IN_ROOM" = some u60) (g60 : RelV (.int 60) u60) (C_emptiest_of : Cal P w K mg base "emptiest_of" ["numbers", "draw"] 3 (spEm D (qLam "emptiest_of"))) (M_lay : MCal P w K mg base C "lay" ["self", "ball", "box"] 1 (spLay C))
    (F : MFun K C "put" "Room.put" ["self", "draw"] s_Room__put) : MCal P w K mg base C "put" ["self", "draw"] 4 (spPut C D (qLam "emptiest_of")) := by
  have S := sc_Room__put
  have CA := R.ca
  refine F.cal sc_Room__put (fun vs H Q E h => ?_) (fun f cdv A outer s H vs Q E hr h => ?_)
  · obtain ⟨p, l, d, q, t, n, ds, ns, pl, sz, nb, dr, rfl, _⟩ := h; rfl
  obtain ⟨p, l, d, q, t, n, ds, ns, pl, sz, nb, dr, rfl, RI, ht, dne, din, h60, dsl, hT, k⟩ := h
  obtain ⟨⟨kvs, dv, RA, De, kl, knd, kval⟩, hs, lo⟩ := id RI
  obtain ⟨⟨dx, h1⟩, hl, hd, hq, lq⟩ := id RA
  have nl := hs.len
  refine ⟨_, (@pss_cons _ _ _ _ _ (@ps_if _ _ _ _ _ _ _ _ (@pt_cmpR _ _ _ _ _ _ _ _ op_ge (@pe_callB _ _ _ _ _ _ _ _ _ call_lenD (by rfl) (by exact T.z_len) (by exact bt_len) (@pa_consN _ _ _ _ _ (@pe_fld _ _ _ _ _ (pv 0) (by rfl)) pa_nil (by first | rfl | decide | exact Or.inl rfl | exact Or.inr rfl | (intro _; rfl) | (intro _ _; rfl) | (intro _ _ _; rfl))) (by first | rfl | decide | exact Or.inl rfl | exact Or.inr rfl | (intro _; rfl) | (intro _ _; rfl) | (intro _ _ _; rfl)) (by first | rfl | decide | exact Or.inl rfl | exact Or.inr rfl | (intro _; rfl) | (intro _ _; rfl) | (intro _ _ _; rfl)) (by first | rfl | decide | exact Or.inl rfl | exact Or.inr rfl | (intro _; rfl) | (intro _ _; rfl) | (intro _ _ _; rfl)) (by first | rfl | decide | exact Or.inl rfl | exact Or.inr rfl | (intro _; rfl) | (intro _ _; rfl) | (intro _ _ _; rfl))) (@pe_glob _ _ ((.int 60)) _ _ (by rfl) (by exact gm) (by exact g60) (by first | rfl | decide | exact Or.inl rfl | exact Or.inr rfl | (intro _; rfl) | (intro _ _; rfl) | (intro _ _ _; rfl))) (by exact (nomark _))) (@pss_one _ _ _ ps_never) pss_nil) (@pss_cons _ _ _ _ _ (@ps_par _ _ (2) (3) _ _ _ _ _ _ _ _ _ _ _ (by rfl) (by exact S.nd) (by rfl) (by rfl) (by decide) (by rfl) (by rfl) (@pa_consN _ _ _ _ _ (@pe_fld _ _ _ _ _ (pv 0) (by rfl)) (@pa_consN _ _ _ _ _ (@cc _ _ _ _ _ _ _ _ _ _ (by exact C_emptiest_of) (by exact (hr.mono (by decide))) (@pa_consN _ _ _ _ _ (@pe_fld _ _ _ _ _ (pv 0) (by rfl)) (@pa_consN _ _ _ _ _ (pv 1) pa_nil (by first | rfl | decide | exact Or.inl rfl | exact Or.inr rfl | (intro _; rfl) | (intro _ _; rfl) | (intro _ _ _; rfl))) (by first | rfl | decide | exact Or.inl rfl | exact Or.inr rfl | (intro _; rfl) | (intro _ _; rfl) | (intro _ _ _; rfl))) (by first | rfl | decide | exact Or.inl rfl | exact Or.inr rfl | (intro _; rfl) | (intro _ _; rfl) | (intro _ _ _; rfl)) (by first | rfl | decide | exact Or.inl rfl | exact Or.inr rfl | (intro _; rfl) | (intro _ _; rfl) | (intro _ _ _; rfl)) (by first | rfl | decide | exact Or.inl rfl | exact Or.inr rfl | (intro _; rfl) | (intro _ _; rfl) | (intro _ _ _; rfl)) (by first | rfl | decide | exact Or.inl rfl | exact Or.inr rfl | (intro _; rfl) | (intro _ _; rfl) | (intro _ _ _; rfl))) pa_nil (by first | rfl | decide | exact Or.inl rfl | exact Or.inr rfl | (intro _; rfl) | (intro _ _; rfl) | (intro _ _ _; rfl))) (by first | rfl | decide | exact Or.inl rfl | exact Or.inr rfl | (intro _; rfl) | (intro _ _; rfl) | (intro _ _ _; rfl))) (by rfl) (by first | rfl | decide | exact Or.inl rfl | exact Or.inr rfl | (intro _; rfl) | (intro _ _; rfl) | (intro _ _ _; rfl))) (@pss_cons _ _ _ _ _ (@ps_fldaug _ _ _ _ _ _ _ _ _ _ (pv 0) pe_int (by exact in_add)) (@pss_cons _ _ _ _ _ (@ps_expr _ _ _ _ (@pm _ _ _ _ _ _ _ _ _ _ _ _ _ _ (by exact M_lay) (by exact CA.cl) (by exact (hr.mono (by decide))) (pv 0) (@pa_consN _ _ _ _ _ (pv 2) (@pa_consN _ _ _ _ _ (pv 3) pa_nil (by first | rfl | decide | exact Or.inl rfl | exact Or.inr rfl | (intro _; rfl) | (intro _ _; rfl) | (intro _ _ _; rfl))) (by first | rfl | decide | exact Or.inl rfl | exact Or.inr rfl | (intro _; rfl) | (intro _ _; rfl) | (intro _ _ _; rfl))) (by first | rfl | decide | exact Or.inl rfl | exact Or.inr rfl | (intro _; rfl) | (intro _ _; rfl) | (intro _ _ _; rfl)) (by first | rfl | decide | exact Or.inl rfl | exact Or.inr rfl | (intro _; rfl) | (intro _ _; rfl) | (intro _ _ _; rfl)) (by first | rfl | decide | exact Or.inl rfl | exact Or.inr rfl | (intro _; rfl) | (intro _ _; rfl) | (intro _ _ _; rfl))) (by first | rfl | decide | exact Or.inl rfl | exact Or.inr rfl | (intro _; rfl) | (intro _ _; rfl) | (intro _ _ _; rfl))) (@pss_cons _ _ _ _ _ (@ps_expr _ _ _ _ (@pe_bm _ _ _ _ _ _ _ _ _ _ _ _ (by exact PySem.F.plainAttrs_list) (by exact PySem.F.slot_list_append) (by exact PySem.F.type_list_append) mt_append (@pe_fld _ _ _ _ _ (pv 0) (by rfl)) (@pa_consN _ _ _ _ _ (@pe_tup _ _ _ _ _ (@pa_consN _ _ _ _ _ pe_str (@pa_consN _ _ _ _ _ (pv 2) (@pa_consN _ _ _ _ _ (pv 3) pa_nil (by first | rfl | decide | exact Or.inl rfl | exact Or.inr rfl | (intro _; rfl) | (intro _ _; rfl) | (intro _ _ _; rfl))) (by first | rfl | decide | exact Or.inl rfl | exact Or.inr rfl | (intro _; rfl) | (intro _ _; rfl) | (intro _ _ _; rfl))) (by first | rfl | decide | exact Or.inl rfl | exact Or.inr rfl | (intro _; rfl) | (intro _ _; rfl) | (intro _ _ _; rfl)))) pa_nil (by first | rfl | decide | exact Or.inl rfl | exact Or.inr rfl | (intro _; rfl) | (intro _ _; rfl) | (intro _ _ _; rfl))) (by first | rfl | decide | exact Or.inl rfl | exact Or.inr rfl | (intro _; rfl) | (intro _ _; rfl) | (intro _ _ _; rfl)) (by first | rfl | decide | exact Or.inl rfl | exact Or.inr rfl | (intro _; rfl) | (intro _ _; rfl) | (intro _ _ _; rfl)) (by first | rfl | decide | exact Or.inl rfl | exact Or.inr rfl | (intro _; rfl) | (intro _ _; rfl) | (intro _ _ _; rfl)) (by first | rfl | decide | exact Or.inl rfl | exact Or.inr rfl | (intro _; rfl) | (intro _ _; rfl) | (intro _ _ _; rfl)) (by first | rfl | decide | exact Or.inl rfl | exact Or.inr rfl | (intro _; rfl) | (intro _ _; rfl) | (intro _ _ _; rfl))) (by first | rfl | decide | exact Or.inl rfl | exact Or.inr rfl | (intro _; rfl) | (intro _ _; rfl) | (intro _ _ _; rfl))) (@pss_one _ _ _ (@ps_ret _ _ _ _ (@pe_tup _ _ _ _ _ (@pa_consN _ _ _ _ _ (pv 2) (@pa_consN _ _ _ _ _ (pv 3) pa_nil (by first | rfl | decide | exact Or.inl rfl | exact Or.inr rfl | (intro _; rfl) | (intro _ _; rfl) | (intro _ _ _; rfl))) (by first | rfl | decide | exact Or.inl rfl | exact Or.inr rfl | (intro _; rfl) | (intro _ _; rfl) | (intro _ _ _; rfl))))))))))), ?_⟩
  refine ⟨_, rfl, p, C, dx, _, _, rfl, h1, CA.cl, R.n2, flds_plc _ _ _ _, d, _, rfl, hd, _, _, rfl, rfl, _, rfl, ite2 (fun c => absurd (of_decide_eq_true c) (by omega)) (fun _ => ?_)⟩
  refine ⟨_, rfl, p, C, dx, _, _, rfl, h1, CA.cl, R.n3, flds_nxt _ _ _ _, _, rfl, p, C, dx, _, _, rfl, h1, CA.cl, R.n1, flds_num _ _ _ _, _, rfl, l, t, ns, dr, rfl, hl, ht, dne, (by rw [nl]; exact din), hT, fun H1 s1 => ⟨_, _, rfl, ?_⟩⟩
  obtain ⟨j0, hj0, em, _⟩ := emF_mem (ns := ns) dne
  have hbx := din dr[j0] (List.getElem_mem hj0)
  rw [← em] at hbx
  generalize emF ns dr = bx at hbx k
  refine ⟨_, rfl, p, C, dx, _, _, rfl, s1 _ _ h1, CA.cl, R.n3, flds_nxt _ _ _ _, _, _, rfl, rfl, dx, _, s1 _ _ h1, (by show 4 < 1000; decide), ?_⟩
  rw [flds_put]
  have npl : p ≠ l := ne_of h1 hl (by intro z; cases z)
  have npd : p ≠ d := ne_of h1 hd (by intro z; cases z)
  have npq : p ≠ q := ne_of h1 hq (by intro z; cases z)
  have nld : l ≠ d := ne_of hl hd (by intro z; cases z)
  have nqd : q ≠ d := ne_of hq hd (by intro z; cases z)
  have RA2 : RoomAt C (upd H1 p (.ins C dx (flds l d (nb + 1) q))) p l d q ns kvs (nb + 1) dv := ⟨⟨dx, upd_same⟩, by rw [upd_ne (Ne.symm npl)]; exact s1 _ _ hl, by rw [upd_ne (Ne.symm npd)]; exact s1 _ _ hd, by rw [upd_ne (Ne.symm npq)]; exact s1 _ _ hq, lq⟩
  have x2 : SR p l d q H (upd H1 p (.ins C dx (flds l d (nb + 1) q))) := fun b o e n1 _ _ _ => by rw [upd_ne n1]; exact s1 _ _ e
  have p2 : (upd H1 p (.ins C dx (flds l d (nb + 1) q))) p = some (.ins C dx (flds l d (nb + 1) q)) := upd_same
  generalize upd H1 p (.ins C dx (flds l d (nb + 1) q)) = H2 at RA2 x2 p2
  refine ⟨_, rfl, p, dx, _, rfl, p2, flds_no _ _ _ _ (by decide +kernel) (by decide +kernel) (by decide +kernel) (by decide +kernel), _, rfl, _, rfl, p, l, d, q, ns, kvs, nb + 1, dv, nb, bx, rfl, RA2, by omega, hbx.1, by omega, ?_⟩
  obtain ⟨_, g2, e2, q2, _⟩ := RA2
  have p3 : (upd (upd H2 d (.dK (putK kvs (Sum.inl nb) (.int bx)))) l (.lst (iv (inc ns bx)))) p = some (.ins C dx (flds l d (nb + 1) q)) := by rw [upd_ne npl, upd_ne npd]; exact p2
  have g3 : (upd (upd H2 d (.dK (putK kvs (Sum.inl nb) (.int bx)))) l (.lst (iv (inc ns bx)))) l = some (.lst (iv (inc ns bx))) := upd_same
  have e3 : (upd (upd H2 d (.dK (putK kvs (Sum.inl nb) (.int bx)))) l (.lst (iv (inc ns bx)))) d = some (.dK (putK kvs (Sum.inl nb) (.int bx))) := by rw [upd_ne (Ne.symm nld), upd_same]
  have q3 : (upd (upd H2 d (.dK (putK kvs (Sum.inl nb) (.int bx)))) l (.lst (iv (inc ns bx)))) q = some (.lst dv) := by rw [upd_ne (Ne.symm lq), upd_ne nqd]; exact q2
  have x3 : SR p l d q H (upd (upd H2 d (.dK (putK kvs (Sum.inl nb) (.int bx)))) l (.lst (iv (inc ns bx)))) := fun b o e n1 n2 n3 n4 => by rw [upd_ne n2, upd_ne n3]; exact x2 b o e n1 n2 n3 n4
  generalize upd (upd H2 d (.dK (putK kvs (Sum.inl nb) (.int bx)))) l (.lst (iv (inc ns bx))) = H3 at p3 g3 e3 q3 x3
  refine ⟨_, rfl, p, C, dx, _, _, rfl, p3, CA.cl, R.n4, flds_ded _ _ _ _, .inl ⟨rfl, _, SqL.of q3⟩, _, rfl, _, rfl, lz 3 rfl, fun t1 ht1 => ?_⟩
  have s4 := same_new ht1 (.tup [.str "put", .int nb, .int bx])
  have t4 : (upd H3 t1 (.tup [.str "put", .int nb, .int bx])) t1 = some (.tup [.str "put", .int nb, .int bx]) := upd_same
  have x4 := x3.trans (SR.of s4)
  have p4 := s4 _ _ p3
  have g4 := s4 _ _ g3
  have e4 := s4 _ _ e3
  have q4 := s4 _ _ q3
  generalize upd H3 t1 (.tup [.str "put", .int nb, .int bx]) = H4 at s4 t4 x4 p4 g4 e4 q4
  have dl := De.len
  refine ⟨q, dv, .ref t1, rfl, rfl, q4, (by rw [sizeLine_eq]; omega), ?_⟩
  have upT : ∀ a xs, H4 a = some (.tup xs) → (upd H4 q (.lst (dv ++ [.ref t1]))) a = some (.tup xs) := fun a xs e => by rw [upd_ne (ne_of e q4 (by intro z; cases z))]; exact e
  have pn : pl nb = none := by
    cases e : pl nb with
    | none => rfl
    | some y =>
      obtain ⟨x, hx, ex⟩ := hs.mem nb (by rw [e]; intro z; cases z)
      have := lo x hx
      omega
  have vn : valV kvs (Sum.inl nb : Key) = none := by rw [kval, pn]; rfl
  have RI5 : RoomIs C n (upd H4 q (.lst (dv ++ [.ref t1]))) p l d q ((true, nb, bx) :: ds) (inc ns bx) (updf pl nb (some bx)) (sz + 1) (nb + 1) := by
    refine ⟨⟨putK kvs (Sum.inl nb) (.int bx), dv ++ [.ref t1], ⟨⟨dx, by rw [upd_ne npq]; exact p4⟩, by rw [upd_ne lq]; exact g4, by rw [upd_ne (Ne.symm nqd)]; exact e4, upd_same, lq⟩, .snoc (upT _ _ t4) ?_, ?_, nd_putK _ knd vn, val_put kval nb bx⟩, .put hs pn hbx.1 hbx.2, fun x hx => ?_⟩
    · exact De.mono fun a xs e => upT _ _ (RI.tup x4 e)
    · rw [putK_new _ vn, List.length_append, kl]; rfl
    · rcases List.mem_cons.mp hx with rfl | hx
      · show nb < nb + 1; omega
      · have := lo x hx; omega
  have x5 : SR p l d q H (upd H4 q (.lst (dv ++ [.ref t1]))) := fun b o e n1 n2 n3 n4 => by rw [upd_ne n4]; exact x4 b o e n1 n2 n3 n4
  generalize upd H4 q (.lst (dv ++ [.ref t1])) = H5 at RI5 x5
  refine ⟨_, rfl, _, rfl, lz 2 rfl, fun r hr' => ?_⟩
  have s6 := same_new hr' (.tup [.int nb, .int bx])
  exact k r _ (RI5.same s6) upd_same (x5.trans (SR.of s6))
def spLeave (C : Addr) : Sp := fun vs H Q _ => ∃ (p l d q : Addr) (n : Nat) (ds : List Deed) (ns : List Int) (pl : Int → Option Int) (sz : Nat) (nb b bx : Int), vs = [.ref p, .int b] ∧ RoomIs C n H p l d q ds ns pl (sz + 1) nb ∧ pl b = some bx ∧ ds.length ≤ 1000 ∧
  ∀ (H' : Hp), RoomIs C n H' p l d q ((false, b, bx) :: ds) (dec ns bx) (updf pl b none) sz nb → SR p l d q H H' → Q (.int bx) H'
theorem ok_leave {C : Addr} (R : RmT K mg C) (M_where : MCal P w K mg base C "where" ["self", "ball"] 2 (spWhere C)) (M_lift : MCal P w K mg base C "lift" ["self", "ball", "box"] 1 (spLift C))
    (F : MFun K C "leave" "Room.leave" ["self", "ball"] s_Room__leave) : MCal P w K mg base C "leave" ["self", "ball"] 3 (spLeave C) := by
  have S := sc_Room__leave
  have CA := R.ca
  refine F.cal sc_Room__leave (fun vs H Q E h => ?_) (fun f cdv A outer s H vs Q E hr h => ?_)
  · obtain ⟨p, l, d, q, n, ds, ns, pl, sz, nb, b, bx, rfl, _⟩ := h; rfl
  obtain ⟨p, l, d, q, n, ds, ns, pl, sz, nb, b, bx, rfl, RI, hb, dsl, k⟩ := h
  obtain ⟨⟨kvs, dv, RA, De, kl, knd, kval⟩, hs, lo⟩ := id RI
  obtain ⟨⟨dx, h1⟩, hl, hd, hq, lq⟩ := id RA
  have nl := hs.len
  have hbx := hs.rng b bx hb
  have hv : valV kvs (Sum.inl b : Key) = some (.int bx) := by rw [kval, hb]; rfl
  have no : ∀ {m : Str}, ¬ m = "numbers" → ¬ m = "places" → ¬ m = "next_ball" → ¬ m = "deeds" → (flds l d nb q).lookup m = none := fun a b c e => flds_no _ _ _ _ a b c e
  refine ⟨_, (@pss_cons _ _ _ _ _ (@ps_set _ _ (2) _ _ _ _ (by exact S.nd) (by rfl) (by first | exact Or.inl rfl | exact Or.inr rfl) (@pm _ _ _ _ _ _ _ _ _ _ _ _ _ _ (by exact M_where) (by exact CA.cl) (by exact (hr.mono (by decide))) (pv 0) (@pa_consN _ _ _ _ _ (pv 1) pa_nil (by first | rfl | decide | exact Or.inl rfl | exact Or.inr rfl | (intro _; rfl) | (intro _ _; rfl) | (intro _ _ _; rfl))) (by first | rfl | decide | exact Or.inl rfl | exact Or.inr rfl | (intro _; rfl) | (intro _ _; rfl) | (intro _ _ _; rfl)) (by first | rfl | decide | exact Or.inl rfl | exact Or.inr rfl | (intro _; rfl) | (intro _ _; rfl) | (intro _ _ _; rfl)) (by first | rfl | decide | exact Or.inl rfl | exact Or.inr rfl | (intro _; rfl) | (intro _ _; rfl) | (intro _ _ _; rfl))) (by first | rfl | decide | exact Or.inl rfl | exact Or.inr rfl | (intro _; rfl) | (intro _ _; rfl) | (intro _ _ _; rfl)) (by first | rfl | decide | exact Or.inl rfl | exact Or.inr rfl | (intro _; rfl) | (intro _ _; rfl) | (intro _ _ _; rfl))) (@pss_cons _ _ _ _ _ (@ps_expr _ _ _ _ (@pm _ _ _ _ _ _ _ _ _ _ _ _ _ _ (by exact M_lift) (by exact CA.cl) (by exact (hr.mono (by decide))) (pv 0) (@pa_consN _ _ _ _ _ (pv 1) (@pa_consN _ _ _ _ _ (pv 2) pa_nil (by first | rfl | decide | exact Or.inl rfl | exact Or.inr rfl | (intro _; rfl) | (intro _ _; rfl) | (intro _ _ _; rfl))) (by first | rfl | decide | exact Or.inl rfl | exact Or.inr rfl | (intro _; rfl) | (intro _ _; rfl) | (intro _ _ _; rfl))) (by first | rfl | decide | exact Or.inl rfl | exact Or.inr rfl | (intro _; rfl) | (intro _ _; rfl) | (intro _ _ _; rfl)) (by first | rfl | decide | exact Or.inl rfl | exact Or.inr rfl | (intro _; rfl) | (intro _ _; rfl) | (intro _ _ _; rfl)) (by first | rfl | decide | exact Or.inl rfl | exact Or.inr rfl | (intro _; rfl) | (intro _ _; rfl) | (intro _ _ _; rfl))) (by first | rfl | decide | exact Or.inl rfl | exact Or.inr rfl | (intro _; rfl) | (intro _ _; rfl) | (intro _ _ _; rfl))) (@pss_cons _ _ _ _ _ (@ps_expr _ _ _ _ (@pe_bm _ _ _ _ _ _ _ _ _ _ _ _ (by exact PySem.F.plainAttrs_list) (by exact PySem.F.slot_list_append) (by exact PySem.F.type_list_append) mt_append (@pe_fld _ _ _ _ _ (pv 0) (by rfl)) (@pa_consN _ _ _ _ _ (@pe_tup _ _ _ _ _ (@pa_consN _ _ _ _ _ pe_str (@pa_consN _ _ _ _ _ (pv 1) (@pa_consN _ _ _ _ _ (pv 2) pa_nil (by first | rfl | decide | exact Or.inl rfl | exact Or.inr rfl | (intro _; rfl) | (intro _ _; rfl) | (intro _ _ _; rfl))) (by first | rfl | decide | exact Or.inl rfl | exact Or.inr rfl | (intro _; rfl) | (intro _ _; rfl) | (intro _ _ _; rfl))) (by first | rfl | decide | exact Or.inl rfl | exact Or.inr rfl | (intro _; rfl) | (intro _ _; rfl) | (intro _ _ _; rfl)))) pa_nil (by first | rfl | decide | exact Or.inl rfl | exact Or.inr rfl | (intro _; rfl) | (intro _ _; rfl) | (intro _ _ _; rfl))) (by first | rfl | decide | exact Or.inl rfl | exact Or.inr rfl | (intro _; rfl) | (intro _ _; rfl) | (intro _ _ _; rfl)) (by first | rfl | decide | exact Or.inl rfl | exact Or.inr rfl | (intro _; rfl) | (intro _ _; rfl) | (intro _ _ _; rfl)) (by first | rfl | decide | exact Or.inl rfl | exact Or.inr rfl | (intro _; rfl) | (intro _ _; rfl) | (intro _ _ _; rfl)) (by first | rfl | decide | exact Or.inl rfl | exact Or.inr rfl | (intro _; rfl) | (intro _ _; rfl) | (intro _ _ _; rfl)) (by first | rfl | decide | exact Or.inl rfl | exact Or.inr rfl | (intro _; rfl) | (intro _ _; rfl) | (intro _ _ _; rfl))) (by first | rfl | decide | exact Or.inl rfl | exact Or.inr rfl | (intro _; rfl) | (intro _ _; rfl) | (intro _ _ _; rfl))) (@pss_one _ _ _ (@ps_ret _ _ _ _ (pv 2)))))), ?_⟩
  refine ⟨_, rfl, p, dx, _, rfl, h1, no (by decide +kernel) (by decide +kernel) (by decide +kernel) (by decide +kernel), _, rfl, p, l, d, q, ns, kvs, nb, dv, b, _, rfl, RA, hv, ?_⟩
  refine ⟨_, rfl, p, dx, _, rfl, h1, no (by decide +kernel) (by decide +kernel) (by decide +kernel) (by decide +kernel), _, rfl, _, rfl, p, l, d, q, ns, kvs, nb, dv, b, bx, _, rfl, RA, hv, hbx.1, by omega, ?_⟩
  have npl : p ≠ l := ne_of h1 hl (by intro z; cases z)
  have npd : p ≠ d := ne_of h1 hd (by intro z; cases z)
  have npq : p ≠ q := ne_of h1 hq (by intro z; cases z)
  have nld : l ≠ d := ne_of hl hd (by intro z; cases z)
  have nqd : q ≠ d := ne_of hq hd (by intro z; cases z)
  have p3 : (upd (upd H d (.dK (dropK kvs (Sum.inl b)))) l (.lst (iv (dec ns bx)))) p = some (.ins C dx (flds l d nb q)) := by rw [upd_ne npl, upd_ne npd]; exact h1
  have g3 : (upd (upd H d (.dK (dropK kvs (Sum.inl b)))) l (.lst (iv (dec ns bx)))) l = some (.lst (iv (dec ns bx))) := upd_same
  have e3 : (upd (upd H d (.dK (dropK kvs (Sum.inl b)))) l (.lst (iv (dec ns bx)))) d = some (.dK (dropK kvs (Sum.inl b))) := by rw [upd_ne (Ne.symm nld), upd_same]
  have q3 : (upd (upd H d (.dK (dropK kvs (Sum.inl b)))) l (.lst (iv (dec ns bx)))) q = some (.lst dv) := by rw [upd_ne (Ne.symm lq), upd_ne nqd]; exact hq
  have x3 : SR p l d q H (upd (upd H d (.dK (dropK kvs (Sum.inl b)))) l (.lst (iv (dec ns bx)))) := fun b o e n1 n2 n3 n4 => by rw [upd_ne n2, upd_ne n3]; exact e
  generalize upd (upd H d (.dK (dropK kvs (Sum.inl b)))) l (.lst (iv (dec ns bx))) = H3 at p3 g3 e3 q3 x3
  refine ⟨_, rfl, p, C, dx, _, _, rfl, p3, CA.cl, R.n4, flds_ded _ _ _ _, .inl ⟨rfl, _, SqL.of q3⟩, _, rfl, _, rfl, lz 3 rfl, fun t1 ht1 => ?_⟩
  have s4 := same_new ht1 (.tup [.str "leave", .int b, .int bx])
  have t4 : (upd H3 t1 (.tup [.str "leave", .int b, .int bx])) t1 = some (.tup [.str "leave", .int b, .int bx]) := upd_same
  have x4 := x3.trans (SR.of s4)
  have p4 := s4 _ _ p3
  have g4 := s4 _ _ g3
  have e4 := s4 _ _ e3
  have q4 := s4 _ _ q3
  generalize upd H3 t1 (.tup [.str "leave", .int b, .int bx]) = H4 at s4 t4 x4 p4 g4 e4 q4
  have dl := De.len
  refine ⟨q, dv, .ref t1, rfl, rfl, q4, (by rw [sizeLine_eq]; omega), ?_⟩
  have upT : ∀ a xs, H4 a = some (.tup xs) → (upd H4 q (.lst (dv ++ [.ref t1]))) a = some (.tup xs) := fun a xs e => by rw [upd_ne (ne_of e q4 (by intro z; cases z))]; exact e
  have hm : b < nb := by
    obtain ⟨x, hx, ex⟩ := hs.mem b (by rw [hb]; intro z; cases z)
    have := lo x hx
    omega
  have RI5 : RoomIs C n (upd H4 q (.lst (dv ++ [.ref t1]))) p l d q ((false, b, bx) :: ds) (dec ns bx) (updf pl b none) sz nb := by
    refine ⟨⟨dropK kvs (Sum.inl b), dv ++ [.ref t1], ⟨⟨dx, by rw [upd_ne npq]; exact p4⟩, by rw [upd_ne lq]; exact g4, by rw [upd_ne (Ne.symm nqd)]; exact e4, upd_same, lq⟩, .snoc (upT _ _ t4) ?_, ?_, nd_dropK knd, val_drop kval b⟩, .leave hs hb, fun x hx => ?_⟩
    · exact De.mono fun a xs e => upT _ _ (RI.tup x4 e)
    · have := dropK_len knd (valV_in hv); omega
    · rcases List.mem_cons.mp hx with rfl | hx
      · exact hm
      · exact lo x hx
  refine ⟨_, rfl, k _ RI5 fun b o e n1 n2 n3 n4 => ?_⟩
  rw [upd_ne n4]
  exact x4 b o e n1 n2 n3 n4
end
end My

set_option Elab.async false
set_option linter.all false
set_option maxRecDepth 100000
set_option maxHeartbeats 4000000
namespace My
open PySem L2 MA
theorem Hist.szl {n : Nat} {ds : List Deed} {ns : List Int} {pl : Int → Option Int} {sz : Nat} (h : Hist n ds ns pl sz) : sz ≤ ds.length := by
  induction h with
  | nil => exact Nat.le_refl _
  | put _ _ _ _ ih => simp; omega
  | leave _ _ ih => simp; omega
section
variable {P : Program} {w : World} {K : PySem.W.Frag} {mg : Str → Option Value} {base : Heap}
def spFalling : Sp := fun vs H Q _ => ∃ l ns, vs = [.ref l] ∧ H l = some (.lst (iv ns)) ∧ ns.length < 64 ∧ ∀ (a : Addr) (ms : List Int) (H' : Hp), ms.Perm ns → ms.Pairwise (· ≥ ·) → H' a = some (.tup (iv ms)) → Same H H' → Q (.ref a) H'
theorem ok_falling (T : Txt2 mg) (F : FunAt K mg "falling" ["numbers"] s_falling) : Cal P w K mg base "falling" ["numbers"] 1 spFalling := by
  have S := sc_falling
  refine F.cal sc_falling (fun vs H Q E h => ?_) (fun f cdv A outer s H vs Q E hr h => ?_)
  · obtain ⟨l, ns, rfl, _⟩ := h; rfl
  obtain ⟨l, ns, rfl, hl, h64, k⟩ := h
  refine ⟨_, (@pss_one _ _ _ (@ps_ret _ _ _ _ (@pe_callTy _ _ _ _ _ _ _ _ _ call_tuple_of (by rfl) (by exact T.z_tuple) (by exact bt_tuple) (@pa_consN _ _ _ _ _ (@pe_sortedR _ _ _ _ _ _ _ _ _ (by rfl) (by exact T.z_sorted) (@pa_consN _ _ _ _ _ (pv 0) pa_nil (by first | rfl | decide | exact Or.inl rfl | exact Or.inr rfl | (intro _; rfl) | (intro _ _; rfl) | (intro _ _ _; rfl))) (by first | rfl | decide | exact Or.inl rfl | exact Or.inr rfl | (intro _; rfl) | (intro _ _; rfl) | (intro _ _ _; rfl)) (by first | rfl | decide | exact Or.inl rfl | exact Or.inr rfl | (intro _; rfl) | (intro _ _; rfl) | (intro _ _ _; rfl))) pa_nil (by first | rfl | decide | exact Or.inl rfl | exact Or.inr rfl | (intro _; rfl) | (intro _ _; rfl) | (intro _ _ _; rfl))) (by first | rfl | decide | exact Or.inl rfl | exact Or.inr rfl | (intro _; rfl) | (intro _ _; rfl) | (intro _ _ _; rfl)) (by first | rfl | decide | exact Or.inl rfl | exact Or.inr rfl | (intro _; rfl) | (intro _ _; rfl) | (intro _ _ _; rfl)) (by first | rfl | decide | exact Or.inl rfl | exact Or.inr rfl | (intro _; rfl) | (intro _ _; rfl) | (intro _ _ _; rfl)) (by first | rfl | decide | exact Or.inl rfl | exact Or.inr rfl | (intro _; rfl) | (intro _ _; rfl) | (intro _ _ _; rfl))))), ?_⟩
  refine ⟨_, rfl, l, ns, rfl, hl, h64, fun q ms hq pm od => ?_⟩
  have s1 := same_new hq (.lst (iv ms))
  refine ⟨q, iv ms, rfl, .inl ⟨SqL.of upd_same, fun t ht => ?_⟩⟩
  exact k t ms _ pm od upd_same (s1.trans (same_new ht _))
def spBack (C : Addr) : Sp := fun vs H Q _ => ∃ (p l d q : Addr) (n : Nat) (x : Deed) (ds : List Deed) (ns : List Int) (pl : Int → Option Int) (sz : Nat) (nb : Int) (ns0 : List Int) (pl0 : Int → Option Int) (sz0 : Nat), vs = [.ref p] ∧ RoomIs C n H p l d q (x :: ds) ns pl sz nb ∧ Hist n ds ns0 pl0 sz0 ∧ ds.length ≤ 900 ∧
  ∀ (H' : Hp), RoomIs C n H' p l d q ds ns0 pl0 sz0 nb → SR p l d q H H' → Q (.int x.2.1) H'
theorem ok_back {C : Addr} (R : RmT K mg C) (M_lay : MCal P w K mg base C "lay" ["self", "ball", "box"] 1 (spLay C)) (M_lift : MCal P w K mg base C "lift" ["self", "ball", "box"] 1 (spLift C))
    (F : MFun K C "back" "Room.back" ["self"] s_Room__back) : MCal P w K mg base C "back" ["self"] 2 (spBack C) := by
  have S := sc_Room__back
  have CA := R.ca
  refine F.cal sc_Room__back (fun vs H Q E h => ?_) (fun f cdv A outer s H vs Q E hr h => ?_)
  · obtain ⟨p, l, d, q, n, x, ds, ns, pl, sz, nb, ns0, pl0, sz0, rfl, _⟩ := h; rfl
  obtain ⟨p, l, d, q, n, x, ds, ns, pl, sz, nb, ns0, pl0, sz0, rfl, RI, h0, dsl, k⟩ := h
  obtain ⟨⟨kvs, dv, RA, De, kl, knd, kval⟩, hs, lo⟩ := id RI
  obtain ⟨⟨dx, h1⟩, hl, hd, hq, lq⟩ := id RA
  have no : ∀ {m : Str}, ¬ m = "numbers" → ¬ m = "places" → ¬ m = "next_ball" → ¬ m = "deeds" → (flds l d nb q).lookup m = none := fun a b c e => flds_no _ _ _ _ a b c e
  have npl : p ≠ l := ne_of h1 hl (by intro z; cases z)
  have npd : p ≠ d := ne_of h1 hd (by intro z; cases z)
  have npq : p ≠ q := ne_of h1 hq (by intro z; cases z)
  have nld : l ≠ d := ne_of hl hd (by intro z; cases z)
  have nqd : q ≠ d := ne_of hq hd (by intro z; cases z)
  refine ⟨_, (@pss_cons _ _ _ _ _ (@ps_if _ _ _ _ _ _ _ _ (@pt_not _ _ _ _ (@pt_list _ _ _ (@pe_fld _ _ _ _ _ (pv 0) (by rfl)) (by first | rfl | decide | exact Or.inl rfl | exact Or.inr rfl | (intro _; rfl) | (intro _ _; rfl) | (intro _ _ _; rfl)))) (@pss_one _ _ _ ps_never) pss_nil) (@pss_cons _ _ _ _ _ (@ps_asg _ _ _ _ _ _ (@pe_bm0 _ _ _ _ _ _ _ _ _ (by exact PySem.F.plainAttrs_list) (by exact PySem.F.slot_list_pop) (by exact PySem.F.type_list_pop) mt_pop (@pe_fld _ _ _ _ _ (pv 0) (by rfl)) (by first | rfl | decide | exact Or.inl rfl | exact Or.inr rfl | (intro _; rfl) | (intro _ _; rfl) | (intro _ _ _; rfl)) (by first | rfl | decide | exact Or.inl rfl | exact Or.inr rfl | (intro _; rfl) | (intro _ _; rfl) | (intro _ _ _; rfl))) (@pg_tup _ _ _ _ _ _ (by rfl) (@pgs_cons _ _ _ _ _ (@pg_name _ _ (1) _ (by exact S.nd) (by rfl) (by first | exact Or.inl rfl | exact Or.inr rfl) (by first | rfl | decide | exact Or.inl rfl | exact Or.inr rfl | (intro _; rfl) | (intro _ _; rfl) | (intro _ _ _; rfl))) (@pgs_cons _ _ _ _ _ (@pg_name _ _ (2) _ (by exact S.nd) (by rfl) (by first | exact Or.inl rfl | exact Or.inr rfl) (by first | rfl | decide | exact Or.inl rfl | exact Or.inr rfl | (intro _; rfl) | (intro _ _; rfl) | (intro _ _ _; rfl))) (@pgs_cons _ _ _ _ _ (@pg_name _ _ (3) _ (by exact S.nd) (by rfl) (by first | exact Or.inl rfl | exact Or.inr rfl) (by first | rfl | decide | exact Or.inl rfl | exact Or.inr rfl | (intro _; rfl) | (intro _ _; rfl) | (intro _ _ _; rfl))) pgs_nil (by first | rfl | decide | exact Or.inl rfl | exact Or.inr rfl | (intro _; rfl) | (intro _ _; rfl) | (intro _ _ _; rfl))) (by first | rfl | decide | exact Or.inl rfl | exact Or.inr rfl | (intro _; rfl) | (intro _ _; rfl) | (intro _ _ _; rfl))) (by first | rfl | decide | exact Or.inl rfl | exact Or.inr rfl | (intro _; rfl) | (intro _ _; rfl) | (intro _ _ _; rfl))) (by first | rfl | decide | exact Or.inl rfl | exact Or.inr rfl | (intro _; rfl) | (intro _ _; rfl) | (intro _ _ _; rfl)) (by first | rfl | decide | exact Or.inl rfl | exact Or.inr rfl | (intro _; rfl) | (intro _ _; rfl) | (intro _ _ _; rfl))) (by first | rfl | decide | exact Or.inl rfl | exact Or.inr rfl | (intro _; rfl) | (intro _ _; rfl) | (intro _ _ _; rfl)) (by first | rfl | decide | exact Or.inl rfl | exact Or.inr rfl | (intro _; rfl) | (intro _ _; rfl) | (intro _ _ _; rfl)) (by first | rfl | decide | exact Or.inl rfl | exact Or.inr rfl | (intro _; rfl) | (intro _ _; rfl) | (intro _ _ _; rfl))) (@pss_cons _ _ _ _ _ (@ps_if _ _ _ _ _ _ _ _ (@pt_cmpR _ _ _ _ _ _ _ _ op_eq (pv 1) pe_str (by exact (nomark _))) (@pss_one _ _ _ (@ps_expr _ _ _ _ (@pm _ _ _ _ _ _ _ _ _ _ _ _ _ _ (by exact M_lift) (by exact CA.cl) (by exact (hr.mono (by decide))) (pv 0) (@pa_consN _ _ _ _ _ (pv 2) (@pa_consN _ _ _ _ _ (pv 3) pa_nil (by first | rfl | decide | exact Or.inl rfl | exact Or.inr rfl | (intro _; rfl) | (intro _ _; rfl) | (intro _ _ _; rfl))) (by first | rfl | decide | exact Or.inl rfl | exact Or.inr rfl | (intro _; rfl) | (intro _ _; rfl) | (intro _ _ _; rfl))) (by first | rfl | decide | exact Or.inl rfl | exact Or.inr rfl | (intro _; rfl) | (intro _ _; rfl) | (intro _ _ _; rfl)) (by first | rfl | decide | exact Or.inl rfl | exact Or.inr rfl | (intro _; rfl) | (intro _ _; rfl) | (intro _ _ _; rfl)) (by first | rfl | decide | exact Or.inl rfl | exact Or.inr rfl | (intro _; rfl) | (intro _ _; rfl) | (intro _ _ _; rfl))) (by first | rfl | decide | exact Or.inl rfl | exact Or.inr rfl | (intro _; rfl) | (intro _ _; rfl) | (intro _ _ _; rfl)))) (@pss_one _ _ _ (@ps_expr _ _ _ _ (@pm _ _ _ _ _ _ _ _ _ _ _ _ _ _ (by exact M_lay) (by exact CA.cl) (by exact (hr.mono (by decide))) (pv 0) (@pa_consN _ _ _ _ _ (pv 2) (@pa_consN _ _ _ _ _ (pv 3) pa_nil (by first | rfl | decide | exact Or.inl rfl | exact Or.inr rfl | (intro _; rfl) | (intro _ _; rfl) | (intro _ _ _; rfl))) (by first | rfl | decide | exact Or.inl rfl | exact Or.inr rfl | (intro _; rfl) | (intro _ _; rfl) | (intro _ _ _; rfl))) (by first | rfl | decide | exact Or.inl rfl | exact Or.inr rfl | (intro _; rfl) | (intro _ _; rfl) | (intro _ _ _; rfl)) (by first | rfl | decide | exact Or.inl rfl | exact Or.inr rfl | (intro _; rfl) | (intro _ _; rfl) | (intro _ _ _; rfl)) (by first | rfl | decide | exact Or.inl rfl | exact Or.inr rfl | (intro _; rfl) | (intro _ _; rfl) | (intro _ _ _; rfl))) (by first | rfl | decide | exact Or.inl rfl | exact Or.inr rfl | (intro _; rfl) | (intro _ _; rfl) | (intro _ _ _; rfl))))) (@pss_one _ _ _ (@ps_ret _ _ _ _ (pv 2)))))), ?_⟩
  obtain ⟨dv0, t, rfl, ht, De0⟩ : ∃ dv0 t, dv = dv0 ++ [.ref t] ∧ H t = some (.tup [.str (dword x.1), .int x.2.1, .int x.2.2]) ∧ Deeds H dv0 ds := by
    cases De with
    | snoc e r => exact ⟨_, _, rfl, e, r⟩
  refine ⟨_, rfl, p, C, dx, _, _, rfl, h1, CA.cl, R.n4, flds_ded _ _ _ _, q, _, rfl, hq, ?_⟩
  rw [show (dv0 ++ [V.ref t]).isEmpty = false by simp]
  refine iteF ?_
  refine ⟨_, rfl, p, C, dx, _, _, rfl, h1, CA.cl, R.n4, flds_ded _ _ _ _, .inl ⟨rfl, _, SqL.of hq⟩, q, _, .ref t, rfl, rfl, hq, (by simp), ?_⟩
  rw [List.dropLast_concat]
  have RA2 : RoomAt C (upd H q (.lst dv0)) p l d q ns kvs nb dv0 := ⟨⟨dx, by rw [upd_ne npq]; exact h1⟩, by rw [upd_ne lq]; exact hl, by rw [upd_ne (Ne.symm nqd)]; exact hd, upd_same, lq⟩
  have p2 : (upd H q (.lst dv0)) p = some (.ins C dx (flds l d nb q)) := by rw [upd_ne npq]; exact h1
  have t2 : (upd H q (.lst dv0)) t = some (.tup [.str (dword x.1), .int x.2.1, .int x.2.2]) := by rw [upd_ne (ne_of ht hq (by intro z; cases z))]; exact ht
  have x2 : SR p l d q H (upd H q (.lst dv0)) := fun b o e n1 n2 n3 n4 => by rw [upd_ne n4]; exact e
  have q2 : (upd H q (.lst dv0)) q = some (.lst dv0) := upd_same
  generalize upd H q (.lst dv0) = H2 at RA2 p2 t2 x2 q2
  obtain ⟨kd, b, bx⟩ := x
  refine ⟨t, _, rfl, SqT.of t2, rfl, _, _, rfl, _, _, rfl, _, _, rfl, rfl, ?_⟩
  refine ⟨_, rfl, rfl, _, rfl, ?_⟩
  have lo' : ∀ x ∈ ds, x.2.1 < nb := fun x hx => lo x (List.mem_cons_of_mem _ hx)
  have szl := hs.szl
  cases hs with
  | @put _ ns1 pl1 sz1 _ _ h1' pn b0 b1 =>
    obtain ⟨rfl, rfl, rfl⟩ := h1'.det h0
    have nl := h1'.len
    refine iteT ?_
    have hv : valV kvs (Sum.inl b : Key) = some (.int bx) := by rw [kval]; unfold updf; rw [if_pos rfl]; rfl
    refine ⟨_, rfl, p, dx, _, rfl, p2, no (by decide +kernel) (by decide +kernel) (by decide +kernel) (by decide +kernel), _, rfl, _, rfl, p, l, d, q, _, kvs, nb, dv0, b, bx, _, rfl, RA2, hv, b0, by rw [inc_len]; omega, ?_⟩
    rw [dec_inc (by omega)]
    obtain ⟨_, g2, e2, _, _⟩ := RA2
    have x3 : SR p l d q H (upd (upd H2 d (.dK (dropK kvs (Sum.inl b)))) l (.lst (iv ns1))) := fun b o e n1 n2 n3 n4 => by rw [upd_ne n2, upd_ne n3]; exact x2 b o e n1 n2 n3 n4
    refine ⟨_, rfl, k _ ⟨⟨dropK kvs (Sum.inl b), dv0, ⟨⟨dx, by rw [upd_ne npl, upd_ne npd]; exact p2⟩, upd_same, by rw [upd_ne (Ne.symm nld), upd_same], by rw [upd_ne (Ne.symm lq), upd_ne nqd]; exact q2, lq⟩, De0.mono fun a xs e => RI.tup x3 e, ?_, nd_dropK knd, ?_⟩, h0, lo'⟩ x3⟩
    · have := dropK_len knd (valV_in hv); omega
    · have := val_drop kval b
      rw [updf_back pn] at this
      exact this
  | @leave _ ns1 pl1 sz1 _ _ h1' hb =>
    obtain ⟨rfl, rfl, rfl⟩ := h1'.det h0
    have nl := h1'.len
    have hbx := h1'.rng b bx hb
    refine iteF ?_
    have vn : valV kvs (Sum.inl b : Key) = none := by rw [kval]; unfold updf; rw [if_pos rfl]; rfl
    refine ⟨_, rfl, p, dx, _, rfl, p2, no (by decide +kernel) (by decide +kernel) (by decide +kernel) (by decide +kernel), _, rfl, _, rfl, p, l, d, q, _, kvs, nb, dv0, b, bx, rfl, RA2, (by simp at szl; omega), hbx.1, by rw [dec_len]; omega, ?_⟩
    rw [inc_dec (by omega)]
    have x3 : SR p l d q H (upd (upd H2 d (.dK (putK kvs (Sum.inl b) (.int bx)))) l (.lst (iv ns1))) := fun b o e n1 n2 n3 n4 => by rw [upd_ne n2, upd_ne n3]; exact x2 b o e n1 n2 n3 n4
    refine ⟨_, rfl, k _ ⟨⟨putK kvs (Sum.inl b) (.int bx), dv0, ⟨⟨dx, by rw [upd_ne npl, upd_ne npd]; exact p2⟩, upd_same, by rw [upd_ne (Ne.symm nld), upd_same], by rw [upd_ne (Ne.symm lq), upd_ne nqd]; exact q2, lq⟩, De0.mono fun a xs e => RI.tup x3 e, ?_, nd_putK _ knd vn, ?_⟩, h0, lo'⟩ x3⟩
    · rw [putK_new _ vn, List.length_append, kl]; rfl
    · have := val_put kval b bx
      rw [updf_back hb] at this
      exact this
def spStand (C : Addr) : Sp := fun vs H Q _ => ∃ (p l d q : Addr) (n : Nat) (ds : List Deed) (ns : List Int) (pl : Int → Option Int) (sz : Nat) (nb : Int), vs = [.ref p] ∧ RoomIs C n H p l d q ds ns pl sz nb ∧ ∀ (r : Addr) (H' : Hp), Same H H' → H' r = some (.tup (iv ns)) → Q (.ref r) H'
theorem ok_stand {C : Addr} (R : RmT K mg C) (T : Txt2 mg) (F : MFun K C "stand" "Room.stand" ["self"] s_Room__stand) : MCal P w K mg base C "stand" ["self"] 1 (spStand C) := by
  have S := sc_Room__stand
  have CA := R.ca
  refine F.cal sc_Room__stand (fun vs H Q E h => ?_) (fun f cdv A outer s H vs Q E hr h => ?_)
  · obtain ⟨p, l, d, q, n, ds, ns, pl, sz, nb, rfl, _⟩ := h; rfl
  obtain ⟨p, l, d, q, n, ds, ns, pl, sz, nb, rfl, RI, k⟩ := h
  obtain ⟨⟨kvs, dv, ⟨⟨dx, h1⟩, hl, hd, hq, lq⟩, _⟩, _, _⟩ := id RI
  refine ⟨_, (@pss_one _ _ _ (@ps_ret _ _ _ _ (@pe_callTy _ _ _ _ _ _ _ _ _ call_tuple_of (by rfl) (by exact T.z_tuple) (by exact bt_tuple) (@pa_consN _ _ _ _ _ (@pe_fld _ _ _ _ _ (pv 0) (by rfl)) pa_nil (by first | rfl | decide | exact Or.inl rfl | exact Or.inr rfl | (intro _; rfl) | (intro _ _; rfl) | (intro _ _ _; rfl))) (by first | rfl | decide | exact Or.inl rfl | exact Or.inr rfl | (intro _; rfl) | (intro _ _; rfl) | (intro _ _ _; rfl)) (by first | rfl | decide | exact Or.inl rfl | exact Or.inr rfl | (intro _; rfl) | (intro _ _; rfl) | (intro _ _ _; rfl)) (by first | rfl | decide | exact Or.inl rfl | exact Or.inr rfl | (intro _; rfl) | (intro _ _; rfl) | (intro _ _ _; rfl)) (by first | rfl | decide | exact Or.inl rfl | exact Or.inr rfl | (intro _; rfl) | (intro _ _; rfl) | (intro _ _ _; rfl))))), ?_⟩
  refine ⟨_, rfl, p, C, dx, _, _, rfl, h1, CA.cl, R.n1, flds_num _ _ _ _, l, _, rfl, .inl ⟨SqL.of hl, fun t ht => ?_⟩⟩
  exact k t _ (same_new ht _) upd_same
def spLoadR (C : Addr) : Sp := fun vs H Q _ => ∃ (p l d q : Addr) (n : Nat) (ds : List Deed) (ns : List Int) (pl : Int → Option Int) (sz : Nat) (nb : Int), vs = [.ref p] ∧ RoomIs C n H p l d q ds ns pl sz nb ∧ ns.length < 64 ∧ ∀ (r : Addr) (ms : List Int) (H' : Hp), Same H H' → ms.Perm ns → ms.Pairwise (· ≥ ·) → H' r = some (.tup (iv ms)) → Q (.ref r) H'
theorem ok_loadR {C : Addr} (R : RmT K mg C) (T : Txt2 mg) (C_falling : Cal P w K mg base "falling" ["numbers"] 1 spFalling) (F : MFun K C "load" "Room.load" ["self"] s_Room__load) : MCal P w K mg base C "load" ["self"] 2 (spLoadR C) := by
  have S := sc_Room__load
  have CA := R.ca
  refine F.cal sc_Room__load (fun vs H Q E h => ?_) (fun f cdv A outer s H vs Q E hr h => ?_)
  · obtain ⟨p, l, d, q, n, ds, ns, pl, sz, nb, rfl, _⟩ := h; rfl
  obtain ⟨p, l, d, q, n, ds, ns, pl, sz, nb, rfl, RI, h64, k⟩ := h
  obtain ⟨⟨kvs, dv, ⟨⟨dx, h1⟩, hl, hd, hq, lq⟩, _⟩, _, _⟩ := id RI
  refine ⟨_, (@pss_one _ _ _ (@ps_ret _ _ _ _ (@cc _ _ _ _ _ _ _ _ _ _ (by exact C_falling) (by exact (hr.mono (by decide))) (@pa_consN _ _ _ _ _ (@pe_fld _ _ _ _ _ (pv 0) (by rfl)) pa_nil (by first | rfl | decide | exact Or.inl rfl | exact Or.inr rfl | (intro _; rfl) | (intro _ _; rfl) | (intro _ _ _; rfl))) (by first | rfl | decide | exact Or.inl rfl | exact Or.inr rfl | (intro _; rfl) | (intro _ _; rfl) | (intro _ _ _; rfl)) (by first | rfl | decide | exact Or.inl rfl | exact Or.inr rfl | (intro _; rfl) | (intro _ _; rfl) | (intro _ _ _; rfl)) (by first | rfl | decide | exact Or.inl rfl | exact Or.inr rfl | (intro _; rfl) | (intro _ _; rfl) | (intro _ _ _; rfl)) (by first | rfl | decide | exact Or.inl rfl | exact Or.inr rfl | (intro _; rfl) | (intro _ _; rfl) | (intro _ _ _; rfl))))), ?_⟩
  exact ⟨_, rfl, p, C, dx, _, _, rfl, h1, CA.cl, R.n1, flds_num _ _ _ _, l, ns, rfl, hl, h64, fun r ms H' pm od hr' s' => k r ms H' s' pm od hr'⟩
end
end My

set_option Elab.async false
set_option linter.all false
set_option maxRecDepth 100000
set_option maxHeartbeats 4000000
namespace L2
open PySem PySem.Spec PyProof.Rows MA
theorem comp_prL {K : PySem.W.Frag} {a : Addr} {xs : List V} {ps : List (Int × Int)} {te : TE} {H : Hp} {R : Addr → Hp → Prop} {fs : St} (F : Int × Int → V) (ha : H a = some (.lst xs)) (hps : Prs H xs ps) (hz : xs.length ≤ 10000)
    (hte : ∀ (q : Int × Int), q ∈ ps → ∀ (H' : Hp) (Q' : VK), Same H H' → (∀ H'', Same H' H'' → Q' (F q) H'') → te (some (.int q.1) :: some (.int q.2) :: fs) H' Q')
    (q : ∀ p H', Same H H' → H' p = some (.lst (ps.map F)) → R p H') :
    ∀ p, H p = none → ∃ W : Nat → Nat → List V → St → Hp → Prop, (∃ m, W 0 m [] (none :: none :: fs) (upd H p (.lst []))) ∧ ∀ i m zs σ' H', W i m zs σ' H' →
      ((Itl K a).stop i H' ∧ R p H') ∨ ((Itl K a).go i H' ∧ ∀ x H2, (Itl K a).yld i H' x H2 → gTup0 2 (gCons (gName 0) (gCons (gName 1) gNil)) x σ' H2 fun σ2 H3 => tTT σ2 H3 fun b H4 => if b = true then te σ2 H4 fun v H5 => zs.length < sizeLine ∧ H5 p = some (.lst zs) ∧ (∃ m', m' < m ∧ W (i + 1) m' (zs ++ [v]) σ2 (upd H5 p (.lst (zs ++ [v]))))
        else ∃ m', m' < m ∧ W (i + 1) m' zs σ2 H4) := by
  intro p hp
  refine ⟨fun i m zs σ' H' => m = xs.length - i ∧ i ≤ xs.length ∧ zs = (ps.take i).map F ∧ Same H H' ∧ H' p = some (.lst zs) ∧ ∃ o1 o2, σ' = o1 :: o2 :: fs, ⟨xs.length, by simp, Nat.zero_le _, by simp, same_new hp _, upd_same, _, _, rfl⟩, ?_⟩
  rintro i m zs σ' H' ⟨rfl, hi, rfl, s', hp', o1, o2, rfl⟩
  have ha' := s' _ _ ha
  have hl := hps.length
  by_cases h1 : i < xs.length
  · refine .inr ⟨⟨xs, xs[i], SqL.of ha', List.getElem?_eq_getElem h1⟩, fun x H2 hy => ?_⟩
    obtain ⟨rfl, hxy⟩ := hy
    have hx := hxy xs (SqL.of ha')
    obtain ⟨y, hy, r, rfl, hr⟩ := My.Paired.at' hps hx
    have hr' := s' _ _ hr
    refine ⟨r, _, rfl, hr', rfl, _, _, rfl, _, _, rfl, rfl, ?_⟩
    change te (some (.int y.1) :: some (.int y.2) :: fs) _ _
    refine hte y (List.mem_of_getElem? hy) _ _ s' fun H5 s5 => ⟨?_, s5 _ _ hp', xs.length - (i + 1), by omega, rfl, h1, ?_, ?_, upd_same, _, _, rfl⟩
    · rw [List.length_map, List.length_take, sizeLine_eq]; omega
    · rw [List.take_add_one, hy, List.map_append]; rfl
    · intro b o e
      rw [upd_ne (ne_of_none e hp)]
      exact s5 _ _ (s' _ _ e)
  · refine .inl ⟨⟨xs, SqL.of ha', by omega⟩, q p H' s' ?_⟩
    rw [hp', List.take_of_length_le (by omega)]
theorem MCal.imp {P : Program} {w : World} {K : PySem.W.Frag} {mg : Str → Option Value} {base : Heap} {C : Addr} {m : Str} {ps : List Str} {k : Nat} {sp sp' : Sp} (c : MCal P w K mg base C m ps k sp) (h : ∀ vs H Q E, sp' vs H Q E → sp vs H Q E) : MCal P w K mg base C m ps k sp' :=
  let ⟨f, fd, F, r⟩ := c.ex
  ⟨f, fd, F.imp h, r⟩
end L2
namespace My
open PySem L2 MA
def spWhereR (C : Addr) : Sp := fun vs H Q _ => ∃ (p l d q : Addr) (n : Nat) (ds : List Deed) (ns : List Int) (pl : Int → Option Int) (sz : Nat) (nb b bx : Int), vs = [.ref p, .int b] ∧ RoomIs C n H p l d q ds ns pl sz nb ∧ pl b = some bx ∧ Q (.int bx) H
theorem whereR {C : Addr} : ∀ vs H Q E, spWhereR C vs H Q E → spWhere C vs H Q E := fun vs H Q E ⟨p, l, d, q, n, ds, ns, pl, sz, nb, b, bx, e, ⟨⟨kvs, dv, RA, _, _, _, kval⟩, _, _⟩, hb, k⟩ => ⟨p, l, d, q, ns, kvs, nb, dv, b, .int bx, e, RA, by rw [kval, hb]; rfl, k⟩
theorem erase_iv : ∀ (ls : List Int) (i : Nat), (iv ls).eraseIdx i = iv (ls.eraseIdx i)
  | [], _ => rfl
  | _ :: _, 0 => rfl
  | a :: r, i + 1 => by
    show V.int a :: (iv r).eraseIdx i = V.int a :: iv (r.eraseIdx i)
    rw [erase_iv r i]
theorem RoomIs.updL {C : Addr} {n : Nat} {H : Hp} {p l d q acc : Addr} {ds : List Deed} {ns : List Int} {pl : Int → Option Int} {sz : Nat} {nb : Int} (R : RoomIs C n H p l d q ds ns pl sz nb) {ys zs : List V} (ha : H acc = some (.lst ys)) (nl : l ≠ acc) (nq : q ≠ acc) : RoomIs C n (upd H acc (.lst zs)) p l d q ds ns pl sz nb := by
  obtain ⟨⟨kvs, dv, ⟨⟨dx, h1⟩, h2, h3, h4, h5⟩, D, r⟩, hs, lo⟩ := R
  exact ⟨⟨kvs, dv, ⟨⟨dx, by rw [upd_ne (ne_of h1 ha (by intro z; cases z))]; exact h1⟩, by rw [upd_ne nl]; exact h2, by rw [upd_ne (ne_of h3 ha (by intro z; cases z))]; exact h3, by rw [upd_ne nq]; exact h4, h5⟩, D.mono fun a xs e => by rw [upd_ne (ne_of e ha (by intro z; cases z))]; exact e, r⟩, hs, lo⟩
def bp (bs : List Int) : List (Int × Int) := (List.range bs.length).map fun (i : Nat) => ((i : Int), bs.getD i 0)
theorem bp_len (bs : List Int) : (bp bs).length = bs.length := by simp [bp]
theorem bp_at {bs : List Int} {i : Nat} (h : i < bs.length) : (bp bs)[i]? = some ((i : Int), bs[i]) := by
  unfold bp
  rw [List.getElem?_map, List.getElem?_range h]
  show some ((i : Int), bs.getD i 0) = _
  rw [getD_of h]
theorem bp_snoc (bs : List Int) (b : Int) : bp (bs ++ [b]) = bp bs ++ [((bs.length : Int), b)] := by
  unfold bp
  rw [List.length_append, List.length_singleton, List.range_succ, List.map_append]
  congr 1
  · refine List.map_congr_left fun i hi => ?_
    have hi : i < bs.length := by simpa using hi
    rw [getD_of hi, getD_of (by simp; omega), List.getElem_append_left hi]
  · simp
/-- the deeds of balls put, the last one first -/
def pd (bs : List Int) : List Deed := ((bp bs).map fun p => ((true, p.1, p.2) : Deed)).reverse
theorem pd_snoc (bs : List Int) (b : Int) : pd (bs ++ [b]) = (true, (bs.length : Int), b) :: pd bs := by unfold pd; rw [bp_snoc]; simp
theorem pd_len (bs : List Int) : (pd bs).length = bs.length := by simp [pd, bp_len]
def plF (bs : List Int) : Int → Option Int := fun j => if 0 ≤ j then bs[j.toNat]? else none
theorem plF_snoc (bs : List Int) (b : Int) : updf (plF bs) (bs.length : Int) (some b) = plF (bs ++ [b]) := by
  funext j
  unfold updf plF
  by_cases e : j = bs.length
  · subst e; rw [if_pos rfl, if_pos (by omega)]; simp
  · rw [if_neg e]
    by_cases c : 0 ≤ j
    · rw [if_pos c, if_pos c]
      by_cases c2 : j.toNat < bs.length
      · rw [List.getElem?_append_left c2]
      · rw [List.getElem?_eq_none (by omega), List.getElem?_eq_none (by simp; omega)]
    · rw [if_neg c, if_neg c]
theorem prs_len {H : Hp} {xs : List V} {ps : List (Int × Int)} (h : Prs H xs ps) : xs.length = ps.length := by
  induction h with
  | nil => rfl
  | cons _ _ ih => simp [ih]
theorem prs_mono {H H' : Hp} (s : ∀ a xs, H a = some (.tup xs) → H' a = some (.tup xs)) {xs : List V} {ps : List (Int × Int)} (h : Prs H xs ps) : Prs H' xs ps := by
  induction h with
  | nil => exact .nil
  | cons e _ ih => exact .cons (let ⟨a, e1, e2⟩ := e; ⟨a, e1, s _ _ e2⟩) ih
theorem prs_snoc {H : Hp} {xs : List V} {ps : List (Int × Int)} (h : Prs H xs ps) {v : V} {p : Int × Int} (e : PrAt H v p) : Prs H (xs ++ [v]) (ps ++ [p]) := by
  induction h with
  | nil => exact .cons e .nil
  | cons e' _ ih => exact .cons e' ih
theorem prs_get {H : Hp} {xs : List V} {ps : List (Int × Int)} (h : Prs H xs ps) {i : Nat} {p : Int × Int} (hp : ps[i]? = some p) : ∃ t, xs[i]? = some (.ref t) ∧ H t = some (.tup [.int p.1, .int p.2]) := by
  induction h generalizing i with
  | nil => simp at hp
  | cons e _ ih =>
    cases i with
    | zero =>
      obtain ⟨a, rfl, ha⟩ := e
      simp at hp
      subst hp
      exact ⟨a, rfl, ha⟩
    | succ i => exact ih (by simpa using hp)
section
variable {P : Program} {w : World} {K : PySem.W.Frag} {mg : Str → Option Value} {base : Heap}
def spOrder : Sp := fun vs H Q _ => ∃ (p a : Addr) (gs : List Int) (m : Nat), vs = [.ref p, .ref a] ∧ Pen H p m ∧ m < 60000 ∧ H a = some (.lst (iv gs)) ∧ gs.length ≤ 60 ∧
  ∀ (l : Addr) (hs : List Int) (H' : Hp), H' l = some (.lst (iv hs)) → H l = none → hs.Perm gs → Pen H' p (m + 60) → SameX p H H' → Q (.ref l) H'
theorem ok_order (T : Txt2 mg) (C_l_draw : Cal P w K mg base "_law_draw" ["_law_pen_here", "_law_many"] 1 spDraw) (F : FunAt K mg "_law_order" ["_law_pen_here", "_law_some"] s_l_order) : Cal P w K mg base "_law_order" ["_law_pen_here", "_law_some"] 2 spOrder := by
  have S := sc_l_order
  refine F.cal sc_l_order (fun vs H Q E h => ?_) (fun f cdv A outer s H vs Q E hr h => ?_)
  · obtain ⟨p, a, gs, m, rfl, _⟩ := h; rfl
  obtain ⟨p, a, gs, m, rfl, pen, hm, ha, h60, k⟩ := h
  refine ⟨_, (@pss_cons _ _ _ _ _ (@ps_set _ _ (2) _ _ _ _ (by exact S.nd) (by rfl) (by first | exact Or.inl rfl | exact Or.inr rfl) (@pe_callTy _ _ _ _ _ _ _ _ _ call_list_of (by rfl) (by exact T.z_list) (by exact bt_list) (@pa_consN _ _ _ _ _ (pv 1) pa_nil (by first | rfl | decide | exact Or.inl rfl | exact Or.inr rfl | (intro _; rfl) | (intro _ _; rfl) | (intro _ _ _; rfl))) (by first | rfl | decide | exact Or.inl rfl | exact Or.inr rfl | (intro _; rfl) | (intro _ _; rfl) | (intro _ _ _; rfl)) (by first | rfl | decide | exact Or.inl rfl | exact Or.inr rfl | (intro _; rfl) | (intro _ _; rfl) | (intro _ _ _; rfl)) (by first | rfl | decide | exact Or.inl rfl | exact Or.inr rfl | (intro _; rfl) | (intro _ _; rfl) | (intro _ _ _; rfl)) (by first | rfl | decide | exact Or.inl rfl | exact Or.inr rfl | (intro _; rfl) | (intro _ _; rfl) | (intro _ _ _; rfl))) (by first | rfl | decide | exact Or.inl rfl | exact Or.inr rfl | (intro _; rfl) | (intro _ _; rfl) | (intro _ _ _; rfl)) (by first | rfl | decide | exact Or.inl rfl | exact Or.inr rfl | (intro _; rfl) | (intro _ _; rfl) | (intro _ _ _; rfl))) (@pss_cons _ _ _ _ _ (@ps_set _ _ (3) _ _ _ _ (by exact S.nd) (by rfl) (by first | exact Or.inl rfl | exact Or.inr rfl) (@pe_lst _ _ _ _ pa_nil) (by first | rfl | decide | exact Or.inl rfl | exact Or.inr rfl | (intro _; rfl) | (intro _ _; rfl) | (intro _ _ _; rfl)) (by first | rfl | decide | exact Or.inl rfl | exact Or.inr rfl | (intro _; rfl) | (intro _ _; rfl) | (intro _ _ _; rfl))) (@pss_cons _ _ _ _ _ (@ps_for _ _ _ _ _ _ _ _ (by exact PassesOwn.never) (by rfl) (@pi_range1 _ _ _ _ _ _ (by rfl) (by exact T.z_range) (@pa_consN _ _ _ _ _ (@pe_callB _ _ _ _ _ _ _ _ _ call_len_seq (by rfl) (by exact T.z_len) (by exact bt_len) (@pa_consN _ _ _ _ _ (pv 1) pa_nil (by first | rfl | decide | exact Or.inl rfl | exact Or.inr rfl | (intro _; rfl) | (intro _ _; rfl) | (intro _ _ _; rfl))) (by first | rfl | decide | exact Or.inl rfl | exact Or.inr rfl | (intro _; rfl) | (intro _ _; rfl) | (intro _ _ _; rfl)) (by first | rfl | decide | exact Or.inl rfl | exact Or.inr rfl | (intro _; rfl) | (intro _ _; rfl) | (intro _ _ _; rfl)) (by first | rfl | decide | exact Or.inl rfl | exact Or.inr rfl | (intro _; rfl) | (intro _ _; rfl) | (intro _ _ _; rfl)) (by first | rfl | decide | exact Or.inl rfl | exact Or.inr rfl | (intro _; rfl) | (intro _ _; rfl) | (intro _ _ _; rfl))) pa_nil (by first | rfl | decide | exact Or.inl rfl | exact Or.inr rfl | (intro _; rfl) | (intro _ _; rfl) | (intro _ _ _; rfl))) (by first | rfl | decide | exact Or.inl rfl | exact Or.inr rfl | (intro _; rfl) | (intro _ _; rfl) | (intro _ _ _; rfl))) (@pg_name _ _ (4) _ (by exact S.nd) (by rfl) (by first | exact Or.inl rfl | exact Or.inr rfl) (by first | rfl | decide | exact Or.inl rfl | exact Or.inr rfl | (intro _; rfl) | (intro _ _; rfl) | (intro _ _ _; rfl))) (@pss_one _ _ _ (@ps_expr _ _ _ _ (@pe_bm _ _ _ _ _ _ _ _ _ _ _ _ (by exact PySem.F.plainAttrs_list) (by exact PySem.F.slot_list_append) (by exact PySem.F.type_list_append) mt_append (pv 3) (@pa_consN _ _ _ _ _ (@pe_bm _ _ _ _ _ _ _ _ _ _ _ _ (by exact PySem.F.plainAttrs_list) (by exact PySem.F.slot_list_pop) (by exact PySem.F.type_list_pop) mt_popAt (pv 2) (@pa_consN _ _ _ _ _ (@cc _ _ _ _ _ _ _ _ _ _ (by exact C_l_draw) (by exact (hr.mono (by decide))) (@pa_consN _ _ _ _ _ (pv 0) (@pa_consN _ _ _ _ _ (@pe_callB _ _ _ _ _ _ _ _ _ call_len_seq (by rfl) (by exact T.z_len) (by exact bt_len) (@pa_consN _ _ _ _ _ (pv 2) pa_nil (by first | rfl | decide | exact Or.inl rfl | exact Or.inr rfl | (intro _; rfl) | (intro _ _; rfl) | (intro _ _ _; rfl))) (by first | rfl | decide | exact Or.inl rfl | exact Or.inr rfl | (intro _; rfl) | (intro _ _; rfl) | (intro _ _ _; rfl)) (by first | rfl | decide | exact Or.inl rfl | exact Or.inr rfl | (intro _; rfl) | (intro _ _; rfl) | (intro _ _ _; rfl)) (by first | rfl | decide | exact Or.inl rfl | exact Or.inr rfl | (intro _; rfl) | (intro _ _; rfl) | (intro _ _ _; rfl)) (by first | rfl | decide | exact Or.inl rfl | exact Or.inr rfl | (intro _; rfl) | (intro _ _; rfl) | (intro _ _ _; rfl))) pa_nil (by first | rfl | decide | exact Or.inl rfl | exact Or.inr rfl | (intro _; rfl) | (intro _ _; rfl) | (intro _ _ _; rfl))) (by first | rfl | decide | exact Or.inl rfl | exact Or.inr rfl | (intro _; rfl) | (intro _ _; rfl) | (intro _ _ _; rfl))) (by first | rfl | decide | exact Or.inl rfl | exact Or.inr rfl | (intro _; rfl) | (intro _ _; rfl) | (intro _ _ _; rfl)) (by first | rfl | decide | exact Or.inl rfl | exact Or.inr rfl | (intro _; rfl) | (intro _ _; rfl) | (intro _ _ _; rfl)) (by first | rfl | decide | exact Or.inl rfl | exact Or.inr rfl | (intro _; rfl) | (intro _ _; rfl) | (intro _ _ _; rfl)) (by first | rfl | decide | exact Or.inl rfl | exact Or.inr rfl | (intro _; rfl) | (intro _ _; rfl) | (intro _ _ _; rfl))) pa_nil (by first | rfl | decide | exact Or.inl rfl | exact Or.inr rfl | (intro _; rfl) | (intro _ _; rfl) | (intro _ _ _; rfl))) (by first | rfl | decide | exact Or.inl rfl | exact Or.inr rfl | (intro _; rfl) | (intro _ _; rfl) | (intro _ _ _; rfl)) (by first | rfl | decide | exact Or.inl rfl | exact Or.inr rfl | (intro _; rfl) | (intro _ _; rfl) | (intro _ _ _; rfl)) (by first | rfl | decide | exact Or.inl rfl | exact Or.inr rfl | (intro _; rfl) | (intro _ _; rfl) | (intro _ _ _; rfl)) (by first | rfl | decide | exact Or.inl rfl | exact Or.inr rfl | (intro _; rfl) | (intro _ _; rfl) | (intro _ _ _; rfl)) (by first | rfl | decide | exact Or.inl rfl | exact Or.inr rfl | (intro _; rfl) | (intro _ _; rfl) | (intro _ _ _; rfl))) pa_nil (by first | rfl | decide | exact Or.inl rfl | exact Or.inr rfl | (intro _; rfl) | (intro _ _; rfl) | (intro _ _ _; rfl))) (by first | rfl | decide | exact Or.inl rfl | exact Or.inr rfl | (intro _; rfl) | (intro _ _; rfl) | (intro _ _ _; rfl)) (by first | rfl | decide | exact Or.inl rfl | exact Or.inr rfl | (intro _; rfl) | (intro _ _; rfl) | (intro _ _ _; rfl)) (by first | rfl | decide | exact Or.inl rfl | exact Or.inr rfl | (intro _; rfl) | (intro _ _; rfl) | (intro _ _ _; rfl)) (by first | rfl | decide | exact Or.inl rfl | exact Or.inr rfl | (intro _; rfl) | (intro _ _; rfl) | (intro _ _ _; rfl)) (by first | rfl | decide | exact Or.inl rfl | exact Or.inr rfl | (intro _; rfl) | (intro _ _; rfl) | (intro _ _ _; rfl))) (by first | rfl | decide | exact Or.inl rfl | exact Or.inr rfl | (intro _; rfl) | (intro _ _; rfl) | (intro _ _ _; rfl)))) (by first | rfl | decide | exact Or.inl rfl | exact Or.inr rfl | (intro _; rfl) | (intro _ _; rfl) | (intro _ _ _; rfl))) (@pss_one _ _ _ (@ps_ret _ _ _ _ (pv 3)))))), ?_⟩
  refine ⟨_, rfl, a, _, rfl, .inl (SqL.of ha), fun l1 hl1 => ⟨lz 0 rfl, fun l2 hl2 => ?_⟩⟩
  have s1 := same_new hl1 (.lst (iv gs))
  have n12 : l1 ≠ l2 := fun z => by rw [← z, upd_same] at hl2; cases hl2
  have hl20 : H l2 = none := by rw [upd_ne (Ne.symm n12)] at hl2; exact hl2
  have s2 := s1.trans (same_new hl2 (.lst []))
  refine ⟨_, rfl, a, _, rfl, .inl (SqL.of (s2 _ _ ha)), _, rfl, by omega, by simp; omega, for_range (n := ((iv gs).length : Int).toNat) (fun i σ H' => Pen H' p (m + i) ∧ SameX p H H' ∧ (∃ o4, σ = [some (.ref p), some (.ref a), some (.ref l1), some (.ref l2), o4]) ∧ ∃ ls fs, H' l1 = some (.lst (iv ls)) ∧ H' l2 = some (.lst (iv fs)) ∧ (fs ++ ls).Perm gs ∧ fs.length = i) ?_ ?_ ?_⟩
  · exact ⟨pen.same s2, s2.x, ⟨_, rfl⟩, gs, [], (by rw [upd_ne n12, upd_same]), upd_same, .refl _, rfl⟩
  · rintro i σ H1 hi ⟨p1, x1, ⟨o4, rfl⟩, ls, fs, g1, g2, pm, fl⟩
    have hi' : i < gs.length := by simpa using hi
    have pl := pm.length_eq
    rw [List.length_append] at pl
    refine ⟨_, rfl, .inl ⟨rfl, _, SqL.of g2⟩, _, rfl, .inl ⟨rfl, _, SqL.of g1⟩, _, rfl, _, rfl, l1, _, rfl, .inl (SqL.of g1), p, _, _, rfl, p1, by omega, by simp; omega, by simp; omega, fun c H2 c0 c1 p2 x2 => ?_⟩
    obtain ⟨c', rfl⟩ : ∃ c' : Nat, c = (c' : Int) := ⟨c.toNat, by omega⟩
    have hc : c' < ls.length := by rw [List.length_map] at c1; omega
    have g1' := p1.keep x2 g1
    have g2' := p1.keep x2 g2
    have x12 := x1.trans x2
    refine ⟨l1, iv ls, (c' : Int), c', .int ls[c'], rfl, rfl, g1', by omega, by omega, seqIndex_of (by omega) (by simpa using hc), (by rw [List.getElem?_map, List.getElem?_eq_getElem hc]; rfl), ?_⟩
    have ee : (iv ls).eraseIdx c' = iv (ls.eraseIdx c') := erase_iv ls c'
    rw [ee]
    obtain ⟨u1, u2⟩ := penX_upd hl1 pen x12 p2 (.lst (iv (ls.eraseIdx c')))
    have w1 : (upd H2 l1 (.lst (iv (ls.eraseIdx c')))) l1 = _ := upd_same
    have w2 : (upd H2 l1 (.lst (iv (ls.eraseIdx c')))) l2 = some (.lst (iv fs)) := by rw [upd_ne (Ne.symm n12)]; exact g2'
    generalize upd H2 l1 (.lst (iv (ls.eraseIdx c'))) = H3 at u1 u2 w1 w2
    refine ⟨l2, iv fs, .int ls[c'], rfl, rfl, w2, (by rw [sizeLine_eq]; simp; omega), ?_⟩
    obtain ⟨v1, v2⟩ := penX_upd hl20 pen u2 u1 (.lst (iv fs ++ [.int ls[c']]))
    refine ⟨v1.mono (by omega), v2, ⟨_, rfl⟩, ls.eraseIdx c', fs ++ [ls[c']], by rw [upd_ne n12]; exact w1, by rw [upd_same]; simp, ?_, by simp; omega⟩
    have pp := perm_out (l := ls) (i := c') (x := ls[c']) (List.getElem?_eq_getElem hc)
    rw [List.append_assoc]
    exact ((pp.symm).append_left fs).trans pm
  · rintro σ H1 ⟨p1, x1, ⟨o4, rfl⟩, ls, fs, g1, g2, pm, fl⟩
    have pl := pm.length_eq
    rw [List.length_append] at pl
    have fl' : fs.length = gs.length := by simpa using fl
    have : ls = [] := List.length_eq_zero_iff.mp (by omega)
    subst this
    rw [List.append_nil] at pm
    exact ⟨_, rfl, k l2 fs H1 g2 hl20 pm (p1.mono (by simp; omega)) x1⟩
/-- the room of a law: its deeds are balls put -/
theorem sr_same {p l d q : Addr} {H0 H H' : Hp} (h : Same H0 H) (np : H0 p = none) (nl : H0 l = none) (nd : H0 d = none) (nq : H0 q = none) (x : SR p l d q H H') : Same H0 H' := fun b o e => x b o (h b o e) (ne_of_none e np) (ne_of_none e nl) (ne_of_none e nd) (ne_of_none e nq)
def zs (n : Nat) : List Int := List.replicate n 0
def spFilled (C T : Addr) (z : Str) : Sp := fun vs H Q _ => ∃ (a : Addr) (n : Int) (xs : List V) (dss : List (List Int)), vs = [.int n, .ref a] ∧ 1 ≤ n ∧ n ≤ 6 ∧ H a = some (.lst xs) ∧ Drs H xs dss ∧ OkD n.toNat dss ∧ xs.length ≤ 59 ∧ H T = some (.tab z) ∧
  ∀ (r p l d q bl : Addr) (ys : List V) (H' : Hp), Same H H' → H p = none → H l = none → H d = none → H q = none → H bl = none → bl ≠ l → bl ≠ q → H' r = some (.tup [.ref p, .ref bl]) → H' bl = some (.lst ys) → Prs H' ys (bp (byF (zs n.toNat) dss).2) →
    RoomIs C n.toNat H' p l d q (pd (byF (zs n.toNat) dss).2) (byF (zs n.toNat) dss).1 (plF (byF (zs n.toNat) dss).2) dss.length dss.length → Q (.ref r) H'
theorem ok_filled {C D : Addr} (R : RmT K mg C) (T : Txt2 mg) (M___init__ : MCal P w K mg base C "__init__" ["self", "n"] 1 (spInit C)) (M_put : MCal P w K mg base C "put" ["self", "draw"] 4 (spPut C D (qLam "emptiest_of")))
    (F : FunAt K mg "_law_filled" ["_law_n", "_law_draws_here"] s_l_filled) : Cal P w K mg base "_law_filled" ["_law_n", "_law_draws_here"] 5 (spFilled C D (qLam "emptiest_of")) := by
  have S := sc_l_filled
  have CA := R.ca
  refine F.cal sc_l_filled (fun vs H Q E h => ?_) (fun f cdv A outer s H vs Q E hr h => ?_)
  · obtain ⟨a, n, xs, dss, rfl, _⟩ := h; rfl
  obtain ⟨a, n, xs, dss, rfl, n1, n6, ha, dr, od, h59, hT, k⟩ := h
  have dl := dr.len
  refine ⟨_, (@pss_cons _ _ _ _ _ (@ps_set _ _ (2) _ _ _ _ (by exact S.nd) (by rfl) (by first | exact Or.inl rfl | exact Or.inr rfl) (@pmk _ _ _ _ _ _ _ _ _ _ _ (by exact M___init__) (by exact CA) (by exact (hr.mono (by decide))) (@pa_consN _ _ _ _ _ (pv 0) pa_nil (by first | rfl | decide | exact Or.inl rfl | exact Or.inr rfl | (intro _; rfl) | (intro _ _; rfl) | (intro _ _ _; rfl))) (by first | rfl | decide | exact Or.inl rfl | exact Or.inr rfl | (intro _; rfl) | (intro _ _; rfl) | (intro _ _ _; rfl)) (by first | rfl | decide | exact Or.inl rfl | exact Or.inr rfl | (intro _; rfl) | (intro _ _; rfl) | (intro _ _ _; rfl)) (by first | rfl | decide | exact Or.inl rfl | exact Or.inr rfl | (intro _; rfl) | (intro _ _; rfl) | (intro _ _ _; rfl)) (by first | rfl | decide | exact Or.inl rfl | exact Or.inr rfl | (intro _; rfl) | (intro _ _; rfl) | (intro _ _ _; rfl))) (by first | rfl | decide | exact Or.inl rfl | exact Or.inr rfl | (intro _; rfl) | (intro _ _; rfl) | (intro _ _ _; rfl)) (by first | rfl | decide | exact Or.inl rfl | exact Or.inr rfl | (intro _; rfl) | (intro _ _; rfl) | (intro _ _ _; rfl))) (@pss_one _ _ _ (@ps_ret _ _ _ _ (@pe_tup _ _ _ _ _ (@pa_consN _ _ _ _ _ (pv 2) (@pa_consN _ _ _ _ _ (@pe_comp _ _ _ _ _ _ _ _ _ _ _ _ _ (by rfl) (by exact (fun _ _ h => h)) (by decide +kernel) (by rfl) (by decide +kernel) (by exact hfr_of rfl) (by exact Sees.frees ["_law_draw_here"] [("_law_room", 2)] (fr_cons ⟨rfl, rfl⟩ fr_nil)) (@pi_list _ _ _ _ (pv 1)) (fun _ _ _ _ _ => @pg_name _ _ (0) _ (by exact (show (["_law_draw_here", "_law_room"] : List Str).Nodup by decide +kernel)) (by rfl) (by first | exact Or.inl rfl | exact Or.inr rfl) (by first | rfl | decide | exact Or.inl rfl | exact Or.inr rfl | (intro _; rfl) | (intro _ _; rfl) | (intro _ _ _; rfl))) (fun _ _ _ _ _ => pts_nil) (fun _ _ _ _ _ => (@pm _ _ _ _ _ _ _ _ _ _ _ _ _ _ (by exact M_put) (by exact CA.cl) (by exact (hr.mono (by decide))) (pv 1) (@pa_consN _ _ _ _ _ (pv 0) pa_nil (by first | rfl | decide | exact Or.inl rfl | exact Or.inr rfl | (intro _; rfl) | (intro _ _; rfl) | (intro _ _ _; rfl))) (by first | rfl | decide | exact Or.inl rfl | exact Or.inr rfl | (intro _; rfl) | (intro _ _; rfl) | (intro _ _ _; rfl)) (by first | rfl | decide | exact Or.inl rfl | exact Or.inr rfl | (intro _; rfl) | (intro _ _; rfl) | (intro _ _ _; rfl)) (by first | rfl | decide | exact Or.inl rfl | exact Or.inr rfl | (intro _; rfl) | (intro _ _; rfl) | (intro _ _ _; rfl)))) (by first | rfl | decide | exact Or.inl rfl | exact Or.inr rfl | (intro _; rfl) | (intro _ _; rfl) | (intro _ _ _; rfl))) pa_nil (by first | rfl | decide | exact Or.inl rfl | exact Or.inr rfl | (intro _; rfl) | (intro _ _; rfl) | (intro _ _ _; rfl))) (by first | rfl | decide | exact Or.inl rfl | exact Or.inr rfl | (intro _; rfl) | (intro _ _; rfl) | (intro _ _ _; rfl))))))), ?_⟩
  refine ⟨_, rfl, fun p dx np ndx nxd => ?_⟩
  refine ⟨p, dx, n, rfl, upd_same, n1, n6, fun l d q H1 nl0 nd0 nq0 RA kp => ⟨rfl, ?_⟩⟩
  have s0 : Same H (upd (upd H dx (.own p)) p (.ins C dx [])) := fun b o e => by
    rw [upd_ne (ne_of_none e np), upd_ne (ne_of_none e ndx)]
    exact e
  have s1 : Same H H1 := fun b o e => kp b o (s0 b o e) (ne_of_none e np)
  have nl := s0.free nl0
  have nd := s0.free nd0
  have nq := s0.free nq0
  have nz : (n.toNat : Int) = n := by omega
  have RI1 : RoomIs C n.toNat H1 p l d q (pd (byF (zs n.toNat) (dss.take 0)).2) (byF (zs n.toNat) (dss.take 0)).1 (plF (byF (zs n.toNat) (dss.take 0)).2) 0 0 := by
    have ep : plF (byF (zs n.toNat) (dss.take 0)).2 = fun _ => none := by funext j; show (if 0 ≤ j then ([] : List Int)[j.toNat]? else none) = none; simp
    rw [ep]
    exact ⟨⟨[], [], RA, .nil, rfl, List.nodup_nil, fun b => rfl⟩, .nil, fun x hx => absurd hx (by simp [pd, bp, byF])⟩
  obtain ⟨⟨_, _, ⟨⟨dx1, hp1⟩, hl1, hd1, hq1, lq⟩, _⟩, _, _⟩ := id RI1
  refine ⟨_, rfl, _, rfl, a, rfl, ⟨_, SqL.of (s1 _ _ ha)⟩, comp_lst (xs := xs) (fs := [some (.ref p)]) (fun acc i ys H' => Same H H' ∧ Prs H' ys (bp (byF (zs n.toNat) (dss.take i)).2) ∧ RoomIs C n.toNat H' p l d q (pd (byF (zs n.toNat) (dss.take i)).2) (byF (zs n.toNat) (dss.take i)).1 (plF (byF (zs n.toNat) (dss.take i)).2) i i) (by omega) (fun acc hacc => ⟨s1.trans (same_new hacc _), .nil, RI1.same (same_new hacc _)⟩) (fun acc i ys H' _ h => h.1 _ _ ha) ?_ ?_⟩
  · rintro acc i ys H2 x hacc hx hlen ⟨s2, pr, RI⟩ hacc' Q' hQ
    obtain ⟨t, ds, rfl, hd, ht⟩ := dr.get hx
    obtain ⟨hi, ed⟩ := List.getElem?_eq_some_iff.mp hd
    obtain ⟨d1, d2, d3⟩ := od ds (List.mem_of_getElem? hd)
    have bl := byF_len (zs n.toNat) (dss.take i)
    have bl2 : (byF (zs n.toNat) (dss.take i)).2.length = i := by rw [bl.2, List.length_take]; omega
    have tk := byF_take (zs n.toNat) hi
    rw [ed] at tk
    obtain ⟨⟨_, _, ⟨⟨dx2, hp2⟩, _⟩, _⟩, _, _⟩ := id RI
    refine ⟨_, rfl, p, dx2, _, rfl, hp2, flds_no _ _ _ _ (by decide +kernel) (by decide +kernel) (by decide +kernel) (by decide +kernel), _, rfl, p, l, d, q, t, n.toNat, _, _, _, i, (i : Int), ds, rfl, RI, s2 _ _ ht, d1, d3, by omega, (by rw [pd_len]; omega), s2 _ _ hT, fun r H3 RI3 hr3 x3 => ?_⟩
    have a1 : acc ≠ p := fun z => by rw [z, hp1] at hacc; cases hacc
    have a2 : acc ≠ l := fun z => by rw [z, hl1] at hacc; cases hacc
    have a3 : acc ≠ d := fun z => by rw [z, hd1] at hacc; cases hacc
    have a4 : acc ≠ q := fun z => by rw [z, hq1] at hacc; cases hacc
    have hacc3 := x3 acc _ hacc' a1 a2 a3 a4
    have s3 : Same H H3 := sr_same s2 np nl nd nq x3
    have ha0 : H acc = none := by
      cases e : H acc with
      | none => rfl
      | some o => rw [s1 _ _ e] at hacc; cases hacc
    refine hQ _ H3 hacc3 ⟨same_updN ha0 s3 _, ?_, ?_⟩
    · rw [tk]
      unfold stepF
      simp only
      rw [bp_snoc, bl2]
      refine prs_mono (fun a xs e => by rw [upd_ne (ne_of e hacc3 (by intro z; cases z))]; exact e) (prs_snoc (prs_mono (fun a xs e => RI.tup x3 e) pr) ⟨r, rfl, hr3⟩)
    · rw [tk]
      unfold stepF
      simp only
      rw [pd_snoc, ← plF_snoc, bl2]
      exact RI3.updL hacc3 (Ne.symm a2) (Ne.symm a4)
  · rintro bl ys H2 hbl0 ⟨s2, pr, RI⟩ hbl hlen
    rw [dl, List.take_length] at pr RI
    refine ⟨lz 2 rfl, fun r hr => ?_⟩
    have s3 := same_new hr (.tup [.ref p, .ref bl])
    exact k r p l d q bl ys _ (s2.trans s3) np nl nd nq (s1.free hbl0) (fun z => by rw [z, hl1] at hbl0; cases hbl0) (fun z => by rw [z, hq1] at hbl0; cases hbl0) upd_same (s3 _ _ hbl) (pr.same s3) (RI.same s3)
end
end My

set_option Elab.async false
set_option linter.all false
set_option maxRecDepth 100000
set_option maxHeartbeats 4000000
namespace My
open PySem L2 MA
section
variable {P : Program} {w : World} {K : PySem.W.Frag} {mg : Str → Option Value} {base : Heap}
def spRestless (C T : Addr) (z : Str) : Sp := fun vs H Q _ => ∃ (a : Addr) (n : Int) (xs : List V) (dss : List (List Int)), vs = [.int n, .ref a] ∧ 1 ≤ n ∧ n ≤ 6 ∧ H a = some (.lst xs) ∧ Drs H xs dss ∧ OkD n.toNat dss ∧ xs.length ≤ 50 ∧ H T = some (.tab z) ∧
  ∀ (f : Addr) (H' : Hp), Same H H' → H' f = some (.lst (iv (byF (zs n.toNat) dss).2)) → Q (.ref f) H'
theorem ok_restless {C D : Addr} (R : RmT K mg C) (T : Txt2 mg) (M___init__ : MCal P w K mg base C "__init__" ["self", "n"] 1 (spInit C)) (M_put : MCal P w K mg base C "put" ["self", "draw"] 4 (spPut C D (qLam "emptiest_of"))) (M_back : MCal P w K mg base C "back" ["self"] 2 (spBack C)) (M_leave : MCal P w K mg base C "leave" ["self", "ball"] 3 (spLeave C))
    (F : FunAt K mg "_law_restless" ["_law_n", "_law_draws_here"] s_l_restless) : Cal P w K mg base "_law_restless" ["_law_n", "_law_draws_here"] 5 (spRestless C D (qLam "emptiest_of")) := by
  have S := sc_l_restless
  have CA := R.ca
  refine F.cal sc_l_restless (fun vs H Q E h => ?_) (fun f cdv A outer s H vs Q E hr h => ?_)
  · obtain ⟨a, n, xs, dss, rfl, _⟩ := h; rfl
  obtain ⟨a, n, xs, dss, rfl, n1, n6, ha, dr, od, h50, hT, k⟩ := h
  have dl := dr.len
  refine ⟨_, (@pss_cons _ _ _ _ _ (@ps_set _ _ (2) _ _ _ _ (by exact S.nd) (by rfl) (by first | exact Or.inl rfl | exact Or.inr rfl) (@pmk _ _ _ _ _ _ _ _ _ _ _ (by exact M___init__) (by exact CA) (by exact (hr.mono (by decide))) (@pa_consN _ _ _ _ _ (pv 0) pa_nil (by first | rfl | decide | exact Or.inl rfl | exact Or.inr rfl | (intro _; rfl) | (intro _ _; rfl) | (intro _ _ _; rfl))) (by first | rfl | decide | exact Or.inl rfl | exact Or.inr rfl | (intro _; rfl) | (intro _ _; rfl) | (intro _ _ _; rfl)) (by first | rfl | decide | exact Or.inl rfl | exact Or.inr rfl | (intro _; rfl) | (intro _ _; rfl) | (intro _ _ _; rfl)) (by first | rfl | decide | exact Or.inl rfl | exact Or.inr rfl | (intro _; rfl) | (intro _ _; rfl) | (intro _ _ _; rfl)) (by first | rfl | decide | exact Or.inl rfl | exact Or.inr rfl | (intro _; rfl) | (intro _ _; rfl) | (intro _ _ _; rfl))) (by first | rfl | decide | exact Or.inl rfl | exact Or.inr rfl | (intro _; rfl) | (intro _ _; rfl) | (intro _ _ _; rfl)) (by first | rfl | decide | exact Or.inl rfl | exact Or.inr rfl | (intro _; rfl) | (intro _ _; rfl) | (intro _ _ _; rfl))) (@pss_cons _ _ _ _ _ (@ps_set _ _ (3) _ _ _ _ (by exact S.nd) (by rfl) (by first | exact Or.inl rfl | exact Or.inr rfl) (@pe_lst _ _ _ _ pa_nil) (by first | rfl | decide | exact Or.inl rfl | exact Or.inr rfl | (intro _; rfl) | (intro _ _; rfl) | (intro _ _ _; rfl)) (by first | rfl | decide | exact Or.inl rfl | exact Or.inr rfl | (intro _; rfl) | (intro _ _; rfl) | (intro _ _ _; rfl))) (@pss_cons _ _ _ _ _ (@ps_for _ _ _ _ _ _ _ _ (by exact PassesOwn.never) (by rfl) (@pi_list _ _ _ _ (pv 1)) (@pg_name _ _ (4) _ (by exact S.nd) (by rfl) (by first | exact Or.inl rfl | exact Or.inr rfl) (by first | rfl | decide | exact Or.inl rfl | exact Or.inr rfl | (intro _; rfl) | (intro _ _; rfl) | (intro _ _ _; rfl))) (@pss_cons _ _ _ _ _ (@ps_expr _ _ _ _ (@pm _ _ _ _ _ _ _ _ _ _ _ _ _ _ (by exact M_put) (by exact CA.cl) (by exact (hr.mono (by decide))) (pv 2) (@pa_consN _ _ _ _ _ (@pe_revT _ _ _ _ _ _ _ _ (pv 4)) pa_nil (by first | rfl | decide | exact Or.inl rfl | exact Or.inr rfl | (intro _; rfl) | (intro _ _; rfl) | (intro _ _ _; rfl))) (by first | rfl | decide | exact Or.inl rfl | exact Or.inr rfl | (intro _; rfl) | (intro _ _; rfl) | (intro _ _ _; rfl)) (by first | rfl | decide | exact Or.inl rfl | exact Or.inr rfl | (intro _; rfl) | (intro _ _; rfl) | (intro _ _ _; rfl)) (by first | rfl | decide | exact Or.inl rfl | exact Or.inr rfl | (intro _; rfl) | (intro _ _; rfl) | (intro _ _ _; rfl))) (by first | rfl | decide | exact Or.inl rfl | exact Or.inr rfl | (intro _; rfl) | (intro _ _; rfl) | (intro _ _ _; rfl))) (@pss_cons _ _ _ _ _ (@ps_expr _ _ _ _ (@pm0 _ _ _ _ _ _ _ _ _ _ _ (by exact M_back) (by exact CA.cl) (by exact (hr.mono (by decide))) (pv 2) (by first | rfl | decide | exact Or.inl rfl | exact Or.inr rfl | (intro _; rfl) | (intro _ _; rfl) | (intro _ _ _; rfl))) (by first | rfl | decide | exact Or.inl rfl | exact Or.inr rfl | (intro _; rfl) | (intro _ _; rfl) | (intro _ _ _; rfl))) (@pss_cons _ _ _ _ _ (@ps_asg _ _ _ _ _ _ (@pm _ _ _ _ _ _ _ _ _ _ _ _ _ _ (by exact M_put) (by exact CA.cl) (by exact (hr.mono (by decide))) (pv 2) (@pa_consN _ _ _ _ _ (pv 4) pa_nil (by first | rfl | decide | exact Or.inl rfl | exact Or.inr rfl | (intro _; rfl) | (intro _ _; rfl) | (intro _ _ _; rfl))) (by first | rfl | decide | exact Or.inl rfl | exact Or.inr rfl | (intro _; rfl) | (intro _ _; rfl) | (intro _ _ _; rfl)) (by first | rfl | decide | exact Or.inl rfl | exact Or.inr rfl | (intro _; rfl) | (intro _ _; rfl) | (intro _ _ _; rfl)) (by first | rfl | decide | exact Or.inl rfl | exact Or.inr rfl | (intro _; rfl) | (intro _ _; rfl) | (intro _ _ _; rfl))) (@pg_tup _ _ _ _ _ _ (by rfl) (@pgs_cons _ _ _ _ _ (@pg_name _ _ (5) _ (by exact S.nd) (by rfl) (by first | exact Or.inl rfl | exact Or.inr rfl) (by first | rfl | decide | exact Or.inl rfl | exact Or.inr rfl | (intro _; rfl) | (intro _ _; rfl) | (intro _ _ _; rfl))) (@pgs_cons _ _ _ _ _ (@pg_name _ _ (6) _ (by exact S.nd) (by rfl) (by first | exact Or.inl rfl | exact Or.inr rfl) (by first | rfl | decide | exact Or.inl rfl | exact Or.inr rfl | (intro _; rfl) | (intro _ _; rfl) | (intro _ _ _; rfl))) pgs_nil (by first | rfl | decide | exact Or.inl rfl | exact Or.inr rfl | (intro _; rfl) | (intro _ _; rfl) | (intro _ _ _; rfl))) (by first | rfl | decide | exact Or.inl rfl | exact Or.inr rfl | (intro _; rfl) | (intro _ _; rfl) | (intro _ _ _; rfl))) (by first | rfl | decide | exact Or.inl rfl | exact Or.inr rfl | (intro _; rfl) | (intro _ _; rfl) | (intro _ _ _; rfl)) (by first | rfl | decide | exact Or.inl rfl | exact Or.inr rfl | (intro _; rfl) | (intro _ _; rfl) | (intro _ _ _; rfl))) (by first | rfl | decide | exact Or.inl rfl | exact Or.inr rfl | (intro _; rfl) | (intro _ _; rfl) | (intro _ _ _; rfl)) (by first | rfl | decide | exact Or.inl rfl | exact Or.inr rfl | (intro _; rfl) | (intro _ _; rfl) | (intro _ _ _; rfl)) (by first | rfl | decide | exact Or.inl rfl | exact Or.inr rfl | (intro _; rfl) | (intro _ _; rfl) | (intro _ _ _; rfl))) (@pss_cons _ _ _ _ _ (@ps_expr _ _ _ _ (@pe_bm _ _ _ _ _ _ _ _ _ _ _ _ (by exact PySem.F.plainAttrs_list) (by exact PySem.F.slot_list_append) (by exact PySem.F.type_list_append) mt_append (pv 3) (@pa_consN _ _ _ _ _ (pv 6) pa_nil (by first | rfl | decide | exact Or.inl rfl | exact Or.inr rfl | (intro _; rfl) | (intro _ _; rfl) | (intro _ _ _; rfl))) (by first | rfl | decide | exact Or.inl rfl | exact Or.inr rfl | (intro _; rfl) | (intro _ _; rfl) | (intro _ _ _; rfl)) (by first | rfl | decide | exact Or.inl rfl | exact Or.inr rfl | (intro _; rfl) | (intro _ _; rfl) | (intro _ _ _; rfl)) (by first | rfl | decide | exact Or.inl rfl | exact Or.inr rfl | (intro _; rfl) | (intro _ _; rfl) | (intro _ _ _; rfl)) (by first | rfl | decide | exact Or.inl rfl | exact Or.inr rfl | (intro _; rfl) | (intro _ _; rfl) | (intro _ _ _; rfl)) (by first | rfl | decide | exact Or.inl rfl | exact Or.inr rfl | (intro _; rfl) | (intro _ _; rfl) | (intro _ _ _; rfl))) (by first | rfl | decide | exact Or.inl rfl | exact Or.inr rfl | (intro _; rfl) | (intro _ _; rfl) | (intro _ _ _; rfl))) (@pss_cons _ _ _ _ _ (@ps_expr _ _ _ _ (@pm _ _ _ _ _ _ _ _ _ _ _ _ _ _ (by exact M_leave) (by exact CA.cl) (by exact (hr.mono (by decide))) (pv 2) (@pa_consN _ _ _ _ _ (pv 5) pa_nil (by first | rfl | decide | exact Or.inl rfl | exact Or.inr rfl | (intro _; rfl) | (intro _ _; rfl) | (intro _ _ _; rfl))) (by first | rfl | decide | exact Or.inl rfl | exact Or.inr rfl | (intro _; rfl) | (intro _ _; rfl) | (intro _ _ _; rfl)) (by first | rfl | decide | exact Or.inl rfl | exact Or.inr rfl | (intro _; rfl) | (intro _ _; rfl) | (intro _ _ _; rfl)) (by first | rfl | decide | exact Or.inl rfl | exact Or.inr rfl | (intro _; rfl) | (intro _ _; rfl) | (intro _ _ _; rfl))) (by first | rfl | decide | exact Or.inl rfl | exact Or.inr rfl | (intro _; rfl) | (intro _ _; rfl) | (intro _ _ _; rfl))) (@pss_one _ _ _ (@ps_expr _ _ _ _ (@pm0 _ _ _ _ _ _ _ _ _ _ _ (by exact M_back) (by exact CA.cl) (by exact (hr.mono (by decide))) (pv 2) (by first | rfl | decide | exact Or.inl rfl | exact Or.inr rfl | (intro _; rfl) | (intro _ _; rfl) | (intro _ _ _; rfl))) (by first | rfl | decide | exact Or.inl rfl | exact Or.inr rfl | (intro _; rfl) | (intro _ _; rfl) | (intro _ _ _; rfl))))))))) (by first | rfl | decide | exact Or.inl rfl | exact Or.inr rfl | (intro _; rfl) | (intro _ _; rfl) | (intro _ _ _; rfl))) (@pss_one _ _ _ (@ps_ret _ _ _ _ (pv 3)))))), ?_⟩
  refine ⟨_, rfl, fun p dx np ndx nxd => ?_⟩
  refine ⟨p, dx, n, rfl, upd_same, n1, n6, fun l d q H1 nl0 nd0 nq0 RA kp => ⟨rfl, ?_⟩⟩
  have s0 : Same H (upd (upd H dx (.own p)) p (.ins C dx [])) := fun b o e => by
    rw [upd_ne (ne_of_none e np), upd_ne (ne_of_none e ndx)]
    exact e
  have s1 : Same H H1 := fun b o e => kp b o (s0 b o e) (ne_of_none e np)
  have nl := s0.free nl0
  have nd := s0.free nd0
  have nq := s0.free nq0
  have RI1 : RoomIs C n.toNat H1 p l d q [] (byF (zs n.toNat) (dss.take 0)).1 (fun _ => none) 0 0 := ⟨⟨[], [], RA, .nil, rfl, List.nodup_nil, fun b => rfl⟩, .nil, fun x hx => absurd hx (by simp)⟩
  obtain ⟨⟨_, _, ⟨⟨dx1, hp1⟩, hl1, hd1, hq1, lq⟩, _⟩, _, _⟩ := id RI1
  refine ⟨lz 0 rfl, fun fo hfo => ?_⟩
  have a1 : fo ≠ p := fun z => by rw [z, hp1] at hfo; cases hfo
  have a2 : fo ≠ l := fun z => by rw [z, hl1] at hfo; cases hfo
  have a3 : fo ≠ d := fun z => by rw [z, hd1] at hfo; cases hfo
  have a4 : fo ≠ q := fun z => by rw [z, hq1] at hfo; cases hfo
  have hf0 : H fo = none := by
    cases e : H fo with
    | none => rfl
    | some o => rw [s1 _ _ e] at hfo; cases hfo
  have s2 := s1.trans (same_new hfo (.lst []))
  have no : ∀ {nb : Int} {m : Str}, ¬ m = "numbers" → ¬ m = "places" → ¬ m = "next_ball" → ¬ m = "deeds" → (flds l d nb q).lookup m = none := fun a b c e => flds_no _ _ _ _ a b c e
  refine ⟨_, rfl, a, rfl, ⟨_, SqL.of (s2 _ _ ha)⟩, for_list (xs := xs) (fun i σ H' => (∃ o4 o5 o6, σ = [some (.int n), some (.ref a), some (.ref p), some (.ref fo), o4, o5, o6]) ∧ Same H H' ∧ H' fo = some (.lst (iv (byF (zs n.toNat) (dss.take i)).2)) ∧ ∃ ds pl nb, RoomIs C n.toNat H' p l d q ds (byF (zs n.toNat) (dss.take i)).1 pl i nb ∧ ds.length = i) ⟨⟨_, _, _, rfl⟩, s2, upd_same, [], _, 0, RI1.same (same_new hfo _), rfl⟩ (fun i σ H' _ h => SqL.of (h.2.1 _ _ ha)) ?_ ?_⟩
  · rintro i v σ H2 hv ⟨⟨o4, o5, o6, rfl⟩, sm, hf, ds, pl, nb, RI, dsl⟩
    obtain ⟨t, dw, rfl, hd, ht⟩ := dr.get hv
    obtain ⟨hi, ed⟩ := List.getElem?_eq_some_iff.mp hd
    obtain ⟨d1, d2, d3⟩ := od dw (List.mem_of_getElem? hd)
    have bl := byF_len (zs n.toNat) (dss.take i)
    have bl2 : (byF (zs n.toNat) (dss.take i)).2.length = i := by rw [bl.2, List.length_take]; omega
    have tk := byF_take (zs n.toNat) hi
    rw [ed] at tk
    obtain ⟨⟨_, _, ⟨⟨dx2, hp2⟩, _⟩, _⟩, _, _⟩ := id RI
    generalize hns : (byF (zs n.toNat) (dss.take i)).1 = ns at RI
    refine ⟨_, rfl, p, dx2, _, rfl, hp2, no (by decide +kernel) (by decide +kernel) (by decide +kernel) (by decide +kernel), _, rfl, t, _, rfl, sm _ _ ht, fun t' ht' => ?_⟩
    have s3 := same_new ht' (.tup (iv dw).reverse)
    have RI3 := RI.same s3
    have e3 : (upd H2 t' (.tup (iv dw).reverse)) t' = some (.tup (iv dw.reverse)) := by
      rw [upd_same]
      show some (HO.tup (dw.map V.int).reverse) = some (HO.tup (dw.reverse.map V.int))
      rw [List.map_reverse]
    have sm3 := sm.trans s3
    have hf3 := s3 _ _ hf
    generalize upd H2 t' (.tup (iv dw).reverse) = H3 at s3 RI3 e3 sm3 hf3
    refine ⟨p, l, d, q, t', n.toNat, ds, ns, pl, i, nb, dw.reverse, rfl, RI3, e3, (by simpa using d1), (fun b hb => d3 b (by simpa using hb)), by omega, by omega, sm3 _ _ hT, fun r4 H4 RI4 hr4 x4 => ?_⟩
    have sm4 := sr_same sm3 np nl nd nq x4
    have hf4 := x4 fo _ hf3 a1 a2 a3 a4
    obtain ⟨⟨_, _, ⟨⟨dx4, hp4⟩, _⟩, _⟩, _, _⟩ := id RI4
    refine ⟨_, rfl, p, dx4, _, rfl, hp4, no (by decide +kernel) (by decide +kernel) (by decide +kernel) (by decide +kernel), p, l, d, q, n.toNat, _, ds, _, _, _, _, ns, pl, i, rfl, RI4, RI3.hs, by omega, fun H5 RI5 x5 => ?_⟩
    have sm5 := sr_same sm4 np nl nd nq x5
    have hf5 := x5 fo _ hf4 a1 a2 a3 a4
    obtain ⟨⟨_, _, ⟨⟨dx5, hp5⟩, _⟩, _⟩, _, _⟩ := id RI5
    refine ⟨_, rfl, p, dx5, _, rfl, hp5, no (by decide +kernel) (by decide +kernel) (by decide +kernel) (by decide +kernel), _, rfl, p, l, d, q, t, n.toNat, ds, ns, pl, i, nb + 1, dw, rfl, RI5, sm5 _ _ ht, d1, d3, by omega, by omega, sm5 _ _ hT, fun r6 H6 RI6 hr6 x6 => ?_⟩
    have sm6 := sr_same sm5 np nl nd nq x6
    have hf6 := x6 fo _ hf5 a1 a2 a3 a4
    refine ⟨r6, _, rfl, SqT.of hr6, rfl, _, _, rfl, _, _, rfl, rfl, ?_⟩
    refine ⟨_, rfl, .inl ⟨rfl, _, SqL.of hf6⟩, _, rfl, fo, _, .int (emF ns dw), rfl, rfl, hf6, (by rw [sizeLine_eq]; simp; omega), ?_⟩
    have RI7 := RI6.updL (zs := iv (byF (zs n.toNat) (dss.take i)).2 ++ [.int (emF ns dw)]) hf6 (Ne.symm a2) (Ne.symm a4)
    have sm7 := same_updN hf0 sm6 (.lst (iv (byF (zs n.toNat) (dss.take i)).2 ++ [.int (emF ns dw)]))
    have hf7 : (upd H6 fo (.lst (iv (byF (zs n.toNat) (dss.take i)).2 ++ [.int (emF ns dw)]))) fo = _ := upd_same
    generalize upd H6 fo (.lst (iv (byF (zs n.toNat) (dss.take i)).2 ++ [.int (emF ns dw)])) = H7 at RI7 sm7 hf7
    obtain ⟨⟨_, _, ⟨⟨dx7, hp7⟩, _⟩, _⟩, _, _⟩ := id RI7
    refine ⟨_, rfl, p, dx7, _, rfl, hp7, no (by decide +kernel) (by decide +kernel) (by decide +kernel) (by decide +kernel), _, rfl, p, l, d, q, n.toNat, _, _, _, i, _, nb + 1, emF ns dw, rfl, RI7, (by unfold updf; rw [if_pos rfl]), (by simp; omega), fun H8 RI8 x8 => ?_⟩
    have sm8 := sr_same sm7 np nl nd nq x8
    have hf8 := x8 fo _ hf7 a1 a2 a3 a4
    obtain ⟨⟨_, _, ⟨⟨dx8, hp8⟩, _⟩, _⟩, _, _⟩ := id RI8
    refine ⟨_, rfl, p, dx8, _, rfl, hp8, no (by decide +kernel) (by decide +kernel) (by decide +kernel) (by decide +kernel), p, l, d, q, n.toNat, _, _, _, _, _, _, _, _, _, rfl, RI8, RI7.hs, (by simp; omega), fun H9 RI9 x9 => ?_⟩
    have sm9 := sr_same sm8 np nl nd nq x9
    have hf9 := x9 fo _ hf8 a1 a2 a3 a4
    refine ⟨⟨_, _, _, rfl⟩, sm9, ?_, (true, nb + 1, emF ns dw) :: ds, updf pl (nb + 1) (some (emF ns dw)), nb + 1 + 1, ?_, by simp; omega⟩
    · rw [hf9, tk]
      unfold stepF
      rw [hns]
      simp
    · rw [tk]
      unfold stepF
      rw [hns]
      exact RI9
  · rintro σ H2 ⟨⟨o4, o5, o6, rfl⟩, sm, hf, _⟩
    rw [dl, List.take_length] at hf
    exact ⟨_, rfl, k fo H2 sm hf⟩
end
end My

set_option Elab.async false
set_option linter.all false
set_option maxRecDepth 100000
set_option maxHeartbeats 4000000
namespace My
open PySem L2 MA
theorem RoomIs.keepX {C : Addr} {n m : Nat} {H H' : Hp} {pn p l d q : Addr} {ds : List Deed} {ns : List Int} {pl : Int → Option Int} {sz : Nat} {nb : Int} (R : RoomIs C n H p l d q ds ns pl sz nb) (pen : Pen H pn m) (x : SameX pn H H') (nd : d ≠ pn) : RoomIs C n H' p l d q ds ns pl sz nb := by
  obtain ⟨⟨kvs, dv, ⟨⟨dx, h1⟩, h2, h3, h4, h5⟩, D, r⟩, hs, lo⟩ := R
  exact ⟨⟨kvs, dv, ⟨⟨dx, pen.keep x h1⟩, pen.keep x h2, x.all d _ h3 nd, pen.keep x h4, h5⟩, D.mono fun a xs e => pen.keep x e, r⟩, hs, lo⟩
theorem Hist.tail {n : Nat} {x : Deed} {ds : List Deed} {ns : List Int} {pl : Int → Option Int} {sz : Nat} (h : Hist n (x :: ds) ns pl sz) : ∃ ns0 pl0 sz0, Hist n ds ns0 pl0 sz0 := by
  cases h with
  | put h' _ _ _ => exact ⟨_, _, _, h'⟩
  | leave h' _ => exact ⟨_, _, _, h'⟩
/-- balls that leave -/
def box (bs : List Int) (b : Int) : Int := bs.getD b.toNat 0
def lvD (bs hs : List Int) : List Deed := (hs.map fun b => ((false, b, box bs b) : Deed)).reverse ++ pd bs
theorem lvD_snoc (bs hs : List Int) (b : Int) : lvD bs (hs ++ [b]) = (false, b, box bs b) :: lvD bs hs := by simp [lvD]
theorem lvD_drop (bs hs : List Int) : (lvD bs hs).drop hs.length = pd bs := by
  unfold lvD
  rw [List.drop_append_of_le_length (by simp), List.drop_of_length_le (by simp)]
  rfl
def nsL (ns bs hs : List Int) : List Int := hs.foldl (fun ns b => dec ns (box bs b)) ns
theorem nsL_snoc (ns bs hs : List Int) (b : Int) : nsL ns bs (hs ++ [b]) = dec (nsL ns bs hs) (box bs b) := by simp [nsL]
theorem dec_comm (ns : List Int) (x y : Int) : dec (dec ns x) y = dec (dec ns y) x := by
  unfold dec
  by_cases e : x.toNat = y.toNat
  · rw [e]
  · have g : ∀ (l : List Int) (i j : Nat) (v : Int), i ≠ j → (l.set i v).getD j 0 = l.getD j 0 := fun l i j v h => by
      simp only [List.getD_eq_getElem?_getD]
      rw [List.getElem?_set_ne h]
    rw [g _ _ _ _ e, g _ _ _ _ (Ne.symm e), List.set_comm _ _ e]
theorem nsL_perm (ns bs : List Int) {hs gs : List Int} (h : hs.Perm gs) : nsL ns bs hs = nsL ns bs gs := by
  unfold nsL
  exact h.foldl_eq' (f := fun ns b => dec ns (box bs b)) (fun x _ y _ z => dec_comm _ _ _) ns
def plL (bs hs : List Int) : Int → Option Int := fun j => if j ∈ hs then none else plF bs j
theorem plL_snoc (bs hs : List Int) (b : Int) : updf (plL bs hs) b none = plL bs (hs ++ [b]) := by
  funext j
  unfold updf plL
  by_cases e : j = b
  · subst e; simp
  · rw [if_neg e]
    by_cases c : j ∈ hs
    · rw [if_pos c, if_pos (by simp [c])]
    · rw [if_neg c, if_neg (by simp [c, e])]
theorem plF_at {bs : List Int} {b : Int} (h0 : 0 ≤ b) (h1 : b < bs.length) : plF bs b = some (box bs b) := by
  unfold plF box
  rw [if_pos h0, List.getElem?_eq_getElem (by omega), getD_of (by omega)]
theorem cut1 (xs : List V) : cutV xs none (some 1) = xs.take 1 := by
  cases xs with
  | nil => rfl
  | cons a r => exact cut_take (k := 1) (by simp)
theorem by1 (ns : List Int) (dss : List (List Int)) (h : dss ≠ []) : (byF ns (dss.take 1)).2 = [emF ns (dss.getD 0 [])] := by
  cases dss with
  | nil => exact absurd rfl h
  | cons a r => rfl
theorem op_repS {X : Cx} : OpR X (binaryOp .Mult) (fun x y H Q => ∃ l k xs, x = .ref l ∧ y = .int k ∧ H l = some (.tup xs) ∧ xs ≠ [] ∧ 0 ≤ k ∧ k ≤ 1000 ∧ xs.length ≤ 1000 ∧ ∀ c H', Same H H' → H' c = some (.tup (List.replicate k.toNat xs).flatten) → Q (.ref c) H') := by
  intro pins s σ H x y v u Q I rx ry h
  obtain ⟨l, k, xs, e1, e2, hl, hne, k0, k1, hx, q⟩ := h
  refine op_repT pins s σ H x y v u Q I rx ry ⟨l, k, xs, e1, e2, hl, hne, k0, k1, hx, fun e => ?_, fun _ p hp => ?_⟩
  · subst e; exact q l H (Same.refl _) (by simpa using hl)
  · exact q p _ (same_new hp _) upd_same
/-- all but the room and one list -/
def SR5 (p l d q sl : Addr) (H H' : Hp) : Prop := ∀ b o, H b = some o → b ≠ p → b ≠ l → b ≠ d → b ≠ q → b ≠ sl → H' b = some o
theorem SR5.sr {p l d q sl : Addr} {H H1 H2 : Hp} (a : SR5 p l d q sl H H1) (b : SR p l d q H1 H2) : SR5 p l d q sl H H2 := fun c o e h1 h2 h3 h4 h5 => b c o (a c o e h1 h2 h3 h4 h5) h1 h2 h3 h4
theorem SR5.same {p l d q sl : Addr} {H H1 H2 : Hp} (a : SR5 p l d q sl H H1) (b : Same H1 H2) : SR5 p l d q sl H H2 := fun c o e h1 h2 h3 h4 h5 => b c o (a c o e h1 h2 h3 h4 h5)
theorem SR5.upd {p l d q sl : Addr} {H H1 : Hp} (a : SR5 p l d q sl H H1) (o : HO) : SR5 p l d q sl H (L2.upd H1 sl o) := fun c u e h1 h2 h3 h4 h5 => by rw [upd_ne h5]; exact a c u e h1 h2 h3 h4 h5
theorem penX_sr5 {H H1 H2 : Hp} {pn p l d q sl : Addr} {n m : Nat} (np : H p = none) (nl : H l = none) (nd : H d = none) (nq : H q = none) (ns : H sl = none) (hp : Pen H pn n) (x : SameX pn H H1) (hp1 : Pen H1 pn m) (r : SR5 p l d q sl H1 H2) : Pen H2 pn m ∧ SameX pn H H2 := by
  obtain ⟨c, ms, a, l', h1, h2, _, _⟩ := hp
  obtain ⟨c', ns', a', l'', h1', h2', h3', h4'⟩ := hp1
  obtain ⟨a'', l3, e⟩ := x.pen c a l' h1
  rw [h1'] at e
  have ec : c' = c := by
    have e' := congrArg (fun o => match o with | some (HO.dK ((_, V.ref q) :: _)) => q | _ => c) e
    exact e'
  subst ec
  have k1 := r pn _ h1' (ne_of_none h1 np) (ne_of_none h1 nl) (ne_of_none h1 nd) (ne_of_none h1 nq) (ne_of_none h1 ns)
  refine ⟨⟨c', ns', a', l'', k1, r c' _ h2' (ne_of_none h2 np) (ne_of_none h2 nl) (ne_of_none h2 nd) (ne_of_none h2 nq) (ne_of_none h2 ns), h3', h4'⟩, ⟨fun b u hb hbp => r b u (x.all b u hb hbp) (ne_of_none hb np) (ne_of_none hb nl) (ne_of_none hb nd) (ne_of_none hb nq) (ne_of_none hb ns), fun c2 a2 l2 e2 => ?_⟩⟩
  rw [h1] at e2
  cases e2
  exact ⟨_, _, k1⟩
theorem SameX.free {pn b : Addr} {H H' : Hp} (x : SameX pn H H') (h : H' b = none) (ne : b ≠ pn) : H b = none := by
  cases e : H b with
  | none => rfl
  | some o => rw [x.all b o e ne] at h; cases h
theorem RoomIs.lst {C : Addr} {n : Nat} {H H' : Hp} {p l d q : Addr} {ds : List Deed} {ns : List Int} {pl : Int → Option Int} {sz : Nat} {nb : Int} (R : RoomIs C n H p l d q ds ns pl sz nb) (s : SR p l d q H H') {t : Addr} {xs : List V} (e : H t = some (.lst xs)) (hl : t ≠ l) (hq : t ≠ q) : H' t = some (.lst xs) := by
  obtain ⟨⟨kvs, dv, ⟨⟨dx, h1⟩, h2, h3, h4, h5⟩, _⟩, _⟩ := R
  exact s t _ e (ne_of e h1 (by intro z; cases z)) hl (ne_of e h3 (by intro z; cases z)) hq
theorem RoomIs.pos {C : Addr} {n : Nat} {H : Hp} {p l d q : Addr} {ds : List Deed} {ns : List Int} {pl : Int → Option Int} {sz : Nat} {nb b bx : Int} (R : RoomIs C n H p l d q ds ns pl sz nb) (h : pl b = some bx) : ∃ sz', sz = sz' + 1 := by
  obtain ⟨⟨kvs, dv, _, _, kl, _, kval⟩, _⟩ := R
  have hv : valV kvs (Sum.inl b : Key) = some (.int bx) := by rw [kval, h]; rfl
  have := valV_in hv
  cases kvs with
  | nil => simp at this
  | cons a r => exact ⟨r.length, by rw [← kl]; rfl⟩
end My

set_option Elab.async false
set_option linter.all false
set_option maxRecDepth 100000
set_option maxHeartbeats 4000000
namespace My
open PySem L2 MA
theorem joinH {C R : Hp → Prop} {G : Prop} (main : (∀ h, C h → R h) → G) (key : ∀ h, C h → R h) : G := main key
section
variable {P : Program} {w : World} {K : PySem.W.Frag} {mg : Str → Option Value} {base : Heap}
def spLR (C T : Addr) (z : Str) : Sp := fun vs H Q _ => ∃ (pn dl gl : Addr) (n : Int) (xs : List V) (dss : List (List Int)) (gs : List Int) (m : Nat), vs = [.ref pn, .int n, .ref dl, .ref gl] ∧ Pen H pn m ∧ m < 50000 ∧ 1 ≤ n ∧ n ≤ 6 ∧ H dl = some (.lst xs) ∧ Drs H xs dss ∧ OkD n.toNat dss ∧ xs.length ≤ 30 ∧ H gl = some (.lst (iv gs)) ∧ gs.Nodup ∧ gs.length ≤ 30 ∧ (∀ g ∈ gs, 0 ≤ g ∧ g < dss.length) ∧ H T = some (.tab z) ∧
  ∀ (H' : Hp), Pen H' pn (m + 120) → SameX pn H H' → Q (.bl true) H'
theorem ok_lr {C D : Addr} (R : RmT K mg C) (T : Txt2 mg) (M_put : MCal P w K mg base C "put" ["self", "draw"] 4 (spPut C D (qLam "emptiest_of"))) (M_back : MCal P w K mg base C "back" ["self"] 2 (spBack C)) (M_leave : MCal P w K mg base C "leave" ["self", "ball"] 3 (spLeave C)) (M_where : MCal P w K mg base C "where" ["self", "ball"] 2 (spWhereR C)) (M_stand : MCal P w K mg base C "stand" ["self"] 1 (spStand C))
    (C_by_draws : Cal P w K mg base "by_draws" ["stand", "draws"] 4 (spBy D (qLam "emptiest_of"))) (C_l_order : Cal P w K mg base "_law_order" ["_law_pen_here", "_law_some"] 2 spOrder) (C_l_filled : Cal P w K mg base "_law_filled" ["_law_n", "_law_draws_here"] 5 (spFilled C D (qLam "emptiest_of")))
    (F : FunAt K mg "_law_left_right" ["_law_pen_here", "_law_n", "_law_draws_here", "_law_gone"] s_l_left_right) : Cal P w K mg base "_law_left_right" ["_law_pen_here", "_law_n", "_law_draws_here", "_law_gone"] 6 (spLR C D (qLam "emptiest_of")) := by
  have S := sc_l_left_right
  have CA := R.ca
  refine F.cal sc_l_left_right (fun vs H Q E h => ?_) (fun f cdv A outer s H vs Q E hr h => ?_)
  · obtain ⟨pn, dl, gl, n, xs, dss, gs, m, rfl, _⟩ := h; rfl
  obtain ⟨pn, dl, gl, n, xs, dss, gs, m, rfl, pen, hm, n1, n6, hdl, dr, od, x30, hgl, gnd, g30, grng, hT, k⟩ := h
  have hu := hr.units0
  have dlen := dr.len
  have nz : (n.toNat : Int) = n := by omega
  refine ⟨_, (@pss_cons _ _ _ _ _ (@ps_set _ _ (4) _ _ _ _ (by exact S.nd) (by rfl) (by first | exact Or.inl rfl | exact Or.inr rfl) (@pe_lst _ _ _ _ pa_nil) (by first | rfl | decide | exact Or.inl rfl | exact Or.inr rfl | (intro _; rfl) | (intro _ _; rfl) | (intro _ _ _; rfl)) (by first | rfl | decide | exact Or.inl rfl | exact Or.inr rfl | (intro _; rfl) | (intro _ _; rfl) | (intro _ _ _; rfl))) (@pss_cons _ _ _ _ _ (@ps_for _ _ _ _ _ _ _ _ (by exact PassesOwn.never) (by rfl) (@pi_range1 _ _ _ _ _ _ (by rfl) (by exact T.z_range) (@pa_consN _ _ _ _ _ pe_int pa_nil (by first | rfl | decide | exact Or.inl rfl | exact Or.inr rfl | (intro _; rfl) | (intro _ _; rfl) | (intro _ _ _; rfl))) (by first | rfl | decide | exact Or.inl rfl | exact Or.inr rfl | (intro _; rfl) | (intro _ _; rfl) | (intro _ _ _; rfl))) (@pg_name _ _ (5) _ (by exact S.nd) (by rfl) (by first | exact Or.inl rfl | exact Or.inr rfl) (by first | rfl | decide | exact Or.inl rfl | exact Or.inr rfl | (intro _; rfl) | (intro _ _; rfl) | (intro _ _ _; rfl))) (@pss_cons _ _ _ _ _ (@ps_asg _ _ _ _ _ _ (@cc _ _ _ _ _ _ _ _ _ _ (by exact C_l_filled) (by exact (hr.mono (by decide))) (@pa_consN _ _ _ _ _ (pv 1) (@pa_consN _ _ _ _ _ (pv 2) pa_nil (by first | rfl | decide | exact Or.inl rfl | exact Or.inr rfl | (intro _; rfl) | (intro _ _; rfl) | (intro _ _ _; rfl))) (by first | rfl | decide | exact Or.inl rfl | exact Or.inr rfl | (intro _; rfl) | (intro _ _; rfl) | (intro _ _ _; rfl))) (by first | rfl | decide | exact Or.inl rfl | exact Or.inr rfl | (intro _; rfl) | (intro _ _; rfl) | (intro _ _ _; rfl)) (by first | rfl | decide | exact Or.inl rfl | exact Or.inr rfl | (intro _; rfl) | (intro _ _; rfl) | (intro _ _ _; rfl)) (by first | rfl | decide | exact Or.inl rfl | exact Or.inr rfl | (intro _; rfl) | (intro _ _; rfl) | (intro _ _ _; rfl)) (by first | rfl | decide | exact Or.inl rfl | exact Or.inr rfl | (intro _; rfl) | (intro _ _; rfl) | (intro _ _ _; rfl))) (@pg_tup _ _ _ _ _ _ (by rfl) (@pgs_cons _ _ _ _ _ (@pg_name _ _ (9) _ (by exact S.nd) (by rfl) (by first | exact Or.inl rfl | exact Or.inr rfl) (by first | rfl | decide | exact Or.inl rfl | exact Or.inr rfl | (intro _; rfl) | (intro _ _; rfl) | (intro _ _ _; rfl))) (@pgs_cons _ _ _ _ _ (@pg_name _ _ (10) _ (by exact S.nd) (by rfl) (by first | exact Or.inl rfl | exact Or.inr rfl) (by first | rfl | decide | exact Or.inl rfl | exact Or.inr rfl | (intro _; rfl) | (intro _ _; rfl) | (intro _ _ _; rfl))) pgs_nil (by first | rfl | decide | exact Or.inl rfl | exact Or.inr rfl | (intro _; rfl) | (intro _ _; rfl) | (intro _ _ _; rfl))) (by first | rfl | decide | exact Or.inl rfl | exact Or.inr rfl | (intro _; rfl) | (intro _ _; rfl) | (intro _ _ _; rfl))) (by first | rfl | decide | exact Or.inl rfl | exact Or.inr rfl | (intro _; rfl) | (intro _ _; rfl) | (intro _ _ _; rfl)) (by first | rfl | decide | exact Or.inl rfl | exact Or.inr rfl | (intro _; rfl) | (intro _ _; rfl) | (intro _ _ _; rfl))) (by first | rfl | decide | exact Or.inl rfl | exact Or.inr rfl | (intro _; rfl) | (intro _ _; rfl) | (intro _ _ _; rfl)) (by first | rfl | decide | exact Or.inl rfl | exact Or.inr rfl | (intro _; rfl) | (intro _ _; rfl) | (intro _ _ _; rfl)) (by first | rfl | decide | exact Or.inl rfl | exact Or.inr rfl | (intro _; rfl) | (intro _ _; rfl) | (intro _ _ _; rfl))) (@pss_cons _ _ _ _ _ (@ps_set _ _ (6) _ _ _ _ (by exact S.nd) (by rfl) (by first | exact Or.inl rfl | exact Or.inr rfl) (@pm0 _ _ _ _ _ _ _ _ _ _ _ (by exact M_stand) (by exact CA.cl) (by exact (hr.mono (by decide))) (pv 9) (by first | rfl | decide | exact Or.inl rfl | exact Or.inr rfl | (intro _; rfl) | (intro _ _; rfl) | (intro _ _ _; rfl))) (by first | rfl | decide | exact Or.inl rfl | exact Or.inr rfl | (intro _; rfl) | (intro _ _; rfl) | (intro _ _ _; rfl)) (by first | rfl | decide | exact Or.inl rfl | exact Or.inr rfl | (intro _; rfl) | (intro _ _; rfl) | (intro _ _ _; rfl))) (@pss_cons _ _ _ _ _ (@ps_for _ _ _ _ _ _ _ _ (by exact PassesOwn.never) (by rfl) (@pi_list _ _ _ _ (@cc _ _ _ _ _ _ _ _ _ _ (by exact C_l_order) (by exact (hr.mono (by decide))) (@pa_consN _ _ _ _ _ (pv 0) (@pa_consN _ _ _ _ _ (pv 3) pa_nil (by first | rfl | decide | exact Or.inl rfl | exact Or.inr rfl | (intro _; rfl) | (intro _ _; rfl) | (intro _ _ _; rfl))) (by first | rfl | decide | exact Or.inl rfl | exact Or.inr rfl | (intro _; rfl) | (intro _ _; rfl) | (intro _ _ _; rfl))) (by first | rfl | decide | exact Or.inl rfl | exact Or.inr rfl | (intro _; rfl) | (intro _ _; rfl) | (intro _ _ _; rfl)) (by first | rfl | decide | exact Or.inl rfl | exact Or.inr rfl | (intro _; rfl) | (intro _ _; rfl) | (intro _ _ _; rfl)) (by first | rfl | decide | exact Or.inl rfl | exact Or.inr rfl | (intro _; rfl) | (intro _ _; rfl) | (intro _ _ _; rfl)) (by first | rfl | decide | exact Or.inl rfl | exact Or.inr rfl | (intro _; rfl) | (intro _ _; rfl) | (intro _ _ _; rfl)))) (@pg_name _ _ (7) _ (by exact S.nd) (by rfl) (by first | exact Or.inl rfl | exact Or.inr rfl) (by first | rfl | decide | exact Or.inl rfl | exact Or.inr rfl | (intro _; rfl) | (intro _ _; rfl) | (intro _ _ _; rfl))) (@pss_one _ _ _ (@ps_if _ _ _ _ _ _ _ _ (@PW.pt _ _ _ (@pw_or _ _ _ _ _ _ _ (@pt_cmpR _ _ _ _ _ _ _ _ op_ne (@pm _ _ _ _ _ _ _ _ _ _ _ _ _ _ (by exact M_where) (by exact CA.cl) (by exact (hr.mono (by decide))) (pv 9) (@pa_consN _ _ _ _ _ (pv 7) pa_nil (by first | rfl | decide | exact Or.inl rfl | exact Or.inr rfl | (intro _; rfl) | (intro _ _; rfl) | (intro _ _ _; rfl))) (by first | rfl | decide | exact Or.inl rfl | exact Or.inr rfl | (intro _; rfl) | (intro _ _; rfl) | (intro _ _ _; rfl)) (by first | rfl | decide | exact Or.inl rfl | exact Or.inr rfl | (intro _; rfl) | (intro _ _; rfl) | (intro _ _ _; rfl)) (by first | rfl | decide | exact Or.inl rfl | exact Or.inr rfl | (intro _; rfl) | (intro _ _; rfl) | (intro _ _ _; rfl))) (@pe_ix _ _ _ _ _ _ _ ix_tup (@pe_ix _ _ _ _ _ _ _ ix_list (pv 10) (pv 7) (by exact (fun _ _ => rfl))) pe_int (by exact (fun _ _ => rfl))) (by exact (nomark _))) (@pw_or1 _ _ _ _ (@pt_cmpR _ _ _ _ _ _ _ _ op_ne (@pm _ _ _ _ _ _ _ _ _ _ _ _ _ _ (by exact M_leave) (by exact CA.cl) (by exact (hr.mono (by decide))) (pv 9) (@pa_consN _ _ _ _ _ (pv 7) pa_nil (by first | rfl | decide | exact Or.inl rfl | exact Or.inr rfl | (intro _; rfl) | (intro _ _; rfl) | (intro _ _ _; rfl))) (by first | rfl | decide | exact Or.inl rfl | exact Or.inr rfl | (intro _; rfl) | (intro _ _; rfl) | (intro _ _ _; rfl)) (by first | rfl | decide | exact Or.inl rfl | exact Or.inr rfl | (intro _; rfl) | (intro _ _; rfl) | (intro _ _ _; rfl)) (by first | rfl | decide | exact Or.inl rfl | exact Or.inr rfl | (intro _; rfl) | (intro _ _; rfl) | (intro _ _ _; rfl))) (@pe_ix _ _ _ _ _ _ _ ix_tup (@pe_ix _ _ _ _ _ _ _ ix_list (pv 10) (pv 7) (by exact (fun _ _ => rfl))) pe_int (by exact (fun _ _ => rfl))) (by exact (nomark _)))))) (@pss_one _ _ _ (@ps_ret _ _ _ _ pe_bl)) pss_nil)) (by first | rfl | decide | exact Or.inl rfl | exact Or.inr rfl | (intro _; rfl) | (intro _ _; rfl) | (intro _ _ _; rfl))) (@pss_cons _ _ _ _ _ (@ps_expr _ _ _ _ (@pe_bm _ _ _ _ _ _ _ _ _ _ _ _ (by exact PySem.F.plainAttrs_list) (by exact PySem.F.slot_list_append) (by exact PySem.F.type_list_append) mt_append (pv 4) (@pa_consN _ _ _ _ _ (@pm0 _ _ _ _ _ _ _ _ _ _ _ (by exact M_stand) (by exact CA.cl) (by exact (hr.mono (by decide))) (pv 9) (by first | rfl | decide | exact Or.inl rfl | exact Or.inr rfl | (intro _; rfl) | (intro _ _; rfl) | (intro _ _ _; rfl))) pa_nil (by first | rfl | decide | exact Or.inl rfl | exact Or.inr rfl | (intro _; rfl) | (intro _ _; rfl) | (intro _ _ _; rfl))) (by first | rfl | decide | exact Or.inl rfl | exact Or.inr rfl | (intro _; rfl) | (intro _ _; rfl) | (intro _ _ _; rfl)) (by first | rfl | decide | exact Or.inl rfl | exact Or.inr rfl | (intro _; rfl) | (intro _ _; rfl) | (intro _ _ _; rfl)) (by first | rfl | decide | exact Or.inl rfl | exact Or.inr rfl | (intro _; rfl) | (intro _ _; rfl) | (intro _ _ _; rfl)) (by first | rfl | decide | exact Or.inl rfl | exact Or.inr rfl | (intro _; rfl) | (intro _ _; rfl) | (intro _ _ _; rfl)) (by first | rfl | decide | exact Or.inl rfl | exact Or.inr rfl | (intro _; rfl) | (intro _ _; rfl) | (intro _ _ _; rfl))) (by first | rfl | decide | exact Or.inl rfl | exact Or.inr rfl | (intro _; rfl) | (intro _ _; rfl) | (intro _ _ _; rfl))) (@pss_cons _ _ _ _ _ (@ps_asg _ _ _ _ _ _ (@cc _ _ _ _ _ _ _ _ _ _ (by exact C_by_draws) (by exact (hr.mono (by decide))) (@pa_consN _ _ _ _ _ (@pe_ix _ _ _ _ _ _ _ ix_list (pv 4) (@pe_un _ _ _ _ _ _ un_neg pe_int) (by exact (fun _ _ => rfl))) (@pa_consN _ _ _ _ _ (@pe_slice _ _ _ _ _ _ _ _ _ _ sl_list (pv 2) po_none (@po_some _ _ _ pe_int)) pa_nil (by first | rfl | decide | exact Or.inl rfl | exact Or.inr rfl | (intro _; rfl) | (intro _ _; rfl) | (intro _ _ _; rfl))) (by first | rfl | decide | exact Or.inl rfl | exact Or.inr rfl | (intro _; rfl) | (intro _ _; rfl) | (intro _ _ _; rfl))) (by first | rfl | decide | exact Or.inl rfl | exact Or.inr rfl | (intro _; rfl) | (intro _ _; rfl) | (intro _ _ _; rfl)) (by first | rfl | decide | exact Or.inl rfl | exact Or.inr rfl | (intro _; rfl) | (intro _ _; rfl) | (intro _ _ _; rfl)) (by first | rfl | decide | exact Or.inl rfl | exact Or.inr rfl | (intro _; rfl) | (intro _ _; rfl) | (intro _ _ _; rfl)) (by first | rfl | decide | exact Or.inl rfl | exact Or.inr rfl | (intro _; rfl) | (intro _ _; rfl) | (intro _ _ _; rfl))) (@pg_tup _ _ _ _ _ _ (by rfl) (@pgs_cons _ _ _ _ _ (@pg_name _ _ (11) _ (by exact S.nd) (by rfl) (by first | exact Or.inl rfl | exact Or.inr rfl) (by first | rfl | decide | exact Or.inl rfl | exact Or.inr rfl | (intro _; rfl) | (intro _ _; rfl) | (intro _ _ _; rfl))) (@pgs_cons _ _ _ _ _ (@pg_name _ _ (12) _ (by exact S.nd) (by rfl) (by first | exact Or.inl rfl | exact Or.inr rfl) (by first | rfl | decide | exact Or.inl rfl | exact Or.inr rfl | (intro _; rfl) | (intro _ _; rfl) | (intro _ _ _; rfl))) pgs_nil (by first | rfl | decide | exact Or.inl rfl | exact Or.inr rfl | (intro _; rfl) | (intro _ _; rfl) | (intro _ _ _; rfl))) (by first | rfl | decide | exact Or.inl rfl | exact Or.inr rfl | (intro _; rfl) | (intro _ _; rfl) | (intro _ _ _; rfl))) (by first | rfl | decide | exact Or.inl rfl | exact Or.inr rfl | (intro _; rfl) | (intro _ _; rfl) | (intro _ _ _; rfl)) (by first | rfl | decide | exact Or.inl rfl | exact Or.inr rfl | (intro _; rfl) | (intro _ _; rfl) | (intro _ _ _; rfl))) (by first | rfl | decide | exact Or.inl rfl | exact Or.inr rfl | (intro _; rfl) | (intro _ _; rfl) | (intro _ _ _; rfl)) (by first | rfl | decide | exact Or.inl rfl | exact Or.inr rfl | (intro _; rfl) | (intro _ _; rfl) | (intro _ _ _; rfl)) (by first | rfl | decide | exact Or.inl rfl | exact Or.inr rfl | (intro _; rfl) | (intro _ _; rfl) | (intro _ _ _; rfl))) (@pss_cons _ _ _ _ _ (@ps_if _ _ _ _ _ _ _ _ (@PW.pt _ _ _ (@pw_and _ _ _ _ _ _ _ (@pt_cmpR _ _ _ _ _ _ _ _ (op_neE hu) (pv 2) (@pe_lst _ _ _ _ pa_nil) (by exact (nomark _))) (@pw_and1 _ _ _ _ (@pt_cmpR _ _ _ _ _ _ _ _ (op_neI hu) (@pe_slice _ _ _ _ _ _ _ _ _ _ sl_tupS (@pm _ _ _ _ _ _ _ _ _ _ _ _ _ _ (by exact M_put) (by exact CA.cl) (by exact (hr.mono (by decide))) (pv 9) (@pa_consN _ _ _ _ _ (@pe_ix _ _ _ _ _ _ _ ix_list (pv 2) pe_int (by exact (fun _ _ => rfl))) pa_nil (by first | rfl | decide | exact Or.inl rfl | exact Or.inr rfl | (intro _; rfl) | (intro _ _; rfl) | (intro _ _ _; rfl))) (by first | rfl | decide | exact Or.inl rfl | exact Or.inr rfl | (intro _; rfl) | (intro _ _; rfl) | (intro _ _ _; rfl)) (by first | rfl | decide | exact Or.inl rfl | exact Or.inr rfl | (intro _; rfl) | (intro _ _; rfl) | (intro _ _ _; rfl)) (by first | rfl | decide | exact Or.inl rfl | exact Or.inr rfl | (intro _; rfl) | (intro _ _; rfl) | (intro _ _ _; rfl))) (@po_some _ _ _ pe_int) po_none) (@pe_callTy _ _ _ _ _ _ _ _ _ call_tuple_of (by rfl) (by exact T.z_tuple) (by exact bt_tuple) (@pa_consN _ _ _ _ _ (pv 12) pa_nil (by first | rfl | decide | exact Or.inl rfl | exact Or.inr rfl | (intro _; rfl) | (intro _ _; rfl) | (intro _ _ _; rfl))) (by first | rfl | decide | exact Or.inl rfl | exact Or.inr rfl | (intro _; rfl) | (intro _ _; rfl) | (intro _ _ _; rfl)) (by first | rfl | decide | exact Or.inl rfl | exact Or.inr rfl | (intro _; rfl) | (intro _ _; rfl) | (intro _ _ _; rfl)) (by first | rfl | decide | exact Or.inl rfl | exact Or.inr rfl | (intro _; rfl) | (intro _ _; rfl) | (intro _ _ _; rfl)) (by first | rfl | decide | exact Or.inl rfl | exact Or.inr rfl | (intro _; rfl) | (intro _ _; rfl) | (intro _ _ _; rfl))) (by exact (nomark _)))))) (@pss_one _ _ _ (@ps_ret _ _ _ _ pe_bl)) pss_nil) (@pss_cons _ _ _ _ _ (@ps_for _ _ _ _ _ _ _ _ (by exact PassesOwn.never) (by rfl) (@pi_range1 _ _ _ _ _ _ (by rfl) (by exact T.z_range) (@pa_consN _ _ _ _ _ (@pe_op _ _ _ _ _ _ _ _ op_add (@pe_callB _ _ _ _ _ _ _ _ _ call_len_seq (by rfl) (by exact T.z_len) (by exact bt_len) (@pa_consN _ _ _ _ _ (pv 3) pa_nil (by first | rfl | decide | exact Or.inl rfl | exact Or.inr rfl | (intro _; rfl) | (intro _ _; rfl) | (intro _ _ _; rfl))) (by first | rfl | decide | exact Or.inl rfl | exact Or.inr rfl | (intro _; rfl) | (intro _ _; rfl) | (intro _ _ _; rfl)) (by first | rfl | decide | exact Or.inl rfl | exact Or.inr rfl | (intro _; rfl) | (intro _ _; rfl) | (intro _ _ _; rfl)) (by first | rfl | decide | exact Or.inl rfl | exact Or.inr rfl | (intro _; rfl) | (intro _ _; rfl) | (intro _ _ _; rfl)) (by first | rfl | decide | exact Or.inl rfl | exact Or.inr rfl | (intro _; rfl) | (intro _ _; rfl) | (intro _ _ _; rfl))) (@pe_callB _ _ _ _ _ _ _ _ _ call_len_seq (by rfl) (by exact T.z_len) (by exact bt_len) (@pa_consN _ _ _ _ _ (@pe_slice _ _ _ _ _ _ _ _ _ _ sl_list (pv 2) po_none (@po_some _ _ _ pe_int)) pa_nil (by first | rfl | decide | exact Or.inl rfl | exact Or.inr rfl | (intro _; rfl) | (intro _ _; rfl) | (intro _ _ _; rfl))) (by first | rfl | decide | exact Or.inl rfl | exact Or.inr rfl | (intro _; rfl) | (intro _ _; rfl) | (intro _ _ _; rfl)) (by first | rfl | decide | exact Or.inl rfl | exact Or.inr rfl | (intro _; rfl) | (intro _ _; rfl) | (intro _ _ _; rfl)) (by first | rfl | decide | exact Or.inl rfl | exact Or.inr rfl | (intro _; rfl) | (intro _ _; rfl) | (intro _ _ _; rfl)) (by first | rfl | decide | exact Or.inl rfl | exact Or.inr rfl | (intro _; rfl) | (intro _ _; rfl) | (intro _ _ _; rfl)))) pa_nil (by first | rfl | decide | exact Or.inl rfl | exact Or.inr rfl | (intro _; rfl) | (intro _ _; rfl) | (intro _ _ _; rfl))) (by first | rfl | decide | exact Or.inl rfl | exact Or.inr rfl | (intro _; rfl) | (intro _ _; rfl) | (intro _ _ _; rfl))) (@pg_name _ _ (8) _ (by exact S.nd) (by rfl) (by first | exact Or.inl rfl | exact Or.inr rfl) (by first | rfl | decide | exact Or.inl rfl | exact Or.inr rfl | (intro _; rfl) | (intro _ _; rfl) | (intro _ _ _; rfl))) (@pss_one _ _ _ (@ps_expr _ _ _ _ (@pm0 _ _ _ _ _ _ _ _ _ _ _ (by exact M_back) (by exact CA.cl) (by exact (hr.mono (by decide))) (pv 9) (by first | rfl | decide | exact Or.inl rfl | exact Or.inr rfl | (intro _; rfl) | (intro _ _; rfl) | (intro _ _ _; rfl))) (by first | rfl | decide | exact Or.inl rfl | exact Or.inr rfl | (intro _; rfl) | (intro _ _; rfl) | (intro _ _ _; rfl)))) (by first | rfl | decide | exact Or.inl rfl | exact Or.inr rfl | (intro _; rfl) | (intro _ _; rfl) | (intro _ _ _; rfl))) (@pss_cons _ _ _ _ _ (@ps_if _ _ _ _ _ _ _ _ (@PW.pt _ _ _ (@pw_or _ _ _ _ _ _ _ (@pt_cmpR _ _ _ _ _ _ _ _ (op_neI hu) (@pm0 _ _ _ _ _ _ _ _ _ _ _ (by exact M_stand) (by exact CA.cl) (by exact (hr.mono (by decide))) (pv 9) (by first | rfl | decide | exact Or.inl rfl | exact Or.inr rfl | (intro _; rfl) | (intro _ _; rfl) | (intro _ _ _; rfl))) (pv 6) (by exact (nomark _))) (@pw_or1 _ _ _ _ (@pt_not _ _ _ _ (@pt_val _ _ _ (@pe_callB _ _ _ _ _ _ _ _ _ (call_all (by rfl)) (by rfl) (by exact T.z_all) (by exact bt_all) (@pa_consN _ _ _ _ _ (@pe_comp _ _ _ _ _ _ _ _ _ _ _ _ _ (by rfl) (by exact (fun _ _ h => h)) (by decide +kernel) (by rfl) (by decide +kernel) (by exact hfr_of rfl) (by exact Sees.frees ["_law_ball", "_law_box"] [("_law_room", 9)] (fr_cons ⟨rfl, rfl⟩ fr_nil)) (@pi_list _ _ _ _ (pv 10)) (fun _ _ _ _ _ => @pg_tup0 _ _ _ _ _ (2) (by rfl) (@pgs_cons _ _ _ _ _ (@pg_name _ _ (0) _ (by exact (show (["_law_ball", "_law_box", "_law_room"] : List Str).Nodup by decide +kernel)) (by rfl) (by first | exact Or.inl rfl | exact Or.inr rfl) (by first | rfl | decide | exact Or.inl rfl | exact Or.inr rfl | (intro _; rfl) | (intro _ _; rfl) | (intro _ _ _; rfl))) (@pgs_cons _ _ _ _ _ (@pg_name _ _ (1) _ (by exact (show (["_law_ball", "_law_box", "_law_room"] : List Str).Nodup by decide +kernel)) (by rfl) (by first | exact Or.inl rfl | exact Or.inr rfl) (by first | rfl | decide | exact Or.inl rfl | exact Or.inr rfl | (intro _; rfl) | (intro _ _; rfl) | (intro _ _ _; rfl))) pgs_nil (by first | rfl | decide | exact Or.inl rfl | exact Or.inr rfl | (intro _; rfl) | (intro _ _; rfl) | (intro _ _ _; rfl))) (by first | rfl | decide | exact Or.inl rfl | exact Or.inr rfl | (intro _; rfl) | (intro _ _; rfl) | (intro _ _ _; rfl))) (by first | rfl | decide | exact Or.inl rfl | exact Or.inr rfl | (intro _; rfl) | (intro _ _; rfl) | (intro _ _ _; rfl)) (by first | rfl | decide | exact Or.inl rfl | exact Or.inr rfl | (intro _; rfl) | (intro _ _; rfl) | (intro _ _ _; rfl))) (fun _ _ _ _ _ => pts_nil) (fun _ _ _ _ _ => (@pe_cmpR _ _ _ _ _ _ _ _ op_eq (@pm _ _ _ _ _ _ _ _ _ _ _ _ _ _ (by exact M_where) (by exact CA.cl) (by exact (hr.mono (by decide))) (pv 2) (@pa_consN _ _ _ _ _ (pv 0) pa_nil (by first | rfl | decide | exact Or.inl rfl | exact Or.inr rfl | (intro _; rfl) | (intro _ _; rfl) | (intro _ _ _; rfl))) (by first | rfl | decide | exact Or.inl rfl | exact Or.inr rfl | (intro _; rfl) | (intro _ _; rfl) | (intro _ _ _; rfl)) (by first | rfl | decide | exact Or.inl rfl | exact Or.inr rfl | (intro _; rfl) | (intro _ _; rfl) | (intro _ _ _; rfl)) (by first | rfl | decide | exact Or.inl rfl | exact Or.inr rfl | (intro _; rfl) | (intro _ _; rfl) | (intro _ _ _; rfl))) (pv 1) (by exact (nomark _)))) (by first | rfl | decide | exact Or.inl rfl | exact Or.inr rfl | (intro _; rfl) | (intro _ _; rfl) | (intro _ _ _; rfl))) pa_nil (by first | rfl | decide | exact Or.inl rfl | exact Or.inr rfl | (intro _; rfl) | (intro _ _; rfl) | (intro _ _ _; rfl))) (by first | rfl | decide | exact Or.inl rfl | exact Or.inr rfl | (intro _; rfl) | (intro _ _; rfl) | (intro _ _ _; rfl)) (by first | rfl | decide | exact Or.inl rfl | exact Or.inr rfl | (intro _; rfl) | (intro _ _; rfl) | (intro _ _ _; rfl)) (by first | rfl | decide | exact Or.inl rfl | exact Or.inr rfl | (intro _; rfl) | (intro _ _; rfl) | (intro _ _ _; rfl)) (by first | rfl | decide | exact Or.inl rfl | exact Or.inr rfl | (intro _; rfl) | (intro _ _; rfl) | (intro _ _ _; rfl))) (by first | rfl | decide | exact Or.inl rfl | exact Or.inr rfl | (intro _; rfl) | (intro _ _; rfl) | (intro _ _ _; rfl))))))) (@pss_one _ _ _ (@ps_ret _ _ _ _ pe_bl)) pss_nil) (@pss_cons _ _ _ _ _ (@ps_for _ _ _ _ _ _ _ _ (by exact PassesOwn.never) (by rfl) (@pi_range1 _ _ _ _ _ _ (by rfl) (by exact T.z_range) (@pa_consN _ _ _ _ _ (@pe_callB _ _ _ _ _ _ _ _ _ call_len_seq (by rfl) (by exact T.z_len) (by exact bt_len) (@pa_consN _ _ _ _ _ (pv 2) pa_nil (by first | rfl | decide | exact Or.inl rfl | exact Or.inr rfl | (intro _; rfl) | (intro _ _; rfl) | (intro _ _ _; rfl))) (by first | rfl | decide | exact Or.inl rfl | exact Or.inr rfl | (intro _; rfl) | (intro _ _; rfl) | (intro _ _ _; rfl)) (by first | rfl | decide | exact Or.inl rfl | exact Or.inr rfl | (intro _; rfl) | (intro _ _; rfl) | (intro _ _ _; rfl)) (by first | rfl | decide | exact Or.inl rfl | exact Or.inr rfl | (intro _; rfl) | (intro _ _; rfl) | (intro _ _ _; rfl)) (by first | rfl | decide | exact Or.inl rfl | exact Or.inr rfl | (intro _; rfl) | (intro _ _; rfl) | (intro _ _ _; rfl))) pa_nil (by first | rfl | decide | exact Or.inl rfl | exact Or.inr rfl | (intro _; rfl) | (intro _ _; rfl) | (intro _ _ _; rfl))) (by first | rfl | decide | exact Or.inl rfl | exact Or.inr rfl | (intro _; rfl) | (intro _ _; rfl) | (intro _ _ _; rfl))) (@pg_name _ _ (8) _ (by exact S.nd) (by rfl) (by first | exact Or.inl rfl | exact Or.inr rfl) (by first | rfl | decide | exact Or.inl rfl | exact Or.inr rfl | (intro _; rfl) | (intro _ _; rfl) | (intro _ _ _; rfl))) (@pss_one _ _ _ (@ps_expr _ _ _ _ (@pm0 _ _ _ _ _ _ _ _ _ _ _ (by exact M_back) (by exact CA.cl) (by exact (hr.mono (by decide))) (pv 9) (by first | rfl | decide | exact Or.inl rfl | exact Or.inr rfl | (intro _; rfl) | (intro _ _; rfl) | (intro _ _ _; rfl))) (by first | rfl | decide | exact Or.inl rfl | exact Or.inr rfl | (intro _; rfl) | (intro _ _; rfl) | (intro _ _ _; rfl)))) (by first | rfl | decide | exact Or.inl rfl | exact Or.inr rfl | (intro _; rfl) | (intro _ _; rfl) | (intro _ _ _; rfl))) (@pss_one _ _ _ (@ps_if _ _ _ _ _ _ _ _ (@pt_cmpR _ _ _ _ _ _ _ _ (op_neI hu) (@pm0 _ _ _ _ _ _ _ _ _ _ _ (by exact M_stand) (by exact CA.cl) (by exact (hr.mono (by decide))) (pv 9) (by first | rfl | decide | exact Or.inl rfl | exact Or.inr rfl | (intro _; rfl) | (intro _ _; rfl) | (intro _ _ _; rfl))) (@pe_op _ _ _ _ _ _ _ _ op_repS (@pe_tup _ _ _ _ _ (@pa_consN _ _ _ _ _ pe_int pa_nil (by first | rfl | decide | exact Or.inl rfl | exact Or.inr rfl | (intro _; rfl) | (intro _ _; rfl) | (intro _ _ _; rfl)))) (pv 1)) (by exact (nomark _))) (@pss_one _ _ _ (@ps_ret _ _ _ _ pe_bl)) pss_nil))))))))))) (by first | rfl | decide | exact Or.inl rfl | exact Or.inr rfl | (intro _; rfl) | (intro _ _; rfl) | (intro _ _ _; rfl))) (@pss_one _ _ _ (@ps_ret _ _ _ _ (@pe_cmpR _ _ _ _ _ _ _ _ (op_eqI hu) (@pe_ix _ _ _ _ _ _ _ ix_list (pv 4) pe_int (by exact (fun _ _ => rfl))) (@pe_ix _ _ _ _ _ _ _ ix_list (pv 4) pe_int (by exact (fun _ _ => rfl))) (by exact (nomark _))))))), ?_⟩
  obtain ⟨full, hfull⟩ : ∃ full, full = (byF (zs n.toNat) dss).1 := ⟨_, rfl⟩
  obtain ⟨bs, hbs⟩ : ∃ bs, bs = (byF (zs n.toNat) dss).2 := ⟨_, rfl⟩
  have bsl : bs.length = dss.length := by rw [hbs]; exact (byF_len _ _).2
  refine ⟨lz 0 rfl, fun sl hsl0 => ?_⟩
  have s0 := same_new hsl0 (.lst [])
  refine ⟨2, rfl, by decide, by decide, for_range (n := 2) (fun i σ H' => (∃ o5 o6 o7 o8 o9 o10 o11 o12, σ = [some (.ref pn), some (.int n), some (.ref dl), some (.ref gl), some (.ref sl), o5, o6, o7, o8, o9, o10, o11, o12]) ∧ Pen H' pn (m + 60 * i) ∧ SameX pn H H' ∧ ∃ ts, H' sl = some (.lst ts) ∧ ts.length = i ∧ ∀ v ∈ ts, ∃ t, v = .ref t ∧ H' t = some (.tup (iv (nsL full bs gs)))) ⟨⟨_, _, _, _, _, _, _, _, rfl⟩, pen.same s0, s0.x, [], upd_same, rfl, fun v hv => absurd hv (by simp)⟩ ?_ ?_⟩
  · rintro i σ H2 hi ⟨⟨o5, o6, o7, o8, o9, o10, o11, o12, rfl⟩, pen2, x2, ts, hsl2, tsl, hts⟩
    have hdl2 := pen.keep x2 hdl
    have hgl2 := pen.keep x2 hgl
    have dr2 : Drs H2 xs dss := dr.mono fun a xs e => pen.keep x2 e
    have hT2 := pen.keep x2 hT
    refine ⟨_, rfl, _, rfl, dl, n, xs, dss, rfl, n1, n6, hdl2, dr2, od, by omega, hT2, fun r p l d q bl ys H3 s3 np nl nd nq nbl bnl bnq hr3 hbl3 pr3 RI3 => ?_⟩
    rw [← hfull, ← hbs] at RI3
    rw [← hbs] at pr3
    refine ⟨r, _, rfl, SqT.of hr3, rfl, _, _, rfl, _, _, rfl, rfl, ?_⟩
    have no : ∀ {nb : Int} {m : Str}, ¬ m = "numbers" → ¬ m = "places" → ¬ m = "next_ball" → ¬ m = "deeds" → (flds l d nb q).lookup m = none := fun a b c e => flds_no _ _ _ _ a b c e
    obtain ⟨⟨_, _, ⟨⟨dx3, hp3⟩, hl3, hd3, hq3, _⟩, _⟩, _, _⟩ := id RI3
    refine ⟨_, rfl, p, dx3, _, rfl, hp3, no (by decide +kernel) (by decide +kernel) (by decide +kernel) (by decide +kernel), p, l, d, q, n.toNat, _, _, _, _, _, rfl, RI3, fun tf H4 s4 htf => ?_⟩
    have RI4 := RI3.same s4
    have s24 := s3.trans s4
    have pen4 := pen2.same s24
    have dpn : d ≠ pn := fun z => by
      obtain ⟨kk, e⟩ := pen2.dk
      rw [z, e] at nd
      cases nd
    have np4 : ∀ b, H4 b = none → b ≠ p ∧ b ≠ l ∧ b ≠ d ∧ b ≠ q := fun b hb => ⟨(fun z => by rw [z, s4 _ _ hp3] at hb; cases hb), (fun z => by rw [z, s4 _ _ hl3] at hb; cases hb), (fun z => by rw [z, s4 _ _ hd3] at hb; cases hb), (fun z => by rw [z, s4 _ _ hq3] at hb; cases hb)⟩
    have np2 : ∀ b o, H2 b = some o → b ≠ p ∧ b ≠ l ∧ b ≠ d ∧ b ≠ q := fun b o hb => ⟨ne_of_none hb np, ne_of_none hb nl, ne_of_none hb nd, ne_of_none hb nq⟩
    refine ⟨_, rfl, _, rfl, pn, gl, gs, _, rfl, pen4, by omega, s24 _ _ hgl2, by omega, fun lo hs H5 hlo lo0 pm pen5 x5 => ?_⟩
    have RI5 := RI4.keepX pen4 x5 dpn
    have hbl5 := pen4.keep x5 (s4 _ _ hbl3)
    have pr5 : Prs H5 ys (bp bs) := prs_mono (fun a xs e => pen4.keep x5 e) (pr3.same s4)
    have htf5 := pen4.keep x5 htf
    have x25 : SameX pn H2 H5 := s24.x.trans x5
    obtain ⟨lop, lol, lod, loq⟩ := np4 lo lo0
    have hsn : hs.Nodup := pm.nodup_iff.mpr gnd
    have hsl := pm.length_eq
    have hsr : ∀ g ∈ hs, 0 ≤ g ∧ g < dss.length := fun g hg => grng g (pm.mem_iff.mp hg)
    have ytb : ∀ {H' : Hp} {b : Int}, (∀ a xs, H5 a = some (.tup xs) → H' a = some (.tup xs)) → 0 ≤ b → b < dss.length → ∃ tb, ys[b.toNat]? = some (.ref tb) ∧ H' tb = some (.tup [.int b, .int (box bs b)]) := fun {H' b} up b0 b1 => by
      have e := bp_at (bs := bs) (i := b.toNat) (by omega)
      obtain ⟨tb, e1, e2⟩ := prs_get pr5 e
      refine ⟨tb, e1, up _ _ ?_⟩
      rw [e2]
      show some (HO.tup [.int ((b.toNat : Nat) : Int), .int bs[b.toNat]]) = _
      unfold box
      rw [getD_of (by omega), show ((b.toNat : Nat) : Int) = b by omega]
    refine ⟨lo, rfl, ⟨_, SqL.of hlo⟩, for_list (xs := iv hs) (fun j σ H' => (∃ o7, σ = [some (.ref pn), some (.int n), some (.ref dl), some (.ref gl), some (.ref sl), some (.int (0 + i)), some (.ref tf), o7, o8, some (.ref p), some (.ref bl), o11, o12]) ∧ SR p l d q H5 H' ∧ ∃ sz, sz + j = dss.length ∧ RoomIs C n.toNat H' p l d q (lvD bs (hs.take j)) (nsL full bs (hs.take j)) (plL bs (hs.take j)) sz dss.length) ?_ (fun j σ H' _ h => SqL.of (h.2.1 lo _ hlo lop lol lod loq)) ?_ ?_⟩
    · refine ⟨⟨_, rfl⟩, fun b o e _ _ _ _ => e, dss.length, rfl, ?_⟩
      have e1 : lvD bs (hs.take 0) = pd bs := by simp [lvD]
      have e2 : plL bs (hs.take 0) = plF bs := by funext j; simp [plL]
      rw [e1, e2]
      exact RI5
    · rintro j v σ H6 hv ⟨⟨o7, rfl⟩, x6, sz, hsz, RI6⟩
      obtain ⟨b, hb, rfl⟩ := iv_at hv
      obtain ⟨hj, ej⟩ := List.getElem?_eq_some_iff.mp hb
      obtain ⟨b0, b1⟩ := hsr b (List.mem_of_getElem? hb)
      have bnot : b ∉ hs.take j := fun z => by
        obtain ⟨i', hi', e'⟩ := List.mem_iff_getElem.mp z
        rw [List.getElem_take] at e'
        have hi2 : i' < j := by rw [List.length_take] at hi'; omega
        have := (List.pairwise_iff_getElem.mp hsn) i' j (by omega) hj hi2
        exact this (by rw [e', ej])
      have hpl : plL bs (hs.take j) b = some (box bs b) := by
        unfold plL
        rw [if_neg bnot]
        exact plF_at b0 (by omega)
      have etk : hs.take (j + 1) = hs.take j ++ [b] := by rw [List.take_add_one, hb]; rfl
      obtain ⟨⟨_, _, ⟨⟨dx6, hp6⟩, _⟩, _⟩, _, _⟩ := id RI6
      have hbl6 := RI5.lst x6 hbl5 bnl bnq
      obtain ⟨tb, yt, htb⟩ := ytb (H' := H6) (fun a xs e => RI5.tup x6 e) b0 b1
      have yat : atI ys b = some (.ref tb) := by rw [show b = ((b.toNat : Nat) : Int) by omega]; exact atI_nat yt
      refine ⟨_, rfl, p, dx6, _, rfl, hp6, no (by decide +kernel) (by decide +kernel) (by decide +kernel) (by decide +kernel), _, rfl, p, l, d, q, n.toNat, _, _, _, _, _, b, box bs b, rfl, RI6, hpl, _, rfl, _, rfl, bl, ys, b, .ref tb, rfl, rfl, SqL.of hbl6, yat, tb, _, _, _, rfl, rfl, SqT.of htb, rfl, rfl, _, rfl, ?_⟩
      rw [decide_eq_true rfl]
      refine iteF ?_
      obtain ⟨sz', rfl⟩ := RI6.pos hpl
      refine ⟨_, rfl, p, dx6, _, rfl, hp6, no (by decide +kernel) (by decide +kernel) (by decide +kernel) (by decide +kernel), _, rfl, p, l, d, q, n.toNat, _, _, _, sz', _, b, box bs b, rfl, RI6, hpl, (by simp [lvD, pd_len]; omega), fun H7 RI7 x7 => ?_⟩
      have htb7 := RI6.tup x7 htb
      have hbl7 := RI6.lst x7 hbl6 bnl bnq
      refine ⟨_, rfl, _, rfl, bl, ys, b, .ref tb, rfl, rfl, SqL.of hbl7, yat, tb, _, _, _, rfl, rfl, SqT.of htb7, rfl, rfl, _, rfl, ?_⟩
      rw [decide_eq_true rfl]
      refine iteF ⟨⟨_, rfl⟩, x6.trans x7, sz', by omega, ?_⟩
      rw [etk, lvD_snoc, nsL_snoc, ← plL_snoc]
      exact RI7
    rintro σ H7 ⟨⟨o7, rfl⟩, x7, sz, hsz, RI7⟩
    have hil : (iv hs).length = hs.length := by simp
    rw [hil, List.take_length] at RI7
    rw [hil] at hsz
    obtain ⟨slp, sll, sld, slq⟩ := np2 sl _ hsl2
    have hsl5 := pen2.keep x25 hsl2
    have y7 : SR5 p l d q sl H5 H7 := fun b o e h1 h2 h3 h4 _ => x7 b o e h1 h2 h3 h4
    have hsl7 := x7 sl _ hsl5 slp sll sld slq
    obtain ⟨⟨_, _, ⟨⟨dx7, hp7⟩, _⟩, _⟩, _, _⟩ := id RI7
    refine ⟨_, rfl, .inl ⟨rfl, _, SqL.of hsl7⟩, _, rfl, p, dx7, _, rfl, hp7, no (by decide +kernel) (by decide +kernel) (by decide +kernel) (by decide +kernel), p, l, d, q, n.toNat, _, _, _, _, _, rfl, RI7, fun tst H8 s8 htst => ?_⟩
    refine ⟨sl, ts, .ref tst, rfl, rfl, s8 _ _ hsl7, (by rw [sizeLine_eq]; omega), ?_⟩
    have RI9 := (RI7.same s8).updL (zs := ts ++ [.ref tst]) (s8 _ _ hsl7) (Ne.symm sll) (Ne.symm slq)
    have y9 : SR5 p l d q sl H5 (upd H8 sl (.lst (ts ++ [.ref tst]))) := (y7.same s8).upd _
    have e9 : (upd H8 sl (.lst (ts ++ [.ref tst]))) sl = _ := upd_same
    have upT9 : ∀ a zs, H8 a = some (.tup zs) → (upd H8 sl (.lst (ts ++ [.ref tst]))) a = some (.tup zs) := fun a zs e => by rw [upd_ne (ne_of e (s8 _ _ hsl7) (by intro z; cases z))]; exact e
    have f9 := upT9 _ _ htst
    generalize upd H8 sl (.lst (ts ++ [.ref tst])) = H9 at RI9 y9 e9 f9
    -- what lies in H2, in H5, and now
    have hdl5 := pen2.keep x25 hdl2
    have hgl5 := pen2.keep x25 hgl2
    have hT5 := pen2.keep x25 hT2
    obtain ⟨dlp, dll, dld, dlq⟩ := np2 dl _ hdl2
    obtain ⟨glp, gll, gld, glq⟩ := np2 gl _ hgl2
    have dls : dl ≠ sl := ne_of_none hdl hsl0
    have gls : gl ≠ sl := ne_of_none hgl hsl0
    have hdl9 := y9 dl _ hdl5 dlp dll dld dlq dls
    have hgl9 := y9 gl _ hgl5 glp gll gld glq gls
    have hT9 : H9 D = some (.tab (qLam "emptiest_of")) := y9 D _ hT5 (np2 D _ hT2).1 (np2 D _ hT2).2.1 (np2 D _ hT2).2.2.1 (np2 D _ hT2).2.2.2 (ne_of_none hT hsl0)
    have up59 : ∀ a zs, H5 a = some (.tup zs) → H9 a = some (.tup zs) := fun a zs e => y9 a _ e (ne_of e (RI5.ex.choose_spec.choose_spec.1.ob.choose_spec) (by intro z; cases z)) (ne_of e (RI5.ex.choose_spec.choose_spec.1.nm) (by intro z; cases z)) (ne_of e (RI5.ex.choose_spec.choose_spec.1.pl) (by intro z; cases z)) (ne_of e (RI5.ex.choose_spec.choose_spec.1.de) (by intro z; cases z)) (ne_of e hsl5 (by intro z; cases z))
    have dr9 : Drs H9 xs dss := (dr2.mono fun a xs e => pen2.keep x25 e).mono up59
    have htf9 := up59 _ _ htf5
    have pr9 : Prs H9 ys (bp bs) := prs_mono up59 pr5
    have bls : bl ≠ sl := Ne.symm (ne_of_none hsl2 nbl)
    have hbl9 := y9 bl _ hbl5 (ne_of hbl5 (RI5.ex.choose_spec.choose_spec.1.ob.choose_spec) (by intro z; cases z)) bnl (ne_of hbl5 (RI5.ex.choose_spec.choose_spec.1.pl) (by intro z; cases z)) bnq bls
    have nl9 := RI9.hs.len
    have lastS : atI (ts ++ [V.ref tst]) (-1) = some (.ref tst) := by
      unfold atI ixN
      rw [if_neg (by decide), if_pos (by simp; omega)]
      have e : (-1 + ((ts ++ [V.ref tst]).length : Int)).toNat = ts.length := by simp; omega
      rw [e]
      simp
    refine ⟨_, rfl, _, rfl, sl, _, _, _, rfl, rfl, SqL.of e9, lastS, _, rfl, _, rfl, dl, _, rfl, SqL.of hdl9, fun q1 hq1 => ?_⟩
    rw [cut1]
    have s10 := same_new hq1 (.lst (xs.take 1))
    have e10 : (upd H9 q1 (.lst (xs.take 1))) q1 = _ := upd_same
    generalize upd H9 q1 (.lst (xs.take 1)) = H10 at s10 e10
    refine ⟨tst, q1, nsL full bs hs, xs.take 1, dss.take 1, rfl, s10 _ _ f9, e10, (dr9.same s10).take 1, (by rw [nl9]; exact od.take 1), (by rw [List.length_take]; omega), s10 _ _ hT9, fun r2 t2 l2 H11 s11 hr11 ht11 hl11 l20 => ?_⟩
    refine ⟨r2, _, rfl, SqT.of hr11, rfl, _, _, rfl, _, _, rfl, rfl, ?_⟩
    have s911 := s10.trans s11
    have RI11 := RI9.same s911
    have l2n : H9 l2 = none := s10.free l20
    apply joinH (C := fun H' => ∃ ex ns pl sz nb, RoomIs C n.toNat H' p l d q (ex ++ lvD bs hs) ns pl sz nb ∧ ex.length = (xs.take 1).length ∧ SR p l d q H11 H')
    case main =>
      intro key
      refine ⟨_, rfl, lz 0 rfl, fun q2 hq2 => ?_⟩
      have s12 := same_new hq2 (.lst [])
      refine ⟨dl, q2, xs, rfl, rfl, s12 _ _ (s911 _ _ hdl9), upd_same, _, rfl, ?_⟩
      by_cases ex : xs = []
      · rw [decide_eq_false (fun z => z ex)]
        refine iteF (iteF (key _ ⟨[], _, _, _, _, RI11.same s12, by rw [ex]; rfl, SR.of s12⟩))
      · rw [decide_eq_true ex]
        refine iteT ?_
        have RI12 := RI11.same s12
        have s912 := s911.trans s12
        have x0 : 0 < xs.length := List.length_pos_iff.mpr ex
        obtain ⟨t0, dw, e0, hd0, ht0⟩ := dr9.get (List.getElem?_eq_getElem x0)
        have hdw : dss.getD 0 [] = dw := by rw [List.getD_eq_getElem?_getD, hd0]; rfl
        obtain ⟨d1, d2, d3⟩ := od dw (List.mem_of_getElem? hd0)
        obtain ⟨⟨_, _, ⟨⟨dx12, hp12⟩, _⟩, _⟩, _, _⟩ := id RI12
        have at0 : atI xs 0 = some (.ref t0) := by
          have := atI_nat (xs := xs) (j := 0) (v := .ref t0) (by rw [List.getElem?_eq_getElem x0, e0])
          exact this
        refine ⟨_, rfl, p, dx12, _, rfl, hp12, no (by decide +kernel) (by decide +kernel) (by decide +kernel) (by decide +kernel), _, rfl, dl, _, _, _, rfl, rfl, SqL.of (s912 _ _ hdl9), at0, p, l, d, q, t0, n.toNat, _, _, _, sz, _, dw, rfl, RI12, s912 _ _ ht0, d1, d3, by omega, (by simp [lvD, pd_len]; omega), s912 _ _ hT9, fun r3 H13 RI13 hr13 x13 => ?_⟩
        refine ⟨_, rfl, r3, _, rfl, hr13, fun c H14 s14 hc => ?_⟩
        have l2l : l2 ≠ l ∧ l2 ≠ q := ⟨(fun z => by rw [z, RI9.ex.choose_spec.choose_spec.1.nm] at l2n; cases l2n), (fun z => by rw [z, RI9.ex.choose_spec.choose_spec.1.de] at l2n; cases l2n)⟩
        have hl14 := s14 _ _ (RI12.lst x13 (s12 _ _ hl11) l2l.1 l2l.2)
        refine ⟨_, rfl, l2, _, rfl, .inl ⟨SqL.of hl14, fun t5 ht5 => ?_⟩⟩
        have s15 := same_new ht5 (.tup (iv (byF (nsL full bs hs) (dss.take 1)).2))
        have ec : cutV [V.int (dss.length : Int), V.int (emF (nsL full bs hs) dw)] (some 1) none = iv [emF (nsL full bs hs) dw] := rfl
        rw [ec] at hc
        have dne : dss ≠ [] := fun z => by rw [z] at dlen; simp at dlen; exact ex dlen
        have eb := by1 (nsL full bs hs) dss dne
        rw [hdw] at eb
        refine ⟨c, t5, _, _, rfl, rfl, s15 _ _ hc, upd_same, _, rfl, ?_⟩
        rw [eb, decide_eq_true rfl]
        refine iteF (key _ ⟨[(true, (dss.length : Int), emF (nsL full bs hs) dw)], _, _, _, _, (RI13.same s14).same (by rw [← eb]; exact s15), ?_, ?_⟩)
        · rw [List.length_take]; simp; omega
        · rw [← eb]
          exact ((SR.of s12).trans x13).trans (SR.of (s14.trans s15))
    rintro H15 ⟨ex, ns15, pl15, sz15, nb15, RI15, exl, x15⟩
    have y15 : SR5 p l d q sl H5 H15 := (y9.same s911).sr x15
    have hgl15 := RI11.lst x15 (s911 _ _ hgl9) gll glq
    have hsl15 := RI11.lst x15 (s911 _ _ e9) sll slq
    have hdl15 := RI11.lst x15 (s911 _ _ hdl9) dll dlq
    have htf15 := RI11.tup x15 (s911 _ _ htf9)
    have hbl15 := RI11.lst x15 (s911 _ _ hbl9) bnl bnq
    have pr15 : Prs H15 ys (bp bs) := prs_mono (fun a zs e => RI11.tup x15 e) (pr9.same s911)
    refine ⟨_, rfl, gl, _, rfl, .inl (SqL.of hgl15), _, rfl, _, rfl, dl, _, rfl, SqL.of hdl15, fun q3 hq3 => ?_⟩
    rw [cut1]
    have s16 := same_new hq3 (.lst (xs.take 1))
    have e16 : (upd H15 q3 (.lst (xs.take 1))) q3 = _ := upd_same
    generalize upd H15 q3 (.lst (xs.take 1)) = H16 at s16 e16
    have RI16 := RI15.same s16
    have xl1 : (xs.take 1).length ≤ 1 := by rw [List.length_take]; omega
    obtain ⟨all, hall⟩ : ∃ all, all = ex ++ lvD bs hs := ⟨_, rfl⟩
    have alll : all.length = (xs.take 1).length + (hs.length + bs.length) := by rw [hall, List.length_append, exl]; simp [lvD, pd_len]
    refine ⟨q3, _, rfl, .inl (SqL.of e16), _, _, rfl, rfl, _, rfl, by omega, by simp; omega, for_range (n := (((iv gs).length : Int) + ((xs.take 1).length : Int)).toNat) (fun j σ H' => (∃ o8, σ = [some (.ref pn), some (.int n), some (.ref dl), some (.ref gl), some (.ref sl), some (.int (0 + i)), some (.ref tf), o7, o8, some (.ref p), some (.ref bl), some (.ref t2), some (.ref l2)]) ∧ SR p l d q H16 H' ∧ ∃ ns pl sz nb, RoomIs C n.toNat H' p l d q (all.drop j) ns pl sz nb) ⟨⟨_, rfl⟩, fun b o e _ _ _ _ => e, ns15, pl15, sz15, nb15, by rw [hall]; exact RI16⟩ ?_ ?_⟩
    · rintro j σ H17 hj ⟨⟨o8', rfl⟩, x17, ns, pl, sz, nb, RI17⟩
      have hj' : j < all.length := by simp at hj; omega
      rw [List.drop_eq_getElem_cons hj'] at RI17
      obtain ⟨ns0, pl0, sz0, h0⟩ := RI17.hs.tail
      obtain ⟨⟨_, _, ⟨⟨dx17, hp17⟩, _⟩, _⟩, _, _⟩ := id RI17
      refine ⟨_, rfl, p, dx17, _, rfl, hp17, no (by decide +kernel) (by decide +kernel) (by decide +kernel) (by decide +kernel), p, l, d, q, n.toNat, _, _, _, _, _, _, ns0, pl0, sz0, rfl, RI17, h0, (by rw [List.length_drop]; omega), fun H18 RI18 x18 => ?_⟩
      exact ⟨⟨_, rfl⟩, x17.trans x18, ns0, pl0, sz0, nb, RI18⟩
    rintro σ H17 ⟨⟨o8', rfl⟩, x17, ns17, pl17, sz17, nb17, RI17⟩
    have edr : all.drop (((iv gs).length : Int) + ((xs.take 1).length : Int)).toNat = pd bs := by
      have e1 : (((iv gs).length : Int) + ((xs.take 1).length : Int)).toNat = ex.length + hs.length := by
        have e0 : (iv gs).length = gs.length := by simp
        omega
      rw [e1, hall, ← List.drop_drop, List.drop_append_of_le_length (Nat.le_refl _), List.drop_length, List.nil_append, lvD_drop]
    rw [edr] at RI17
    obtain ⟨rfl, rfl, _⟩ := RI17.hs.det RI5.hs
    have y17 : SR5 p l d q sl H5 H17 := (y15.same s16).sr x17
    have htf17 := RI16.tup x17 (s16 _ _ htf15)
    have hbl17 := RI16.lst x17 (s16 _ _ hbl15) bnl bnq
    have hsl17 := RI16.lst x17 (s16 _ _ hsl15) sll slq
    have hdl17 := RI16.lst x17 (s16 _ _ hdl15) dll dlq
    have pr17 : Prs H17 ys (bp bs) := prs_mono (fun a zs e => RI16.tup x17 e) (pr15.same s16)
    obtain ⟨⟨_, _, ⟨⟨dx17, hp17⟩, _⟩, _⟩, _, _⟩ := id RI17
    refine ⟨_, rfl, p, dx17, _, rfl, hp17, no (by decide +kernel) (by decide +kernel) (by decide +kernel) (by decide +kernel), p, l, d, q, n.toNat, _, _, _, _, _, rfl, RI17, fun t6 H18 s18 ht6 => ?_⟩
    refine ⟨_, rfl, t6, tf, _, _, rfl, rfl, ht6, s18 _ _ htf17, _, rfl, ?_⟩
    rw [decide_eq_true rfl]
    refine iteF ?_
    have RI18 := RI17.same s18
    refine ⟨_, rfl, bl, rfl, ⟨_, SqL.of (s18 _ _ hbl17)⟩, comp_prL (ps := bp bs) (fs := [some (.ref p)]) (fun _ => .bl true) (s18 _ _ hbl17) (pr17.same s18) (by have := prs_len pr17; rw [bp_len] at this; omega) ?_ fun q7 H19 s19 hq7 => ?_⟩
    · intro qq hqq H' Q' s' hQ
      obtain ⟨i', hi', e'⟩ := List.mem_iff_getElem.mp hqq
      have hi2 : i' < bs.length := by rw [bp_len] at hi'; exact hi'
      have e2 : qq = ((i' : Int), bs[i']) := by
        have := bp_at hi2
        rw [List.getElem?_eq_getElem hi'] at this
        rw [← e']
        exact Option.some.inj this
      have RI' := RI18.same s'
      obtain ⟨⟨_, _, ⟨⟨dx', hp'⟩, _⟩, _⟩, _, _⟩ := id RI'
      have hpl : plF bs qq.1 = some qq.2 := by
        rw [e2, plF_at (by show (0 : Int) ≤ i'; omega) (by show (i' : Int) < _; omega)]
        unfold box
        simp [List.getElem?_eq_getElem hi2]
      refine ⟨_, rfl, p, dx', _, rfl, hp', no (by decide +kernel) (by decide +kernel) (by decide +kernel) (by decide +kernel), _, rfl, p, l, d, q, n.toNat, _, _, _, _, _, qq.1, qq.2, rfl, RI', hpl, _, rfl, rfl, ?_⟩
      rw [decide_eq_true rfl]
      exact hQ H' (Same.refl _)
    have eb : (bp bs).map (fun _ => V.bl true) = (List.replicate (bp bs).length true).map V.bl := by
      rw [List.map_replicate]
      exact List.map_const' ..
    rw [eb] at hq7
    refine ⟨q7, _, rfl, hq7, _, rfl, ?_⟩
    rw [show (List.replicate (bp bs).length true).all id = true by simp]
    refine iteF ?_
    have s1719 := s18.trans s19
    have RI19 := RI17.same s1719
    have hdl19 := s1719 _ _ hdl17
    have hsl19 := s1719 _ _ hsl17
    refine ⟨_, rfl, dl, _, rfl, .inl (SqL.of hdl19), _, rfl, by omega, by omega, for_range (n := ((xs.length : Nat) : Int).toNat) (fun j σ H' => (∃ o8, σ = [some (.ref pn), some (.int n), some (.ref dl), some (.ref gl), some (.ref sl), some (.int (0 + i)), some (.ref tf), o7, o8, some (.ref p), some (.ref bl), some (.ref t2), some (.ref l2)]) ∧ SR p l d q H19 H' ∧ ∃ ns pl sz nb, RoomIs C n.toNat H' p l d q ((pd bs).drop j) ns pl sz nb) ⟨⟨_, rfl⟩, fun b o e _ _ _ _ => e, _, _, _, _, RI19⟩ ?_ ?_⟩
    · rintro j σ H20 hj ⟨⟨o8'', rfl⟩, x20, ns, pl, sz, nb, RI20⟩
      have pdl := pd_len bs
      have hj' : j < (pd bs).length := by simp at hj; omega
      rw [List.drop_eq_getElem_cons hj'] at RI20
      obtain ⟨ns0, pl0, sz0, h0⟩ := RI20.hs.tail
      obtain ⟨⟨_, _, ⟨⟨dx20, hp20⟩, _⟩, _⟩, _, _⟩ := id RI20
      refine ⟨_, rfl, p, dx20, _, rfl, hp20, no (by decide +kernel) (by decide +kernel) (by decide +kernel) (by decide +kernel), p, l, d, q, n.toNat, _, _, _, _, _, _, ns0, pl0, sz0, rfl, RI20, h0, (by rw [List.length_drop]; omega), fun H21 RI21 x21 => ?_⟩
      exact ⟨⟨_, rfl⟩, x20.trans x21, ns0, pl0, sz0, nb, RI21⟩
    rintro σ H20 ⟨⟨o8'', rfl⟩, x20, ns20, pl20, sz20, nb20, RI20⟩
    rw [List.drop_of_length_le (by rw [pd_len]; simp; omega)] at RI20
    obtain ⟨rfl, _, _⟩ := RI20.hs.det (.nil (n := n.toNat))
    obtain ⟨⟨_, _, ⟨⟨dx20, hp20⟩, _⟩, _⟩, _, _⟩ := id RI20
    refine ⟨_, rfl, p, dx20, _, rfl, hp20, no (by decide +kernel) (by decide +kernel) (by decide +kernel) (by decide +kernel), p, l, d, q, n.toNat, _, _, _, _, _, rfl, RI20, fun t7 H21 s21 ht7 => ?_⟩
    refine ⟨lz 1 rfl, fun t8 ht8 => ⟨_, rfl, t8, n, _, rfl, rfl, upd_same, by simp, by omega, by omega, by simp, fun c H22 s22 hc => ?_⟩⟩
    rw [rep1'] at hc
    have s2122 := (same_new ht8 (.tup [.int 0])).trans s22
    refine ⟨t7, c, _, _, rfl, rfl, s2122 _ _ ht7, hc, _, rfl, ?_⟩
    rw [decide_eq_true rfl]
    refine iteF ?_
    have yE : SR5 p l d q sl H5 H22 := ((y17.same s1719).sr x20).same (s21.trans s2122)
    have hslE := (s21.trans s2122) _ _ (RI19.lst x20 hsl19 sll slq)
    have upE : ∀ a zs, H9 a = some (.tup zs) → H22 a = some (.tup zs) := fun a zs e => (s21.trans s2122) _ _ (RI19.tup x20 (s1719 _ _ (RI16.tup x17 (s16 _ _ (RI11.tup x15 (s911 _ _ e))))))
    have ne2 : ∀ {b : Addr}, H2 b = none → b ≠ pn := fun {b} hb z => by
      obtain ⟨kk, e⟩ := pen2.dk
      rw [z, e] at hb
      cases hb
    obtain ⟨penE, xE⟩ := penX_sr5 (SameX.free x2 np (ne2 np)) (SameX.free x2 nl (ne2 nl)) (SameX.free x2 nd (ne2 nd)) (SameX.free x2 nq (ne2 nq)) hsl0 pen (x2.trans x25) pen5 yE
    refine ⟨⟨_, _, _, _, _, _, _, _, rfl⟩, penE.mono (by omega), xE, ts ++ [.ref tst], hslE, by simp; omega, fun v hv => ?_⟩
    rcases List.mem_append.mp hv with z | z
    · obtain ⟨t, e, ht⟩ := hts v z
      exact ⟨t, e, upE _ _ (up59 _ _ (pen2.keep x25 ht))⟩
    · rw [← nsL_perm _ bs pm]
      exact ⟨tst, List.mem_singleton.mp z, upE _ _ f9⟩
  · rintro σ H2 ⟨⟨o5, o6, o7, o8, o9, o10, o11, o12, rfl⟩, pen2, x2, ts, hsl2, tsl, hts⟩
    match ts, tsl, hsl2, hts with
    | [v0, v1], _, hsl2, hts =>
      obtain ⟨t0, rfl, h0⟩ := hts v0 (by simp)
      obtain ⟨t1, rfl, h1⟩ := hts v1 (by simp)
      refine ⟨_, rfl, sl, _, _, _, rfl, rfl, SqL.of hsl2, rfl, _, rfl, sl, _, _, _, rfl, rfl, SqL.of hsl2, rfl, t0, t1, _, _, rfl, rfl, h0, h1, ?_⟩
      rw [decide_eq_true rfl]
      exact k H2 (pen2.mono (by omega)) x2
end
end My

set_option Elab.async false
set_option linter.all false
set_option maxRecDepth 100000
set_option maxHeartbeats 4000000
namespace My
open PySem L2 MA
theorem cmp_ints (n : Nat) (xs ys : List Int) : ∀ p ∈ (xs.map PyData.int).zip (ys.map PyData.int), cmpN n p.1 p.2 := by
  intro p hp
  obtain ⟨a, _, ha⟩ := List.mem_map.mp (List.of_mem_zip (a := p.1) (b := p.2) hp).1
  obtain ⟨b, _, hb⟩ := List.mem_map.mp (List.of_mem_zip (a := p.1) (b := p.2) hp).2
  rw [← ha, ← hb]
  cases n <;> exact trivial
theorem bp_box (bs : List Int) : (bp bs).map (fun q => V.int q.2) = iv bs := by
  unfold bp
  rw [List.map_map]
  refine List.ext_getElem (by simp) fun i h1 h2 => ?_
  have hi : i < bs.length := by simpa using h1
  simp [List.getElem?_eq_getElem hi]
theorem bp_ball (bs : List Int) : (bp bs).map (fun q => V.int q.1) = iv ((List.range bs.length).map fun (i : Nat) => (i : Int)) := by
  unfold bp
  rw [List.map_map]
  show _ = List.map V.int (List.map _ _)
  rw [List.map_map]
  rfl
section
variable {P : Program} {w : World} {K : PySem.W.Frag} {mg : Str → Option Value} {base : Heap}
theorem ok_law {C D : Addr} (R : RmT K mg C) (T : Txt2 mg) (M_stand : MCal P w K mg base C "stand" ["self"] 1 (spStand C)) (M_load : MCal P w K mg base C "load" ["self"] 2 (spLoadR C)) (C_by_draws : Cal P w K mg base "by_draws" ["stand", "draws"] 4 (spBy D (qLam "emptiest_of"))) (C_l_pen : Cal P w K mg base "_law_pen" ["_law_script"] 1 (spPen K)) (C_l_draw : Cal P w K mg base "_law_draw" ["_law_pen_here", "_law_many"] 1 spDraw)
    (C_l_draws : Cal P w K mg base "_law_draws" ["_law_pen_here", "_law_n", "_law_most"] 2 spDraws) (C_l_filled : Cal P w K mg base "_law_filled" ["_law_n", "_law_draws_here"] 5 (spFilled C D (qLam "emptiest_of"))) (C_l_restless : Cal P w K mg base "_law_restless" ["_law_n", "_law_draws_here"] 5 (spRestless C D (qLam "emptiest_of"))) (C_l_left_right : Cal P w K mg base "_law_left_right" ["_law_pen_here", "_law_n", "_law_draws_here", "_law_gone"] 6 (spLR C D (qLam "emptiest_of")))
    {f : Addr} {fd : FuncData} (F : Fun K "law" "law" s_law f fd) : FnOk P w K mg base CX0 7 f fd ["_law_script"] (spLawT K D (qLam "emptiest_of")) := by
  have S := sc_law
  have CA := R.ca
  refine F.ok sc_law (fun vs H Q E h => ?_) (fun cdv A outer s H vs Q E hr h => ?_)
  · obtain ⟨a, ns, rfl, _⟩ := h; rfl
  obtain ⟨a, ns, rfl, hS, h63, hT, k⟩ := h
  have hu := hr.units0
  have hu1 : (A.deeper (PyProof.Rows.envOfC "law" (defScope s_law) s.heap.objs.size f cdv)).units + (0 + 1) < cLine := by have := hr.un; omega
  refine ⟨_, (@pss_cons _ _ _ _ _ (@ps_set _ _ (1) _ _ _ _ (by exact S.nd) (by rfl) (by first | exact Or.inl rfl | exact Or.inr rfl) (@cc _ _ _ _ _ _ _ _ _ _ (by exact C_l_pen) (by exact (hr.mono (by decide))) (@pa_consN _ _ _ _ _ (pv 0) pa_nil (by first | rfl | decide | exact Or.inl rfl | exact Or.inr rfl | (intro _; rfl) | (intro _ _; rfl) | (intro _ _ _; rfl))) (by first | rfl | decide | exact Or.inl rfl | exact Or.inr rfl | (intro _; rfl) | (intro _ _; rfl) | (intro _ _ _; rfl)) (by first | rfl | decide | exact Or.inl rfl | exact Or.inr rfl | (intro _; rfl) | (intro _ _; rfl) | (intro _ _ _; rfl)) (by first | rfl | decide | exact Or.inl rfl | exact Or.inr rfl | (intro _; rfl) | (intro _ _; rfl) | (intro _ _ _; rfl)) (by first | rfl | decide | exact Or.inl rfl | exact Or.inr rfl | (intro _; rfl) | (intro _ _; rfl) | (intro _ _ _; rfl))) (by first | rfl | decide | exact Or.inl rfl | exact Or.inr rfl | (intro _; rfl) | (intro _ _; rfl) | (intro _ _ _; rfl)) (by first | rfl | decide | exact Or.inl rfl | exact Or.inr rfl | (intro _; rfl) | (intro _ _; rfl) | (intro _ _ _; rfl))) (@pss_cons _ _ _ _ _ (@ps_for _ _ _ _ _ _ _ _ (by exact PassesOwn.never) (by rfl) (@pi_range1 _ _ _ _ _ _ (by rfl) (by exact T.z_range) (@pa_consN _ _ _ _ _ pe_int pa_nil (by first | rfl | decide | exact Or.inl rfl | exact Or.inr rfl | (intro _; rfl) | (intro _ _; rfl) | (intro _ _ _; rfl))) (by first | rfl | decide | exact Or.inl rfl | exact Or.inr rfl | (intro _; rfl) | (intro _ _; rfl) | (intro _ _ _; rfl))) (@pg_name _ _ (2) _ (by exact S.nd) (by rfl) (by first | exact Or.inl rfl | exact Or.inr rfl) (by first | rfl | decide | exact Or.inl rfl | exact Or.inr rfl | (intro _; rfl) | (intro _ _; rfl) | (intro _ _ _; rfl))) (@pss_cons _ _ _ _ _ (@ps_set _ _ (3) _ _ _ _ (by exact S.nd) (by rfl) (by first | exact Or.inl rfl | exact Or.inr rfl) (@pe_op _ _ _ _ _ _ _ _ op_add pe_int (@cc _ _ _ _ _ _ _ _ _ _ (by exact C_l_draw) (by exact (hr.mono (by decide))) (@pa_consN _ _ _ _ _ (pv 1) (@pa_consN _ _ _ _ _ pe_int pa_nil (by first | rfl | decide | exact Or.inl rfl | exact Or.inr rfl | (intro _; rfl) | (intro _ _; rfl) | (intro _ _ _; rfl))) (by first | rfl | decide | exact Or.inl rfl | exact Or.inr rfl | (intro _; rfl) | (intro _ _; rfl) | (intro _ _ _; rfl))) (by first | rfl | decide | exact Or.inl rfl | exact Or.inr rfl | (intro _; rfl) | (intro _ _; rfl) | (intro _ _ _; rfl)) (by first | rfl | decide | exact Or.inl rfl | exact Or.inr rfl | (intro _; rfl) | (intro _ _; rfl) | (intro _ _ _; rfl)) (by first | rfl | decide | exact Or.inl rfl | exact Or.inr rfl | (intro _; rfl) | (intro _ _; rfl) | (intro _ _ _; rfl)) (by first | rfl | decide | exact Or.inl rfl | exact Or.inr rfl | (intro _; rfl) | (intro _ _; rfl) | (intro _ _ _; rfl)))) (by first | rfl | decide | exact Or.inl rfl | exact Or.inr rfl | (intro _; rfl) | (intro _ _; rfl) | (intro _ _ _; rfl)) (by first | rfl | decide | exact Or.inl rfl | exact Or.inr rfl | (intro _; rfl) | (intro _ _; rfl) | (intro _ _ _; rfl))) (@pss_cons _ _ _ _ _ (@ps_set _ _ (4) _ _ _ _ (by exact S.nd) (by rfl) (by first | exact Or.inl rfl | exact Or.inr rfl) (@cc _ _ _ _ _ _ _ _ _ _ (by exact C_l_draws) (by exact (hr.mono (by decide))) (@pa_consN _ _ _ _ _ (pv 1) (@pa_consN _ _ _ _ _ (pv 3) (@pa_consN _ _ _ _ _ pe_int pa_nil (by first | rfl | decide | exact Or.inl rfl | exact Or.inr rfl | (intro _; rfl) | (intro _ _; rfl) | (intro _ _ _; rfl))) (by first | rfl | decide | exact Or.inl rfl | exact Or.inr rfl | (intro _; rfl) | (intro _ _; rfl) | (intro _ _ _; rfl))) (by first | rfl | decide | exact Or.inl rfl | exact Or.inr rfl | (intro _; rfl) | (intro _ _; rfl) | (intro _ _ _; rfl))) (by first | rfl | decide | exact Or.inl rfl | exact Or.inr rfl | (intro _; rfl) | (intro _ _; rfl) | (intro _ _ _; rfl)) (by first | rfl | decide | exact Or.inl rfl | exact Or.inr rfl | (intro _; rfl) | (intro _ _; rfl) | (intro _ _ _; rfl)) (by first | rfl | decide | exact Or.inl rfl | exact Or.inr rfl | (intro _; rfl) | (intro _ _; rfl) | (intro _ _ _; rfl)) (by first | rfl | decide | exact Or.inl rfl | exact Or.inr rfl | (intro _; rfl) | (intro _ _; rfl) | (intro _ _ _; rfl))) (by first | rfl | decide | exact Or.inl rfl | exact Or.inr rfl | (intro _; rfl) | (intro _ _; rfl) | (intro _ _ _; rfl)) (by first | rfl | decide | exact Or.inl rfl | exact Or.inr rfl | (intro _; rfl) | (intro _ _; rfl) | (intro _ _ _; rfl))) (@pss_cons _ _ _ _ _ (@ps_asg _ _ _ _ _ _ (@cc _ _ _ _ _ _ _ _ _ _ (by exact C_l_filled) (by exact (hr.mono (by decide))) (@pa_consN _ _ _ _ _ (pv 3) (@pa_consN _ _ _ _ _ (pv 4) pa_nil (by first | rfl | decide | exact Or.inl rfl | exact Or.inr rfl | (intro _; rfl) | (intro _ _; rfl) | (intro _ _ _; rfl))) (by first | rfl | decide | exact Or.inl rfl | exact Or.inr rfl | (intro _; rfl) | (intro _ _; rfl) | (intro _ _ _; rfl))) (by first | rfl | decide | exact Or.inl rfl | exact Or.inr rfl | (intro _; rfl) | (intro _ _; rfl) | (intro _ _ _; rfl)) (by first | rfl | decide | exact Or.inl rfl | exact Or.inr rfl | (intro _; rfl) | (intro _ _; rfl) | (intro _ _ _; rfl)) (by first | rfl | decide | exact Or.inl rfl | exact Or.inr rfl | (intro _; rfl) | (intro _ _; rfl) | (intro _ _ _; rfl)) (by first | rfl | decide | exact Or.inl rfl | exact Or.inr rfl | (intro _; rfl) | (intro _ _; rfl) | (intro _ _ _; rfl))) (@pg_tup _ _ _ _ _ _ (by rfl) (@pgs_cons _ _ _ _ _ (@pg_name _ _ (6) _ (by exact S.nd) (by rfl) (by first | exact Or.inl rfl | exact Or.inr rfl) (by first | rfl | decide | exact Or.inl rfl | exact Or.inr rfl | (intro _; rfl) | (intro _ _; rfl) | (intro _ _ _; rfl))) (@pgs_cons _ _ _ _ _ (@pg_name _ _ (7) _ (by exact S.nd) (by rfl) (by first | exact Or.inl rfl | exact Or.inr rfl) (by first | rfl | decide | exact Or.inl rfl | exact Or.inr rfl | (intro _; rfl) | (intro _ _; rfl) | (intro _ _ _; rfl))) pgs_nil (by first | rfl | decide | exact Or.inl rfl | exact Or.inr rfl | (intro _; rfl) | (intro _ _; rfl) | (intro _ _ _; rfl))) (by first | rfl | decide | exact Or.inl rfl | exact Or.inr rfl | (intro _; rfl) | (intro _ _; rfl) | (intro _ _ _; rfl))) (by first | rfl | decide | exact Or.inl rfl | exact Or.inr rfl | (intro _; rfl) | (intro _ _; rfl) | (intro _ _ _; rfl)) (by first | rfl | decide | exact Or.inl rfl | exact Or.inr rfl | (intro _; rfl) | (intro _ _; rfl) | (intro _ _ _; rfl))) (by first | rfl | decide | exact Or.inl rfl | exact Or.inr rfl | (intro _; rfl) | (intro _ _; rfl) | (intro _ _ _; rfl)) (by first | rfl | decide | exact Or.inl rfl | exact Or.inr rfl | (intro _; rfl) | (intro _ _; rfl) | (intro _ _ _; rfl)) (by first | rfl | decide | exact Or.inl rfl | exact Or.inr rfl | (intro _; rfl) | (intro _ _; rfl) | (intro _ _ _; rfl))) (@pss_cons _ _ _ _ _ (@ps_asg _ _ _ _ _ _ (@cc _ _ _ _ _ _ _ _ _ _ (by exact C_by_draws) (by exact (hr.mono (by decide))) (@pa_consN _ _ _ _ _ (@pe_op _ _ _ _ _ _ _ _ op_repS (@pe_tup _ _ _ _ _ (@pa_consN _ _ _ _ _ pe_int pa_nil (by first | rfl | decide | exact Or.inl rfl | exact Or.inr rfl | (intro _; rfl) | (intro _ _; rfl) | (intro _ _ _; rfl)))) (pv 3)) (@pa_consN _ _ _ _ _ (pv 4) pa_nil (by first | rfl | decide | exact Or.inl rfl | exact Or.inr rfl | (intro _; rfl) | (intro _ _; rfl) | (intro _ _ _; rfl))) (by first | rfl | decide | exact Or.inl rfl | exact Or.inr rfl | (intro _; rfl) | (intro _ _; rfl) | (intro _ _ _; rfl))) (by first | rfl | decide | exact Or.inl rfl | exact Or.inr rfl | (intro _; rfl) | (intro _ _; rfl) | (intro _ _ _; rfl)) (by first | rfl | decide | exact Or.inl rfl | exact Or.inr rfl | (intro _; rfl) | (intro _ _; rfl) | (intro _ _ _; rfl)) (by first | rfl | decide | exact Or.inl rfl | exact Or.inr rfl | (intro _; rfl) | (intro _ _; rfl) | (intro _ _ _; rfl)) (by first | rfl | decide | exact Or.inl rfl | exact Or.inr rfl | (intro _; rfl) | (intro _ _; rfl) | (intro _ _ _; rfl))) (@pg_tup _ _ _ _ _ _ (by rfl) (@pgs_cons _ _ _ _ _ (@pg_name _ _ (8) _ (by exact S.nd) (by rfl) (by first | exact Or.inl rfl | exact Or.inr rfl) (by first | rfl | decide | exact Or.inl rfl | exact Or.inr rfl | (intro _; rfl) | (intro _ _; rfl) | (intro _ _ _; rfl))) (@pgs_cons _ _ _ _ _ (@pg_name _ _ (9) _ (by exact S.nd) (by rfl) (by first | exact Or.inl rfl | exact Or.inr rfl) (by first | rfl | decide | exact Or.inl rfl | exact Or.inr rfl | (intro _; rfl) | (intro _ _; rfl) | (intro _ _ _; rfl))) pgs_nil (by first | rfl | decide | exact Or.inl rfl | exact Or.inr rfl | (intro _; rfl) | (intro _ _; rfl) | (intro _ _ _; rfl))) (by first | rfl | decide | exact Or.inl rfl | exact Or.inr rfl | (intro _; rfl) | (intro _ _; rfl) | (intro _ _ _; rfl))) (by first | rfl | decide | exact Or.inl rfl | exact Or.inr rfl | (intro _; rfl) | (intro _ _; rfl) | (intro _ _ _; rfl)) (by first | rfl | decide | exact Or.inl rfl | exact Or.inr rfl | (intro _; rfl) | (intro _ _; rfl) | (intro _ _ _; rfl))) (by first | rfl | decide | exact Or.inl rfl | exact Or.inr rfl | (intro _; rfl) | (intro _ _; rfl) | (intro _ _ _; rfl)) (by first | rfl | decide | exact Or.inl rfl | exact Or.inr rfl | (intro _; rfl) | (intro _ _; rfl) | (intro _ _ _; rfl)) (by first | rfl | decide | exact Or.inl rfl | exact Or.inr rfl | (intro _; rfl) | (intro _ _; rfl) | (intro _ _ _; rfl))) (@pss_cons _ _ _ _ _ (@ps_if _ _ _ _ _ _ _ _ (@PW.pt _ _ _ (@pw_or _ _ _ _ _ _ _ (@pt_cmpR _ _ _ _ _ _ _ _ (op_neD 0 hu1) (@pe_comp _ _ _ _ _ _ _ _ _ _ _ _ _ (by rfl) (by exact (fun _ _ h => h)) (by decide +kernel) (by rfl) (by decide +kernel) (by exact hfr_of rfl) (by exact Sees.frees ["_law_ball", "_law_box"] [] fr_nil) (@pi_list _ _ _ _ (pv 7)) (fun _ _ _ _ _ => @pg_tup0 _ _ _ _ _ (2) (by rfl) (@pgs_cons _ _ _ _ _ (@pg_name _ _ (0) _ (by exact (show (["_law_ball", "_law_box"] : List Str).Nodup by decide +kernel)) (by rfl) (by first | exact Or.inl rfl | exact Or.inr rfl) (by first | rfl | decide | exact Or.inl rfl | exact Or.inr rfl | (intro _; rfl) | (intro _ _; rfl) | (intro _ _ _; rfl))) (@pgs_cons _ _ _ _ _ (@pg_name _ _ (1) _ (by exact (show (["_law_ball", "_law_box"] : List Str).Nodup by decide +kernel)) (by rfl) (by first | exact Or.inl rfl | exact Or.inr rfl) (by first | rfl | decide | exact Or.inl rfl | exact Or.inr rfl | (intro _; rfl) | (intro _ _; rfl) | (intro _ _ _; rfl))) pgs_nil (by first | rfl | decide | exact Or.inl rfl | exact Or.inr rfl | (intro _; rfl) | (intro _ _; rfl) | (intro _ _ _; rfl))) (by first | rfl | decide | exact Or.inl rfl | exact Or.inr rfl | (intro _; rfl) | (intro _ _; rfl) | (intro _ _ _; rfl))) (by first | rfl | decide | exact Or.inl rfl | exact Or.inr rfl | (intro _; rfl) | (intro _ _; rfl) | (intro _ _ _; rfl)) (by first | rfl | decide | exact Or.inl rfl | exact Or.inr rfl | (intro _; rfl) | (intro _ _; rfl) | (intro _ _ _; rfl))) (fun _ _ _ _ _ => pts_nil) (fun _ _ _ _ _ => (pv 1)) (by first | rfl | decide | exact Or.inl rfl | exact Or.inr rfl | (intro _; rfl) | (intro _ _; rfl) | (intro _ _ _; rfl))) (pv 9) (by exact (nomark _))) (@pw_or1 _ _ _ _ (@pt_cmpR _ _ _ _ _ _ _ _ (op_neD 0 hu1) (@pe_comp _ _ _ _ _ _ _ _ _ _ _ _ _ (by rfl) (by exact (fun _ _ h => h)) (by decide +kernel) (by rfl) (by decide +kernel) (by exact hfr_of rfl) (by exact Sees.frees ["_law_ball", "_law_box"] [] fr_nil) (@pi_list _ _ _ _ (pv 7)) (fun _ _ _ _ _ => @pg_tup0 _ _ _ _ _ (2) (by rfl) (@pgs_cons _ _ _ _ _ (@pg_name _ _ (0) _ (by exact (show (["_law_ball", "_law_box"] : List Str).Nodup by decide +kernel)) (by rfl) (by first | exact Or.inl rfl | exact Or.inr rfl) (by first | rfl | decide | exact Or.inl rfl | exact Or.inr rfl | (intro _; rfl) | (intro _ _; rfl) | (intro _ _ _; rfl))) (@pgs_cons _ _ _ _ _ (@pg_name _ _ (1) _ (by exact (show (["_law_ball", "_law_box"] : List Str).Nodup by decide +kernel)) (by rfl) (by first | exact Or.inl rfl | exact Or.inr rfl) (by first | rfl | decide | exact Or.inl rfl | exact Or.inr rfl | (intro _; rfl) | (intro _ _; rfl) | (intro _ _ _; rfl))) pgs_nil (by first | rfl | decide | exact Or.inl rfl | exact Or.inr rfl | (intro _; rfl) | (intro _ _; rfl) | (intro _ _ _; rfl))) (by first | rfl | decide | exact Or.inl rfl | exact Or.inr rfl | (intro _; rfl) | (intro _ _; rfl) | (intro _ _ _; rfl))) (by first | rfl | decide | exact Or.inl rfl | exact Or.inr rfl | (intro _; rfl) | (intro _ _; rfl) | (intro _ _ _; rfl)) (by first | rfl | decide | exact Or.inl rfl | exact Or.inr rfl | (intro _; rfl) | (intro _ _; rfl) | (intro _ _ _; rfl))) (fun _ _ _ _ _ => pts_nil) (fun _ _ _ _ _ => (pv 0)) (by first | rfl | decide | exact Or.inl rfl | exact Or.inr rfl | (intro _; rfl) | (intro _ _; rfl) | (intro _ _ _; rfl))) (@pe_listR _ _ _ _ _ _ _ (by rfl) (by rfl) (by exact T.z_list) (by rfl) (by exact T.z_range) (@pa_consN _ _ _ _ _ (@pe_callB _ _ _ _ _ _ _ _ _ call_len_seq (by rfl) (by exact T.z_len) (by exact bt_len) (@pa_consN _ _ _ _ _ (pv 4) pa_nil (by first | rfl | decide | exact Or.inl rfl | exact Or.inr rfl | (intro _; rfl) | (intro _ _; rfl) | (intro _ _ _; rfl))) (by first | rfl | decide | exact Or.inl rfl | exact Or.inr rfl | (intro _; rfl) | (intro _ _; rfl) | (intro _ _ _; rfl)) (by first | rfl | decide | exact Or.inl rfl | exact Or.inr rfl | (intro _; rfl) | (intro _ _; rfl) | (intro _ _ _; rfl)) (by first | rfl | decide | exact Or.inl rfl | exact Or.inr rfl | (intro _; rfl) | (intro _ _; rfl) | (intro _ _ _; rfl)) (by first | rfl | decide | exact Or.inl rfl | exact Or.inr rfl | (intro _; rfl) | (intro _ _; rfl) | (intro _ _ _; rfl))) pa_nil (by first | rfl | decide | exact Or.inl rfl | exact Or.inr rfl | (intro _; rfl) | (intro _ _; rfl) | (intro _ _ _; rfl))) (by first | rfl | decide | exact Or.inl rfl | exact Or.inr rfl | (intro _; rfl) | (intro _ _; rfl) | (intro _ _ _; rfl))) (by exact (nomark _)))))) (@pss_one _ _ _ (@ps_ret _ _ _ _ pe_bl)) pss_nil) (@pss_cons _ _ _ _ _ (@ps_if _ _ _ _ _ _ _ _ (@PW.pt _ _ _ (@pw_or _ _ _ _ _ _ _ (@pt_cmpR _ _ _ _ _ _ _ _ (op_neI hu) (@pm0 _ _ _ _ _ _ _ _ _ _ _ (by exact M_stand) (by exact CA.cl) (by exact (hr.mono (by decide))) (pv 6) (by first | rfl | decide | exact Or.inl rfl | exact Or.inr rfl | (intro _; rfl) | (intro _ _; rfl) | (intro _ _ _; rfl))) (pv 8) (by exact (nomark _))) (@pw_or1 _ _ _ _ (@pt_cmpR _ _ _ _ _ _ _ _ (op_neI hu) (@pm0 _ _ _ _ _ _ _ _ _ _ _ (by exact M_load) (by exact CA.cl) (by exact (hr.mono (by decide))) (pv 6) (by first | rfl | decide | exact Or.inl rfl | exact Or.inr rfl | (intro _; rfl) | (intro _ _; rfl) | (intro _ _ _; rfl))) (@pe_callTy _ _ _ _ _ _ _ _ _ call_tuple_of (by rfl) (by exact T.z_tuple) (by exact bt_tuple) (@pa_consN _ _ _ _ _ (@pe_sortedRT _ _ _ _ _ _ _ _ _ (by rfl) (by exact T.z_sorted) (@pa_consN _ _ _ _ _ (pv 8) pa_nil (by first | rfl | decide | exact Or.inl rfl | exact Or.inr rfl | (intro _; rfl) | (intro _ _; rfl) | (intro _ _ _; rfl))) (by first | rfl | decide | exact Or.inl rfl | exact Or.inr rfl | (intro _; rfl) | (intro _ _; rfl) | (intro _ _ _; rfl)) (by first | rfl | decide | exact Or.inl rfl | exact Or.inr rfl | (intro _; rfl) | (intro _ _; rfl) | (intro _ _ _; rfl))) pa_nil (by first | rfl | decide | exact Or.inl rfl | exact Or.inr rfl | (intro _; rfl) | (intro _ _; rfl) | (intro _ _ _; rfl))) (by first | rfl | decide | exact Or.inl rfl | exact Or.inr rfl | (intro _; rfl) | (intro _ _; rfl) | (intro _ _ _; rfl)) (by first | rfl | decide | exact Or.inl rfl | exact Or.inr rfl | (intro _; rfl) | (intro _ _; rfl) | (intro _ _ _; rfl)) (by first | rfl | decide | exact Or.inl rfl | exact Or.inr rfl | (intro _; rfl) | (intro _ _; rfl) | (intro _ _ _; rfl)) (by first | rfl | decide | exact Or.inl rfl | exact Or.inr rfl | (intro _; rfl) | (intro _ _; rfl) | (intro _ _ _; rfl))) (by exact (nomark _)))))) (@pss_one _ _ _ (@ps_ret _ _ _ _ pe_bl)) pss_nil) (@pss_cons _ _ _ _ _ (@ps_if _ _ _ _ _ _ _ _ (@pt_cmpR _ _ _ _ _ _ _ _ (op_neD 0 hu1) (@cc _ _ _ _ _ _ _ _ _ _ (by exact C_l_restless) (by exact (hr.mono (by decide))) (@pa_consN _ _ _ _ _ (pv 3) (@pa_consN _ _ _ _ _ (pv 4) pa_nil (by first | rfl | decide | exact Or.inl rfl | exact Or.inr rfl | (intro _; rfl) | (intro _ _; rfl) | (intro _ _ _; rfl))) (by first | rfl | decide | exact Or.inl rfl | exact Or.inr rfl | (intro _; rfl) | (intro _ _; rfl) | (intro _ _ _; rfl))) (by first | rfl | decide | exact Or.inl rfl | exact Or.inr rfl | (intro _; rfl) | (intro _ _; rfl) | (intro _ _ _; rfl)) (by first | rfl | decide | exact Or.inl rfl | exact Or.inr rfl | (intro _; rfl) | (intro _ _; rfl) | (intro _ _ _; rfl)) (by first | rfl | decide | exact Or.inl rfl | exact Or.inr rfl | (intro _; rfl) | (intro _ _; rfl) | (intro _ _ _; rfl)) (by first | rfl | decide | exact Or.inl rfl | exact Or.inr rfl | (intro _; rfl) | (intro _ _; rfl) | (intro _ _ _; rfl))) (pv 9) (by exact (nomark _))) (@pss_one _ _ _ (@ps_ret _ _ _ _ pe_bl)) pss_nil) (@pss_cons _ _ _ _ _ (@ps_comp _ _ _ _ _ _ _ _ _ _ _ _ _ _ _ (5) _ (by exact S.nd) (by rfl) (by first | exact Or.inl rfl | exact Or.inr rfl) (by rfl) (by exact (fun _ _ h => h)) (by decide +kernel) (by rfl) (by decide +kernel) (by exact hfr_of rfl) (by exact Sees.frees ["_law_ball"] [("_law_pen_here", 1)] (fr_cons ⟨rfl, rfl⟩ fr_nil)) (@pi_range1 _ _ _ _ _ _ (by rfl) (by exact T.z_range) (@pa_consN _ _ _ _ _ (@pe_callB _ _ _ _ _ _ _ _ _ call_len_seq (by rfl) (by exact T.z_len) (by exact bt_len) (@pa_consN _ _ _ _ _ (pv 4) pa_nil (by first | rfl | decide | exact Or.inl rfl | exact Or.inr rfl | (intro _; rfl) | (intro _ _; rfl) | (intro _ _ _; rfl))) (by first | rfl | decide | exact Or.inl rfl | exact Or.inr rfl | (intro _; rfl) | (intro _ _; rfl) | (intro _ _ _; rfl)) (by first | rfl | decide | exact Or.inl rfl | exact Or.inr rfl | (intro _; rfl) | (intro _ _; rfl) | (intro _ _ _; rfl)) (by first | rfl | decide | exact Or.inl rfl | exact Or.inr rfl | (intro _; rfl) | (intro _ _; rfl) | (intro _ _ _; rfl)) (by first | rfl | decide | exact Or.inl rfl | exact Or.inr rfl | (intro _; rfl) | (intro _ _; rfl) | (intro _ _ _; rfl))) pa_nil (by first | rfl | decide | exact Or.inl rfl | exact Or.inr rfl | (intro _; rfl) | (intro _ _; rfl) | (intro _ _ _; rfl))) (by first | rfl | decide | exact Or.inl rfl | exact Or.inr rfl | (intro _; rfl) | (intro _ _; rfl) | (intro _ _ _; rfl))) (fun _ _ _ _ _ => @pg_name _ _ (0) _ (by exact (show (["_law_ball", "_law_pen_here"] : List Str).Nodup by decide +kernel)) (by rfl) (by first | exact Or.inl rfl | exact Or.inr rfl) (by first | rfl | decide | exact Or.inl rfl | exact Or.inr rfl | (intro _; rfl) | (intro _ _; rfl) | (intro _ _ _; rfl))) (fun _ _ _ _ _ => (@pts_one _ _ _ (@pt_cmpR _ _ _ _ _ _ _ _ op_eq (@cc _ _ _ _ _ _ _ _ _ _ (by exact C_l_draw) (by exact (hr.mono (by decide))) (@pa_consN _ _ _ _ _ (pv 1) (@pa_consN _ _ _ _ _ pe_int pa_nil (by first | rfl | decide | exact Or.inl rfl | exact Or.inr rfl | (intro _; rfl) | (intro _ _; rfl) | (intro _ _ _; rfl))) (by first | rfl | decide | exact Or.inl rfl | exact Or.inr rfl | (intro _; rfl) | (intro _ _; rfl) | (intro _ _ _; rfl))) (by first | rfl | decide | exact Or.inl rfl | exact Or.inr rfl | (intro _; rfl) | (intro _ _; rfl) | (intro _ _ _; rfl)) (by first | rfl | decide | exact Or.inl rfl | exact Or.inr rfl | (intro _; rfl) | (intro _ _; rfl) | (intro _ _ _; rfl)) (by first | rfl | decide | exact Or.inl rfl | exact Or.inr rfl | (intro _; rfl) | (intro _ _; rfl) | (intro _ _ _; rfl)) (by first | rfl | decide | exact Or.inl rfl | exact Or.inr rfl | (intro _; rfl) | (intro _ _; rfl) | (intro _ _ _; rfl))) pe_int (by exact (nomark _))))) (fun _ _ _ _ _ => (pv 0)) (by first | rfl | decide | exact Or.inl rfl | exact Or.inr rfl | (intro _; rfl) | (intro _ _; rfl) | (intro _ _ _; rfl)) (by first | rfl | decide | exact Or.inl rfl | exact Or.inr rfl | (intro _; rfl) | (intro _ _; rfl) | (intro _ _ _; rfl)) (by first | rfl | decide | exact Or.inl rfl | exact Or.inr rfl | (intro _; rfl) | (intro _ _; rfl) | (intro _ _ _; rfl))) (@pss_one _ _ _ (@ps_if _ _ _ _ _ _ _ _ (@pt_not _ _ _ _ (@pt_val _ _ _ (@cc _ _ _ _ _ _ _ _ _ _ (by exact C_l_left_right) (by exact (hr.mono (by decide))) (@pa_consN _ _ _ _ _ (pv 1) (@pa_consN _ _ _ _ _ (pv 3) (@pa_consN _ _ _ _ _ (pv 4) (@pa_consN _ _ _ _ _ (pv 5) pa_nil (by first | rfl | decide | exact Or.inl rfl | exact Or.inr rfl | (intro _; rfl) | (intro _ _; rfl) | (intro _ _ _; rfl))) (by first | rfl | decide | exact Or.inl rfl | exact Or.inr rfl | (intro _; rfl) | (intro _ _; rfl) | (intro _ _ _; rfl))) (by first | rfl | decide | exact Or.inl rfl | exact Or.inr rfl | (intro _; rfl) | (intro _ _; rfl) | (intro _ _ _; rfl))) (by first | rfl | decide | exact Or.inl rfl | exact Or.inr rfl | (intro _; rfl) | (intro _ _; rfl) | (intro _ _ _; rfl))) (by first | rfl | decide | exact Or.inl rfl | exact Or.inr rfl | (intro _; rfl) | (intro _ _; rfl) | (intro _ _ _; rfl)) (by first | rfl | decide | exact Or.inl rfl | exact Or.inr rfl | (intro _; rfl) | (intro _ _; rfl) | (intro _ _ _; rfl)) (by first | rfl | decide | exact Or.inl rfl | exact Or.inr rfl | (intro _; rfl) | (intro _ _; rfl) | (intro _ _ _; rfl)) (by first | rfl | decide | exact Or.inl rfl | exact Or.inr rfl | (intro _; rfl) | (intro _ _; rfl) | (intro _ _ _; rfl))) (by first | rfl | decide | exact Or.inl rfl | exact Or.inr rfl | (intro _; rfl) | (intro _ _; rfl) | (intro _ _ _; rfl)))) (@pss_one _ _ _ (@ps_ret _ _ _ _ pe_bl)) pss_nil)))))))))) (by first | rfl | decide | exact Or.inl rfl | exact Or.inr rfl | (intro _; rfl) | (intro _ _; rfl) | (intro _ _ _; rfl))) (@pss_one _ _ _ (@ps_ret _ _ _ _ pe_bl)))), ?_⟩
  refine ⟨_, rfl, a, ns, rfl, hS, fun pn H0 s0 pen0 => ?_⟩
  refine ⟨3, rfl, by decide, by decide, for_range (n := 3) (fun i σ H2 => (∃ o2 o3 o4 o5 o6 o7 o8 o9, σ = [some (.ref a), some (.ref pn), o2, o3, o4, o5, o6, o7, o8, o9]) ∧ Pen H2 pn (450 * i) ∧ H2 D = some (.tab (qLam "emptiest_of"))) ⟨⟨_, _, _, _, _, _, _, _, rfl⟩, pen0, s0 _ _ hT⟩ ?_ ?_⟩
  · rintro i σ H1 hi ⟨⟨o2, o3, o4, o5, o6, o7, o8, o9, rfl⟩, pen, hD⟩
    refine ⟨_, rfl, pn, _, _, rfl, pen, by omega, by decide, by decide, fun d0 H2 d00 d01 p2 x2 => ⟨_, _, rfl, rfl, ?_⟩⟩
    obtain ⟨n, hn⟩ : ∃ n, n = 1 + d0 := ⟨_, rfl⟩
    dsimp only
    rw [← hn]
    refine ⟨_, rfl, _, rfl, pn, n, 30, _, rfl, p2, by omega, by omega, by omega, by decide, by decide, fun dl xs dss H3 hdl dr od hxl p3 x3 => ?_⟩
    have hD3 := pen.keep (x2.trans x3) hD
    have dlen := dr.len
    refine ⟨_, rfl, _, rfl, dl, n, xs, dss, rfl, by omega, by omega, hdl, dr, od, by omega, hD3, fun r p l d q bl ys H4 s4 np nl nd nq nbl bnl bnq hr4 hbl4 pr4 RI4 => ?_⟩
    refine ⟨r, _, rfl, SqT.of hr4, rfl, _, _, rfl, _, _, rfl, rfl, ?_⟩
    obtain ⟨full, hfull⟩ : ∃ full, full = (byF (zs n.toNat) dss).1 := ⟨_, rfl⟩
    obtain ⟨bs, hbs⟩ : ∃ bs, bs = (byF (zs n.toNat) dss).2 := ⟨_, rfl⟩
    have bsl : bs.length = dss.length := by rw [hbs]; exact (byF_len _ _).2
    rw [← hfull, ← hbs] at RI4
    rw [← hbs] at pr4
    refine ⟨lz 1 rfl, fun t8 ht8 => ⟨_, rfl, t8, n, _, rfl, rfl, upd_same, by simp, by omega, by omega, by simp, fun c H5 s5 hc => ?_⟩⟩
    rw [rep1'] at hc
    have s45 := (same_new ht8 (.tup [.int 0])).trans s5
    have s35 := s4.trans s45
    refine ⟨_, rfl, c, dl, zs n.toNat, xs, dss, rfl, hc, s35 _ _ hdl, dr.same s35, (by show OkD (List.replicate n.toNat (0 : Int)).length dss; rw [List.length_replicate]; exact od), by omega, s35 _ _ hD3, fun r2 t2 l2 H6 s6 hr6 ht6 hl6 _ => ?_⟩
    rw [← hfull] at ht6
    rw [← hbs] at hl6
    refine ⟨r2, _, rfl, SqT.of hr6, rfl, _, _, rfl, _, _, rfl, rfl, ?_⟩
    have s46 := s45.trans s6
    have s36 := s4.trans s46
    have hbl6 := s46 _ _ hbl4
    have pr6 : Prs H6 ys (bp bs) := pr4.same s46
    have ysl : ys.length ≤ 10000 := by have := prs_len pr6; rw [bp_len] at this; omega
    refine ⟨_, rfl, bl, rfl, ⟨_, SqL.of hbl6⟩, comp_prL (ps := bp bs) (fs := []) (fun qq => .int qq.2) hbl6 pr6 ysl (fun qq _ H' Q' _ hQ => ⟨_, rfl, hQ H' (Same.refl _)⟩) fun q7 H7 s7 hq7 => ?_⟩
    rw [bp_box] at hq7
    have ff : ∀ {bb : Bool} {d : PyData}, (bb = true ↔ d ≠ d) → bb = false := fun {bb d} h => by
      cases bb with
      | false => rfl
      | true => exact absurd rfl (h.mp rfl)
    refine ⟨_, rfl, .list (bs.map PyData.int), .list (bs.map PyData.int), .lst hq7 (data_ints _ _), .lst (s7 _ _ hl6) (data_ints _ _), cmp_ints 0 _ _, fun bb hbb => ⟨_, rfl, ?_⟩⟩
    rw [ff hbb]
    refine iteF ?_
    have hbl7 := s7 _ _ hbl6
    refine ⟨_, rfl, bl, rfl, ⟨_, SqL.of hbl7⟩, comp_prL (ps := bp bs) (fs := []) (fun qq => .int qq.1) hbl7 (pr6.same s7) ysl (fun qq _ H' Q' _ hQ => ⟨_, rfl, hQ H' (Same.refl _)⟩) fun q8 H8 s8 hq8 => ?_⟩
    rw [bp_ball] at hq8
    have s38 := (s36.trans s7).trans s8
    have hdl8 := s38 _ _ hdl
    refine ⟨_, rfl, dl, _, rfl, .inl (SqL.of hdl8), xs.length, rfl, by omega, fun q9 hq9 => ?_⟩
    have s9 := same_new hq9 (.lst (iv ((List.range xs.length).map fun (i : Nat) => (i : Int))))
    rw [show bs.length = xs.length by omega] at hq8
    refine ⟨_, _, .lst (s9 _ _ hq8) (data_ints _ _), .lst upd_same (data_ints _ _), cmp_ints 0 _ _, fun bb hbb => ⟨_, rfl, ?_⟩⟩
    rw [ff hbb]
    refine iteF ?_
    have s49 := ((s46.trans s7).trans s8).trans s9
    have s69 := (s7.trans s8).trans s9
    have s39 := s38.trans s9
    generalize upd H8 q9 (.lst (iv ((List.range xs.length).map fun (i : Nat) => (i : Int)))) = H9 at s9 s49 s69 s39
    have RI9 := RI4.same s49
    have nlen := RI9.hs.len
    have no : ∀ {nb : Int} {m : Str}, ¬ m = "numbers" → ¬ m = "places" → ¬ m = "next_ball" → ¬ m = "deeds" → (flds l d nb q).lookup m = none := fun a b c e => flds_no _ _ _ _ a b c e
    obtain ⟨⟨_, _, ⟨⟨dx9, hp9⟩, _⟩, _⟩, _, _⟩ := id RI9
    refine ⟨_, rfl, p, dx9, _, rfl, hp9, no (by decide +kernel) (by decide +kernel) (by decide +kernel) (by decide +kernel), p, l, d, q, n.toNat, _, _, _, _, _, rfl, RI9, fun t10 H10 s10 ht10 => ?_⟩
    refine ⟨_, rfl, t10, t2, _, _, rfl, rfl, ht10, s10 _ _ (s69 _ _ ht6), _, rfl, ?_⟩
    rw [decide_eq_true rfl]
    refine iteF ?_
    have RI10 := RI9.same s10
    refine ⟨_, rfl, p, dx9, _, rfl, s10 _ _ hp9, no (by decide +kernel) (by decide +kernel) (by decide +kernel) (by decide +kernel), p, l, d, q, n.toNat, _, _, _, _, _, rfl, RI10, by omega, fun t11 ms H11 s11 pm11 od11 ht11 => ?_⟩
    have s611 := (s69.trans s10).trans s11
    refine ⟨_, rfl, t2, full, rfl, s611 _ _ ht6, by omega, fun q12 ms' hq12 pm12 od12 => ?_⟩
    have s12 := same_new hq12 (.lst (iv ms'))
    refine ⟨q12, iv ms', rfl, .inl ⟨SqL.of upd_same, fun t13 ht13 => ?_⟩⟩
    have s13 := s12.trans (same_new ht13 (.tup (iv ms')))
    have em : ms = ms' := desc_eq (pm11.trans pm12.symm) od11 od12
    refine ⟨t11, t13, ms, ms', rfl, rfl, s13 _ _ ht11, upd_same, _, rfl, ?_⟩
    rw [decide_eq_true em]
    refine iteF ?_
    have s613 := s611.trans s13
    have s313 := s36.trans s613
    generalize upd (upd H11 q12 (.lst (iv ms'))) t13 (.tup (iv ms')) = H13 at s13 s613 s313
    refine ⟨_, rfl, _, rfl, dl, n, xs, dss, rfl, by omega, by omega, s313 _ _ hdl, dr.same s313, od, by omega, s313 _ _ hD3, fun fo H14 s14 hfo => ?_⟩
    rw [← hbs] at hfo
    refine ⟨_, rfl, _, _, .lst hfo (data_ints _ _), .lst (s14 _ _ (s613 _ _ hl6)) (data_ints _ _), cmp_ints 0 _ _, fun bb hbb => ⟨_, rfl, ?_⟩⟩
    rw [ff hbb]
    refine iteF ?_
    have s314 := s313.trans s14
    have pen14 := p3.same s314
    have hdl14 := s314 _ _ hdl
    refine ⟨_, rfl, dl, _, rfl, .inl (SqL.of hdl14), _, rfl, by omega, by omega, comp_rngT (n := ((xs.length : Nat) : Int).toNat) (lo := 0) (fs := [some (.ref pn)]) (fun acc j ys H' => Pen H' pn (450 * i + 1 + 250 + j) ∧ SameX pn H14 H' ∧ ∃ gs : List Int, ys = iv gs ∧ gs.Pairwise (· < ·) ∧ gs.length ≤ j ∧ ∀ g ∈ gs, 0 ≤ g ∧ g < j) (by omega) (fun acc hacc => ⟨pen14.same (same_new hacc _), (same_new hacc _).x, [], rfl, .nil, Nat.zero_le _, fun g hg => absurd hg (by simp)⟩) ?_ ?_⟩
    · rintro acc j ys H15 hacc hj ⟨p15, x15, gs, rfl, gp, gl, gr⟩ hacc' Qf Q' hF hQ
      refine ⟨_, rfl, pn, _, _, rfl, p15, by omega, by decide, by decide, fun c H16 c0 c1 p16 x16 => ⟨rfl, _, rfl, ?_⟩⟩
      have x1416 := x15.trans x16
      have hacc16 := p15.keep x16 hacc'
      by_cases e : c = 0
      · rw [e, decide_eq_true rfl]
        obtain ⟨u1, u2⟩ := penX_upd hacc pen14 x1416 p16 (.lst (iv gs ++ [.int (0 + (j : Int))]))
        refine ⟨_, rfl, hQ _ H16 hacc16 ⟨u1, u2, gs ++ [0 + (j : Int)], by simp, ?_, by simp; omega, fun g hg => ?_⟩⟩
        · rw [List.pairwise_append]
          refine ⟨gp, List.pairwise_singleton _ _, fun x hx y hy => ?_⟩
          rw [List.mem_singleton.mp hy]
          have := gr x hx
          omega
        · rcases List.mem_append.mp hg with z | z
          · have := gr g z; omega
          · rw [List.mem_singleton.mp z]; omega
      · rw [decide_eq_false fun z => e (V.int.inj z)]
        exact hF H16 hacc16 ⟨p16, x1416, gs, rfl, gp, by omega, fun g hg => by have := gr g hg; omega⟩
    rintro gl ys15 H15 hgl0 ⟨p15, x15, gs, rfl, gp, glen, gr⟩ hgl
    have hD15 := pen14.keep x15 (s314 _ _ hD3)
    refine ⟨_, rfl, _, rfl, _, rfl, _, rfl, pn, dl, gl, n, xs, dss, gs, _, rfl, p15, by omega, by omega, by omega, pen14.keep x15 hdl14, (dr.same s314).mono fun a xs e => pen14.keep x15 e, od, by omega, hgl, gp.imp (fun h => by omega), by omega, (fun g hg => by have := gr g hg; omega), hD15, fun H16 p16 x16 => ⟨_, rfl, iteF ?_⟩⟩
    exact ⟨⟨_, _, _, _, _, _, _, _, rfl⟩, p16.mono (by omega), p15.keep x16 hD15⟩
  · rintro σ H2 ⟨⟨o2, o3, o4, o5, o6, o7, o8, o9, rfl⟩, pen, hD⟩
    exact k _ hD
end
end My

set_option Elab.async false
set_option linter.all false
set_option maxRecDepth 100000
set_option maxHeartbeats 4000000
namespace My
open PySem L2 MA
/-- the class as the top has made it -/
def RoomFuns (K : PySem.W.Frag) (mg : Str → Option Value) : Prop := ∃ C : Addr, RmT K mg C ∧ MFun K C "__init__" "Room.__init__" ["self", "n"] s_Room____init__ ∧ MFun K C "put" "Room.put" ["self", "draw"] s_Room__put ∧ MFun K C "leave" "Room.leave" ["self", "ball"] s_Room__leave ∧ MFun K C "back" "Room.back" ["self"] s_Room__back ∧ MFun K C "lay" "Room.lay" ["self", "ball", "box"] s_Room__lay ∧ MFun K C "lift" "Room.lift" ["self", "ball", "box"] s_Room__lift ∧ MFun K C "where" "Room.where" ["self", "ball"] s_Room__where ∧ MFun K C "stand" "Room.stand" ["self"] s_Room__stand ∧ MFun K C "load" "Room.load" ["self"] s_Room__load
theorem room_mk {K : PySem.W.Frag} {h : Heap} {mg : Str → Option Value} {C f0 f1 f2 f3 f4 f5 f6 f7 f8 : Addr} {od0 an0 od1 an1 od2 an2 od3 an3 od4 an4 od5 an5 od6 an6 od7 an7 od8 an8 : Option Addr} {sl0 sl1 sl2 sl3 sl4 sl5 sl6 sl7 sl8 : Array (Option Value)} {oc0 kV0 dc0 pm0 cd0 ct0 oc1 kV1 dc1 pm1 cd1 ct1 oc2 kV2 dc2 pm2 cd2 ct2 oc3 kV3 dc3 pm3 cd3 ct3 oc4 kV4 dc4 pm4 cd4 ct4 oc5 kV5 dc5 pm5 cd5 ct5 oc6 kV6 dc6 pm6 cd6 ct6 oc7 kV7 dc7 pm7 cd7 ct7 oc8 kV8 dc8 pm8 cd8 ct8 : Value} (X : K.In h) (G : h.Ns mainGlobals mg)
    (aC : PySem.W.nsIn K mainGlobals "Room" = some (some (.ref C))) (pg : PySem.W.plainGet K C Str.empty = true) (hd : PySem.W.hasDictIn K C = true) (po : PySem.W.plainOver K C = true) (sa : PySem.W.findIn K (.ref C) "__setattr__" = some (some (.builtin "object.__setattr__"))) (mk : PySem.W.makesIn K C = true) (kc : PySem.W.keepIn K (.ref C) = true)
    (n1 : PySem.W.findIn K (.ref C) "numbers" = some none) (n2 : PySem.W.findIn K (.ref C) "places" = some none) (n3 : PySem.W.findIn K (.ref C) "next_ball" = some none) (n4 : PySem.W.findIn K (.ref C) "deeds" = some none)
    (a0 : PySem.W.findIn K (.ref C) "__init__" = some (some (.ref f0))) (i0 : PySem.W.isFn K (.ref f0) = true) (l0 : K.lookup f0 = some ⟨oc0, od0, .func (PySem.W.fnOf "__init__" "Room.__init__" (defArgs s_Room____init__) (defBody s_Room____init__) (defScope s_Room____init__) .none kV0 dc0 pm0 an0 cd0 ct0), sl0⟩) (c0 : PySem.W.codeIn K cd0 "Room.__init__" = true) (k0 : PySem.W.keepIn K (.ref f0) = true)
    (a1 : PySem.W.findIn K (.ref C) "put" = some (some (.ref f1))) (i1 : PySem.W.isFn K (.ref f1) = true) (l1 : K.lookup f1 = some ⟨oc1, od1, .func (PySem.W.fnOf "put" "Room.put" (defArgs s_Room__put) (defBody s_Room__put) (defScope s_Room__put) .none kV1 dc1 pm1 an1 cd1 ct1), sl1⟩) (c1 : PySem.W.codeIn K cd1 "Room.put" = true) (k1 : PySem.W.keepIn K (.ref f1) = true)
    (a2 : PySem.W.findIn K (.ref C) "leave" = some (some (.ref f2))) (i2 : PySem.W.isFn K (.ref f2) = true) (l2 : K.lookup f2 = some ⟨oc2, od2, .func (PySem.W.fnOf "leave" "Room.leave" (defArgs s_Room__leave) (defBody s_Room__leave) (defScope s_Room__leave) .none kV2 dc2 pm2 an2 cd2 ct2), sl2⟩) (c2 : PySem.W.codeIn K cd2 "Room.leave" = true) (k2 : PySem.W.keepIn K (.ref f2) = true)
    (a3 : PySem.W.findIn K (.ref C) "back" = some (some (.ref f3))) (i3 : PySem.W.isFn K (.ref f3) = true) (l3 : K.lookup f3 = some ⟨oc3, od3, .func (PySem.W.fnOf "back" "Room.back" (defArgs s_Room__back) (defBody s_Room__back) (defScope s_Room__back) .none kV3 dc3 pm3 an3 cd3 ct3), sl3⟩) (c3 : PySem.W.codeIn K cd3 "Room.back" = true) (k3 : PySem.W.keepIn K (.ref f3) = true)
    (a4 : PySem.W.findIn K (.ref C) "lay" = some (some (.ref f4))) (i4 : PySem.W.isFn K (.ref f4) = true) (l4 : K.lookup f4 = some ⟨oc4, od4, .func (PySem.W.fnOf "lay" "Room.lay" (defArgs s_Room__lay) (defBody s_Room__lay) (defScope s_Room__lay) .none kV4 dc4 pm4 an4 cd4 ct4), sl4⟩) (c4 : PySem.W.codeIn K cd4 "Room.lay" = true) (k4 : PySem.W.keepIn K (.ref f4) = true)
    (a5 : PySem.W.findIn K (.ref C) "lift" = some (some (.ref f5))) (i5 : PySem.W.isFn K (.ref f5) = true) (l5 : K.lookup f5 = some ⟨oc5, od5, .func (PySem.W.fnOf "lift" "Room.lift" (defArgs s_Room__lift) (defBody s_Room__lift) (defScope s_Room__lift) .none kV5 dc5 pm5 an5 cd5 ct5), sl5⟩) (c5 : PySem.W.codeIn K cd5 "Room.lift" = true) (k5 : PySem.W.keepIn K (.ref f5) = true)
    (a6 : PySem.W.findIn K (.ref C) "where" = some (some (.ref f6))) (i6 : PySem.W.isFn K (.ref f6) = true) (l6 : K.lookup f6 = some ⟨oc6, od6, .func (PySem.W.fnOf "where" "Room.where" (defArgs s_Room__where) (defBody s_Room__where) (defScope s_Room__where) .none kV6 dc6 pm6 an6 cd6 ct6), sl6⟩) (c6 : PySem.W.codeIn K cd6 "Room.where" = true) (k6 : PySem.W.keepIn K (.ref f6) = true)
    (a7 : PySem.W.findIn K (.ref C) "stand" = some (some (.ref f7))) (i7 : PySem.W.isFn K (.ref f7) = true) (l7 : K.lookup f7 = some ⟨oc7, od7, .func (PySem.W.fnOf "stand" "Room.stand" (defArgs s_Room__stand) (defBody s_Room__stand) (defScope s_Room__stand) .none kV7 dc7 pm7 an7 cd7 ct7), sl7⟩) (c7 : PySem.W.codeIn K cd7 "Room.stand" = true) (k7 : PySem.W.keepIn K (.ref f7) = true)
    (a8 : PySem.W.findIn K (.ref C) "load" = some (some (.ref f8))) (i8 : PySem.W.isFn K (.ref f8) = true) (l8 : K.lookup f8 = some ⟨oc8, od8, .func (PySem.W.fnOf "load" "Room.load" (defArgs s_Room__load) (defBody s_Room__load) (defScope s_Room__load) .none kV8 dc8 pm8 an8 cd8 ct8), sl8⟩) (c8 : PySem.W.codeIn K cd8 "Room.load" = true) (k8 : PySem.W.keepIn K (.ref f8) = true)
    : RoomFuns K mg :=
  ⟨C, ⟨⟨⟨pg, hd, po, sa⟩, PySem.W.mg_of X G aC, mk, kc⟩, n1, n2, n3, n4⟩, mfun_mk (fun _ _ _ _ _ _ us hl => match us, hl with | [_, _], _ => rfl) a0 i0 l0 c0 k0, mfun_mk (fun _ _ _ _ _ _ us hl => match us, hl with | [_, _], _ => rfl) a1 i1 l1 c1 k1, mfun_mk (fun _ _ _ _ _ _ us hl => match us, hl with | [_, _], _ => rfl) a2 i2 l2 c2 k2, mfun_mk (fun _ _ _ _ _ _ us hl => match us, hl with | [_], _ => rfl) a3 i3 l3 c3 k3, mfun_mk (fun _ _ _ _ _ _ us hl => match us, hl with | [_, _, _], _ => rfl) a4 i4 l4 c4 k4, mfun_mk (fun _ _ _ _ _ _ us hl => match us, hl with | [_, _, _], _ => rfl) a5 i5 l5 c5 k5, mfun_mk (fun _ _ _ _ _ _ us hl => match us, hl with | [_, _], _ => rfl) a6 i6 l6 c6 k6, mfun_mk (fun _ _ _ _ _ _ us hl => match us, hl with | [_], _ => rfl) a7 i7 l7 c7 k7, mfun_mk (fun _ _ _ _ _ _ us hl => match us, hl with | [_], _ => rfl) a8 i8 l8 c8 k8⟩
theorem mr_MOST {K : PySem.W.Frag} {h : Heap} {mg : Str → Option Value} {tk : Tok} (X : K.In h) (G : h.Ns mainGlobals mg) (a : PySem.W.nsIn K mainGlobals "MOST_IN_ROOM" = some (some (.int 60 tk))) : ∃ tk : Tok, mg "MOST_IN_ROOM" = some (.int 60 tk) := ⟨tk, PySem.W.mg_of X G a⟩
end My

set_option Elab.async false
set_option linter.all false
set_option maxRecDepth 100000
set_option maxHeartbeats 4000000
namespace My
open PySem L2 MA
structure Funs (K : PySem.W.Frag) (mg : Str → Option Value) : Prop where
  f_emptiest_of : FunAt K mg "emptiest_of" ["numbers", "draw"] s_emptiest_of
  f_by_draws : FunAt K mg "by_draws" ["stand", "draws"] s_by_draws
  f_is_whole : FunAt K mg "is_whole" ["thing"] s_is_whole
  f_falling : FunAt K mg "falling" ["numbers"] s_falling
  f_l_pen : FunAt K mg "_law_pen" ["_law_script"] s_l_pen
  f_l_draw : FunAt K mg "_law_draw" ["_law_pen_here", "_law_many"] s_l_draw
  f_l_draws : FunAt K mg "_law_draws" ["_law_pen_here", "_law_n", "_law_most"] s_l_draws
  f_l_order : FunAt K mg "_law_order" ["_law_pen_here", "_law_some"] s_l_order
  f_l_filled : FunAt K mg "_law_filled" ["_law_n", "_law_draws_here"] s_l_filled
  f_l_restless : FunAt K mg "_law_restless" ["_law_n", "_law_draws_here"] s_l_restless
  f_l_left_right : FunAt K mg "_law_left_right" ["_law_pen_here", "_law_n", "_law_draws_here", "_law_gone"] s_l_left_right
theorem all_mk {l : PySem.W.OpenLaw} {w : World} {K : PySem.W.Frag} {h : Heap} {mg : Str → Option Value} {fa f3 : Addr} (X : K.In h) (G : h.Ns mainGlobals mg) (hfa : mg "law" = some (.ref fa))
    {od3 an3 : Option Addr} {sl3 : Array (Option Value)} {oc3 kV3 dc3 pm3 cd3 ct3 : Value} (T : Txt2 mg) (FA : Funs K mg) {tk_M : Tok} (h_M : mg "MOST_IN_ROOM" = some (.int 60 tk_M)) (RM : RoomFuns K mg)
    (a3 : PySem.W.nsIn K mainGlobals "law" = some (some (.ref f3))) (l3 : K.lookup f3 = some ⟨oc3, od3, .func (PySem.W.fnOf "law" "law" (defArgs s_law) (defBody s_law) (defScope s_law) .none kV3 dc3 pm3 an3 cd3 ct3), sl3⟩) (c3 : PySem.W.codeIn K cd3 "law" = true) (k3 : PySem.W.keepIn K (.ref f3) = true) :
    ∃ fd : FuncData, (∀ (s : Shared) (v : Value), BindsTo s fd ⟨[v], []⟩ [("_law_script", v)]) ∧ ∀ (cp : Str → Addr × Addr) (base : Heap), K.In base → base.Ns mainGlobals mg → (∀ y ∈ (["emptiest_of"] : List Str), LamFor mg base y (cp y).1 (cp y).2) → FnOk l.prog w K mg base CX0 7 fa fd ["_law_script"] (spLawT K (cp "emptiest_of").2 (qLam "emptiest_of")) := by
  have e := hfa.symm.trans (PySem.W.mg_of X G a3)
  cases e
  have F3 := fun_mk (st := s_law) l3 c3 k3
  refine ⟨PySem.W.fnOf "law" "law" (defArgs s_law) (defBody s_law) (defScope s_law) .none kV3 dc3 pm3 an3 cd3 ct3, fun s v => .of_eq rfl, fun cp base kb nb LF => ?_⟩
  have L0 := LF "emptiest_of" (by simp)
  have c_em := ok_em (P := l.prog) (w := w) (base := base) T kb L0 FA.f_emptiest_of
  obtain ⟨C, R, m___init__, m_put, m_leave, m_back, m_lay, m_lift, m_where, m_stand, m_load⟩ := RM
  have c_by := ok_by T c_em FA.f_by_draws
  have c_whole := ok_whole (P := l.prog) (w := w) (base := base) T.toTxt FA.f_is_whole
  have c_falling := ok_falling (P := l.prog) (w := w) (base := base) T FA.f_falling
  have M_init := ok_init (P := l.prog) (w := w) (base := base) R m___init__
  have M_lay := ok_lay (P := l.prog) (w := w) (base := base) R m_lay
  have M_lift := ok_lift (P := l.prog) (w := w) (base := base) R m_lift
  have M_where0 := ok_where R c_whole m_where
  have M_where := M_where0.imp whereR
  have M_put := ok_put R T h_M ⟨tk_M, rfl⟩ c_em M_lay m_put
  have M_leave := ok_leave R M_where0 M_lift m_leave
  have M_back := ok_back R M_lay M_lift m_back
  have M_stand := ok_stand (P := l.prog) (w := w) (base := base) R T m_stand
  have M_load := ok_loadR R T c_falling m_load
  have c_pen := ok_pen (P := l.prog) (w := w) (base := base) FA.f_l_pen
  have c_draw := ok_draw (P := l.prog) (w := w) (base := base) T.toTxt FA.f_l_draw
  have c_draws := ok_draws T c_draw FA.f_l_draws
  have c_order := ok_order T c_draw FA.f_l_order
  have c_filled := ok_filled R T M_init M_put FA.f_l_filled
  have c_restless := ok_restless R T M_init M_put M_back M_leave FA.f_l_restless
  have c_lr := ok_lr R T M_put M_back M_leave M_where M_stand c_by c_order c_filled FA.f_l_left_right
  exact ok_law R T M_stand M_load c_by c_pen c_draw c_draws c_filled c_restless c_lr F3
theorem walk {l : PySem.W.OpenLaw} {q : Program} {loose : List Str} {XP : (Str → Option Value) → Heap → Prop} {YP : World → Heap → Prop} {d : PySem.DefRec} {K : Params → PySem.W.Frag} (hn : l.most = some 63) (hdf : d.params.defaults = [])
    (hY : ∀ (w : World) (h : Heap), YP w h → (K w.params).In h) (noT : ∀ p, PySem.W.noTabs (K p) = true) (hlam : ∀ y ∈ (["emptiest_of"] : List Str), ∃ e ∈ PyProof.Rows.recsOf q, e.name = y)
    (F : ∀ (w : World) (mg : Str → Option Value) (fa : Addr) (h : Heap), (K w.params).In h → h.Ns mainGlobals mg → mg d.name = some (.ref fa) →
      ∃ fd : FuncData, (∀ (s : Shared) (u : Value), BindsTo s fd ⟨[u], []⟩ [("_law_script", u)]) ∧ ∀ (cp : Str → Addr × Addr) (base : Heap), (K w.params).In base → base.Ns mainGlobals mg → (∀ y ∈ (["emptiest_of"] : List Str), LamFor mg base y (cp y).1 (cp y).2) → FnOk l.prog w (K w.params) mg base CX0 7 fa fd ["_law_script"] (spLawT (K w.params) (cp "emptiest_of").2 (qLam "emptiest_of"))) :
    PySem.W.WalkO q loose XP YP l.row.toRowW d [] (fun f vs => PySem.call f vs) :=
  L2.walk_ofT (n := 63) (k := 7) (x := "_law_script") (lams := ["emptiest_of"]) (sp := fun w cp => spLawT (K w.params) (cp "emptiest_of").2 (qLam "emptiest_of")) hn (by decide) hdf ⟨rfl, by decide, by decide, rfl⟩ noT hlam hY
    (fun _ _ _ _ _ _ _ y hy z hz _ => by simp at hy hz; rw [hy, hz]) F (fun _ cp H a ns hl hS hT => ⟨a, ns, rfl, hS, hl, hT "emptiest_of" (by simp), fun H' h' => ⟨rfl, fun y hy => by simp at hy; subst hy; exact h'⟩⟩)
theorem txt_mk {K : PySem.W.Frag} {h : Heap} {mg : Str → Option Value} (X : K.In h) (G : h.Ns mainGlobals mg)
    (z_abs : PySem.W.nsIn K mainGlobals "abs" = some none)
    (z_len : PySem.W.nsIn K mainGlobals "len" = some none)
    (z_isinstance : PySem.W.nsIn K mainGlobals "isinstance" = some none)
    (z_range : PySem.W.nsIn K mainGlobals "range" = some none)
    (z_int : PySem.W.nsIn K mainGlobals "int" = some none)
    (z_bool : PySem.W.nsIn K mainGlobals "bool" = some none)
    (z_tuple : PySem.W.nsIn K mainGlobals "tuple" = some none)
    (z_list : PySem.W.nsIn K mainGlobals "list" = some none)
    (z_all : PySem.W.nsIn K mainGlobals "all" = some none)
    (z_str : PySem.W.nsIn K mainGlobals "str" = some none)
    (z_repr : PySem.W.nsIn K mainGlobals "repr" = some none)
    (z_dict : PySem.W.nsIn K mainGlobals "dict" = some none)
    (z_sum : PySem.W.nsIn K mainGlobals "sum" = some none)
    (z_sorted : PySem.W.nsIn K mainGlobals "sorted" = some none)
    (z_max : PySem.W.nsIn K mainGlobals "max" = some none)
    (z_min : PySem.W.nsIn K mainGlobals "min" = some none)
    (z_any : PySem.W.nsIn K mainGlobals "any" = some none)
    (z_enumerate : PySem.W.nsIn K mainGlobals "enumerate" = some none)
    (z_zip : PySem.W.nsIn K mainGlobals "zip" = some none)
    (z_set : PySem.W.nsIn K mainGlobals "set" = some none)
    (z_reversed : PySem.W.nsIn K mainGlobals "reversed" = some none)
    (z_ValueError : PySem.W.nsIn K mainGlobals "ValueError" = some none)
    : Txt2 mg := ⟨⟨PySem.W.mg_none_of X G z_abs, PySem.W.mg_none_of X G z_len, PySem.W.mg_none_of X G z_isinstance, PySem.W.mg_none_of X G z_range, PySem.W.mg_none_of X G z_int, PySem.W.mg_none_of X G z_bool, PySem.W.mg_none_of X G z_tuple, PySem.W.mg_none_of X G z_list, PySem.W.mg_none_of X G z_all⟩, PySem.W.mg_none_of X G z_str, PySem.W.mg_none_of X G z_repr, PySem.W.mg_none_of X G z_dict, PySem.W.mg_none_of X G z_sum, PySem.W.mg_none_of X G z_sorted, PySem.W.mg_none_of X G z_max, PySem.W.mg_none_of X G z_min, PySem.W.mg_none_of X G z_any, PySem.W.mg_none_of X G z_enumerate, PySem.W.mg_none_of X G z_zip, PySem.W.mg_none_of X G z_set, PySem.W.mg_none_of X G z_reversed, PySem.W.mg_none_of X G z_ValueError⟩
end My
open PySem PySem.W PyProof.Rows
set_option maxRecDepth 100000 in
set_option maxHeartbeats 0 in
theorem PySem.Challenge.cw_emptierbox_k58_whole_rooms_and_draws_holds : PySem.Challenge.rw_emptierbox_k58_whole_rooms_and_draws.Holds := by
  w_on; o_law; k_head; (case hw => w_witness2)
  k_fill
  refine My.walk (l := PySem.Challenge.rw_emptierbox_k58_whole_rooms_and_draws) rfl rfl (fun w h Y => PySem.W.km_in_of Y) ?noT ?lam ?F
  case noT => intro p; kernel_rfl
  case lam =>
    intro y hy
    simp only [List.mem_cons, List.not_mem_nil, or_false] at hy
    subst hy; exact My.lam_rec rfl
  case F =>
    intro w mg fa h KX G hmg
    have T : My.Txt2 mg := by
      refine' My.txt_mk KX G ?z0 ?z1 ?z2 ?z3 ?z4 ?z5 ?z6 ?z7 ?z8 ?z9 ?z10 ?z11 ?z12 ?z13 ?z14 ?z15 ?z16 ?z17 ?z18 ?z19 ?z20 ?z21
      (case z0 => k_is)
      (case z1 => k_is)
      (case z2 => k_is)
      (case z3 => k_is)
      (case z4 => k_is)
      (case z5 => k_is)
      (case z6 => k_is)
      (case z7 => k_is)
      (case z8 => k_is)
      (case z9 => k_is)
      (case z10 => k_is)
      (case z11 => k_is)
      (case z12 => k_is)
      (case z13 => k_is)
      (case z14 => k_is)
      (case z15 => k_is)
      (case z16 => k_is)
      (case z17 => k_is)
      (case z18 => k_is)
      (case z19 => k_is)
      (case z20 => k_is)
      (case z21 => k_is)
    have f_emptiest_of : L2.FunAt (L2.KOf KX) mg "emptiest_of" ["numbers", "draw"] My.s_emptiest_of := by
      dsimp only [L2.KOf]
      refine' L2.funAt_mk KX G (fun _ _ _ _ _ _ us hl => match us, hl with | [_, _], _ => rfl) ?a ?l ?c ?k
      (case a => k_is); (case l => k_is); (case c => k_is); (case k => k_is)
    have f_by_draws : L2.FunAt (L2.KOf KX) mg "by_draws" ["stand", "draws"] My.s_by_draws := by
      dsimp only [L2.KOf]
      refine' L2.funAt_mk KX G (fun _ _ _ _ _ _ us hl => match us, hl with | [_, _], _ => rfl) ?a ?l ?c ?k
      (case a => k_is); (case l => k_is); (case c => k_is); (case k => k_is)
    have f_is_whole : L2.FunAt (L2.KOf KX) mg "is_whole" ["thing"] My.s_is_whole := by
      dsimp only [L2.KOf]
      refine' L2.funAt_mk KX G (fun _ _ _ _ _ _ us hl => match us, hl with | [_], _ => rfl) ?a ?l ?c ?k
      (case a => k_is); (case l => k_is); (case c => k_is); (case k => k_is)
    have f_falling : L2.FunAt (L2.KOf KX) mg "falling" ["numbers"] My.s_falling := by
      dsimp only [L2.KOf]
      refine' L2.funAt_mk KX G (fun _ _ _ _ _ _ us hl => match us, hl with | [_], _ => rfl) ?a ?l ?c ?k
      (case a => k_is); (case l => k_is); (case c => k_is); (case k => k_is)
    have f_l_pen : L2.FunAt (L2.KOf KX) mg "_law_pen" ["_law_script"] My.s_l_pen := by
      dsimp only [L2.KOf]
      refine' L2.funAt_mk KX G (fun _ _ _ _ _ _ us hl => match us, hl with | [_], _ => rfl) ?a ?l ?c ?k
      (case a => k_is); (case l => k_is); (case c => k_is); (case k => k_is)
    have f_l_draw : L2.FunAt (L2.KOf KX) mg "_law_draw" ["_law_pen_here", "_law_many"] My.s_l_draw := by
      dsimp only [L2.KOf]
      refine' L2.funAt_mk KX G (fun _ _ _ _ _ _ us hl => match us, hl with | [_, _], _ => rfl) ?a ?l ?c ?k
      (case a => k_is); (case l => k_is); (case c => k_is); (case k => k_is)
    have f_l_draws : L2.FunAt (L2.KOf KX) mg "_law_draws" ["_law_pen_here", "_law_n", "_law_most"] My.s_l_draws := by
      dsimp only [L2.KOf]
      refine' L2.funAt_mk KX G (fun _ _ _ _ _ _ us hl => match us, hl with | [_, _, _], _ => rfl) ?a ?l ?c ?k
      (case a => k_is); (case l => k_is); (case c => k_is); (case k => k_is)
    have f_l_order : L2.FunAt (L2.KOf KX) mg "_law_order" ["_law_pen_here", "_law_some"] My.s_l_order := by
      dsimp only [L2.KOf]
      refine' L2.funAt_mk KX G (fun _ _ _ _ _ _ us hl => match us, hl with | [_, _], _ => rfl) ?a ?l ?c ?k
      (case a => k_is); (case l => k_is); (case c => k_is); (case k => k_is)
    have f_l_filled : L2.FunAt (L2.KOf KX) mg "_law_filled" ["_law_n", "_law_draws_here"] My.s_l_filled := by
      dsimp only [L2.KOf]
      refine' L2.funAt_mk KX G (fun _ _ _ _ _ _ us hl => match us, hl with | [_, _], _ => rfl) ?a ?l ?c ?k
      (case a => k_is); (case l => k_is); (case c => k_is); (case k => k_is)
    have f_l_restless : L2.FunAt (L2.KOf KX) mg "_law_restless" ["_law_n", "_law_draws_here"] My.s_l_restless := by
      dsimp only [L2.KOf]
      refine' L2.funAt_mk KX G (fun _ _ _ _ _ _ us hl => match us, hl with | [_, _], _ => rfl) ?a ?l ?c ?k
      (case a => k_is); (case l => k_is); (case c => k_is); (case k => k_is)
    have f_l_left_right : L2.FunAt (L2.KOf KX) mg "_law_left_right" ["_law_pen_here", "_law_n", "_law_draws_here", "_law_gone"] My.s_l_left_right := by
      dsimp only [L2.KOf]
      refine' L2.funAt_mk KX G (fun _ _ _ _ _ _ us hl => match us, hl with | [_, _, _, _], _ => rfl) ?a ?l ?c ?k
      (case a => k_is); (case l => k_is); (case c => k_is); (case k => k_is)
    have h_M : ∃ tk : Tok, mg "MOST_IN_ROOM" = some (.int 60 tk) := by
      refine' My.mr_MOST KX G ?a
      (case a => first | k_is | exact rfl)
    obtain ⟨tk_M, h_M⟩ := h_M
    have RM : My.RoomFuns (L2.KOf KX) mg := by
      dsimp only [L2.KOf]
      refine' My.room_mk KX G ?aC ?pg ?hd ?po ?sa ?mk ?kc ?n1 ?n2 ?n3 ?n4 ?a0 ?i0 ?l0 ?c0 ?k0 ?a1 ?i1 ?l1 ?c1 ?k1 ?a2 ?i2 ?l2 ?c2 ?k2 ?a3 ?i3 ?l3 ?c3 ?k3 ?a4 ?i4 ?l4 ?c4 ?k4 ?a5 ?i5 ?l5 ?c5 ?k5 ?a6 ?i6 ?l6 ?c6 ?k6 ?a7 ?i7 ?l7 ?c7 ?k7 ?a8 ?i8 ?l8 ?c8 ?k8
      (case aC => k_is)
      (case pg => k_is)
      (case hd => k_is)
      (case po => k_is)
      (case sa => k_is)
      (case mk => k_is)
      (case kc => k_is)
      (case n1 => k_is)
      (case n2 => k_is)
      (case n3 => k_is)
      (case n4 => k_is)
      (case a0 => k_is)
      (case i0 => k_is)
      (case l0 => k_is)
      (case c0 => k_is)
      (case k0 => k_is)
      (case a1 => k_is)
      (case i1 => k_is)
      (case l1 => k_is)
      (case c1 => k_is)
      (case k1 => k_is)
      (case a2 => k_is)
      (case i2 => k_is)
      (case l2 => k_is)
      (case c2 => k_is)
      (case k2 => k_is)
      (case a3 => k_is)
      (case i3 => k_is)
      (case l3 => k_is)
      (case c3 => k_is)
      (case k3 => k_is)
      (case a4 => k_is)
      (case i4 => k_is)
      (case l4 => k_is)
      (case c4 => k_is)
      (case k4 => k_is)
      (case a5 => k_is)
      (case i5 => k_is)
      (case l5 => k_is)
      (case c5 => k_is)
      (case k5 => k_is)
      (case a6 => k_is)
      (case i6 => k_is)
      (case l6 => k_is)
      (case c6 => k_is)
      (case k6 => k_is)
      (case a7 => k_is)
      (case i7 => k_is)
      (case l7 => k_is)
      (case c7 => k_is)
      (case k7 => k_is)
      (case a8 => k_is)
      (case i8 => k_is)
      (case l8 => k_is)
      (case c8 => k_is)
      (case k8 => k_is)
    refine' My.all_mk KX G hmg T ⟨f_emptiest_of, f_by_draws, f_is_whole, f_falling, f_l_pen, f_l_draw, f_l_draws, f_l_order, f_l_filled, f_l_restless, f_l_left_right⟩ h_M RM ?a3 ?l3 ?c3 ?k3
    (case a3 => k_is); (case l3 => k_is); (case c3 => k_is); (case k3 => k_is)

