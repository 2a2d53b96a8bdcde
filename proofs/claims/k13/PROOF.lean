import PyProof.Rows.All
import Wide.All
import OpenK.AllK
import Wide.FinOn
import PyProof.EqAt
import PyProof.EqKinds
import PyProof.NeKinds
import PyProof.TupleCall
import PyProof.CompFree
import PyProof.CompMap
import PyProof.ReprRoads
import PyProof.CallFns
import PyProof.ReprBulk
import PyProof.CompUse
import KE.KRevSl
import PyProof.Rows.SetFrom
import PyProof.AttrMissSeq
import KE.KDictOf
import PyProof.DictUpdate
import PyProof.ListRange
import PyProof.Rows.SumAny
import PyProof.Rows.SortRev
import PyProof.Rows.CallKwBuiltin
import PyProof.ListMulAny
import PyProof.TupleOps
import PyProof.ZipIter
import PyProof.Draws
import PyProof.TupleIter
import PyProof.EnumMake
import PyProof.DictCompW
import PyProof.DictItems
import PyProof.DictItemsLoops
import PyProof.ExcAttrAll.ValueError
import KE.KTryMore
import KE.KLam
import PySem.Challenge.RW_emptierbox_k13_whole_the_order_of_loads
set_option Elab.async false
set_option linter.all false
set_option maxRecDepth 100000
set_option maxHeartbeats 4000000
namespace MA
end MA

set_option Elab.async false
set_option linter.all false
set_option maxRecDepth 100000
set_option maxHeartbeats 4000000
/-! THE HAND LAYER, for ints, bools, texts, own classes, LISTS and tuples (index, slices, in, append, pop ..), calls, loops. Paste it whole ahead of your own text; what your proof does not reach may be deleted. -/
namespace L2
open PySem PySem.Spec PyProof.Rows

/-- a key: an int or a str -/
abbrev Key := Sum Int Str
def keyIs : Key → Value → Bool
  | .inl k, v => Value.isInt k v
  | .inr x, v => Value.isStrOf x v
def keyH (w : World) : Key → Int
  | .inl k => hashInt k
  | .inr x => hashStr w x
theorem keyIs_shape : ∀ {k : Key} {v : Value}, keyIs k v = true → (∃ i t, k = Sum.inl i ∧ v = Value.int i t) ∨ (∃ x t, k = Sum.inr x ∧ v = Value.str x t)
  | .inl i, v, h => by
    obtain ⟨t, e⟩ := Value.isInt_shape (k := i) (v := v) h
    exact .inl ⟨i, t, rfl, e⟩
  | .inr x, v, h => by
    obtain ⟨t, e⟩ := Value.isStrOf_shape (x := x) (v := v) h
    exact .inr ⟨x, t, rfl, e⟩
theorem keyIs_int (i : Int) (t : Tok) : keyIs (.inl i) (.int i t) = true := by simp [keyIs, Value.isInt]
theorem keyIs_str (x : Str) (t : Tok) : keyIs (.inr x) (.str x t) = true := by simp [keyIs, Value.isStrOf]
theorem key_ll (a b : Int) : decide ((Sum.inl a : Key) = Sum.inl b) = (a == b) := by
  by_cases e : a = b
  · subst e; simp
  · have h : ¬ (Sum.inl a : Key) = Sum.inl b := fun q => e (Sum.inl.inj q)
    rw [decide_eq_false h]
    exact (beq_eq_false_iff_ne.mpr e).symm
theorem key_rr (a b : Str) : decide ((Sum.inr a : Key) = Sum.inr b) = decide (a = b) := by
  by_cases e : a = b
  · subst e; simp
  · have h : ¬ (Sum.inr a : Key) = Sum.inr b := fun q => e (Sum.inr.inj q)
    rw [decide_eq_false h, decide_eq_false e]
theorem key_lr (a : Int) (b : Str) : decide ((Sum.inl a : Key) = Sum.inr b) = false := decide_eq_false (fun q => nomatch q)
theorem key_rl (a : Str) (b : Int) : decide ((Sum.inr a : Key) = Sum.inl b) = false := decide_eq_false (fun q => nomatch q)

def mixKind (prog : Program) (w : World) : PySem.KeyKind prog w Key where
  is := keyIs
  hash := keyH w
  inj := fun v a b ha hb => by
    rcases keyIs_shape ha with ⟨i, t, rfl, rfl⟩ | ⟨x, t, rfl, rfl⟩
    · rcases keyIs_shape hb with ⟨j, u, rfl, e⟩ | ⟨y, u, rfl, e⟩
      · injection e with e1 _; rw [e1]
      · exact nomatch e
    · rcases keyIs_shape hb with ⟨j, u, rfl, e⟩ | ⟨y, u, rfl, e⟩
      · exact nomatch e
      · injection e with e1 _; rw [e1]
  byValue := fun k v h => by
    rcases keyIs_shape h with ⟨i, t, rfl, rfl⟩ | ⟨x, t, rfl, rfl⟩ <;> rfl
  pyHash := fun hv h => by
    rcases keyIs_shape hv with ⟨i, t, rfl, rfl⟩ | ⟨x, t, rfl, rfl⟩
    · exact wpAny_pyHash_int h
    · exact wpAny_pyHash_str h
  eqBool := fun hu hv h => by
    rcases keyIs_shape hu with ⟨i, t, rfl, rfl⟩ | ⟨x, t, rfl, rfl⟩
    · rcases keyIs_shape hv with ⟨j, u, rfl, rfl⟩ | ⟨y, u, rfl, rfl⟩
      · rw [key_ll] at h; exact wpAny_eqBool_int h
      · rw [key_lr] at h; exact SeqAt.EqAt.int_str i t y u _ _ _ _ h
    · rcases keyIs_shape hv with ⟨j, u, rfl, rfl⟩ | ⟨y, u, rfl, rfl⟩
      · rw [key_rl] at h; exact SeqAt.EqAt.str_int x t j u _ _ _ _ h
      · rw [key_rr] at h; exact wpAny_eqBool_str h
  «strs» := fun k x t v h => by
    rcases keyIs_shape h with ⟨i, u, rfl, e⟩ | ⟨y, u, rfl, e⟩
    · exact nomatch e
    · injection e with e1 _
      subst e1
      cases v <;> rfl

theorem mixKind_int (prog : Program) (w : World) (i : Int) (t : Tok) : (mixKind prog w).is (.inl i) (.int i t) = true := keyIs_int i t
theorem mixKind_str (prog : Program) (w : World) (x : Str) (t : Tok) : (mixKind prog w).is (.inr x) (.str x t) = true := keyIs_str x t
end L2

namespace L2
open PySem PySem.Spec PyProof.Rows

/-- a value, without the heap -/
inductive V where
  | non | bl (b : Bool) | int (i : Int) | str (x : Str) | byt (b : Array UInt8) | flt (b : UInt64) | ref (a : Addr) | ty (n : String)
  deriving DecidableEq

def RelV : V → Value → Prop
  | .non, u => u = Value.none
  | .bl b, u => u = Value.bool b
  | .int i, u => ∃ t, u = Value.int i t
  | .str x, u => ∃ t, u = Value.str x t
  | .byt b, u => ∃ t, u = Value.bytes b t
  | .flt b, u => ∃ t, u = Value.float b t
  | .ref a, u => u = Value.ref a
  | .ty n, u => u = Value.type n

abbrev Vals : List V → List Value → Prop := Paired RelV
theorem Vals.length {xs : List V} {us : List Value} (r : Vals xs us) : xs.length = us.length := Paired.length r
theorem Vals.get : ∀ {xs : List V} {us : List Value} {i : Nat} {x : V}, Vals xs us → xs[i]? = some x → ∃ u, us[i]? = some u ∧ RelV x u
  | _, _, _, _, .nil, e => by simp at e
  | _, _, 0, _, .cons r _, e => by simp at e; subst e; exact ⟨_, rfl, r⟩
  | _, _, i + 1, x, .cons _ t, e => by
    obtain ⟨u, h1, h2⟩ := Vals.get (i := i) (x := x) t (by simpa using e)
    exact ⟨u, by simpa using h1, h2⟩
theorem Vals.set {x : V} {u : Value} (r : RelV x u) : ∀ {xs : List V} {us : List Value} (i : Nat), Vals xs us → Vals (xs.set i x) (us.set i u)
  | _, _, _, .nil => .nil
  | _, _, 0, .cons _ t => .cons r t
  | _, _, i + 1, .cons q t => .cons q (Vals.set r i t)
theorem Vals.append : ∀ {xs ys : List V} {us ws : List Value}, Vals xs us → Vals ys ws → Vals (xs ++ ys) (us ++ ws)
  | _, _, _, _, .nil, s => s
  | _, _, _, _, .cons r t, s => .cons r (Vals.append t s)
theorem Vals.take : ∀ {xs : List V} {us : List Value} (n : Nat), Vals xs us → Vals (xs.take n) (us.take n)
  | _, _, 0, _ => .nil
  | _, _, _ + 1, .nil => .nil
  | _, _, n + 1, .cons r t => .cons r (Vals.take n t)
theorem Vals.drop : ∀ {xs : List V} {us : List Value} (n : Nat), Vals xs us → Vals (xs.drop n) (us.drop n)
  | _, _, 0, r => r
  | _, _, _ + 1, .nil => .nil
  | _, _, n + 1, .cons _ t => Vals.drop n t
def RelO : Option V → Option Value → Prop
  | some v, some u => RelV v u
  | none, none => True
  | _, _ => False
def KV {κ : Type} : List (κ × V) → List (κ × Value) → Prop := Paired fun (p : κ × V) (q : κ × Value) => p.1 = q.1 ∧ RelV p.2 q.2

/-- a key of a dict (00_mix): an int or a text -/
def kV : Key → V
  | .inl i => .int i
  | .inr x => .str x

/-- what stands at a tracked address -/
inductive HO where
  /-- a list -/
  | lst (xs : List V)
  /-- a tuple (never changes) -/
  | tup (xs : List V)
  /-- a dict whose keys are ints and texts; one whose keys are tuples of ints and texts (the empty one is both) -/
  | dK (kvs : List (Key × V)) | dT (kvs : List (List Key × V))
  /-- a set of ints: its members, its size -/
  | set (S : Int → Bool) (n : Nat)
  /-- an instance of the class at C, its dict at dx, its attributes -/
  | ins (C dx : Addr) (fs : List (Str × V))
  /-- the dict of the instance at x -/
  | own (x : Addr)
  /-- the dict of an exception -/
  | xd (fs : List (Str × V))
  /-- a bound method, f of x -/
  | met (f x : Addr)
  /-- a range object lo, lo + 1, .. below hi -/
  | rng (lo hi : Int)
  /-- a thing that is known to the object (the script; a dict while a loop walks it): read, never written while it is so -/
  | frz (o : Obj) (u : HO)
  /-- a code object's table -/
  | tbl (ps : Array Value)
  /-- the table of the lambdas of a def, whose qualname is q -/
  | tab (q : Str)
  /-- any other thing, by what is true of its one object (a def of one's own: SetO a S n := HO.ext fun h => ..) -/
  | ext (φ : Heap → Prop)

abbrev Hp := Addr → Option HO
def upd (H : Hp) (a : Addr) (o : HO) : Hp := fun b => if b = a then some o else H b
theorem upd_same {H : Hp} {a : Addr} {o : HO} : upd H a o a = some o := by unfold upd; rw [if_pos rfl]
theorem upd_ne {H : Hp} {a b : Addr} {o : HO} (h : b ≠ a) : upd H a o b = H b := by unfold upd; rw [if_neg h]
theorem upd_upd {H : Hp} {a : Addr} {o u : HO} : upd (upd H a o) a u = upd H a u := by
  funext b; unfold upd; split <;> rfl
/-- two objects of different content stand apart -/
theorem ne_of {H : Hp} {a b : Addr} {o u : HO} (h : H a = some o) (h' : H b = some u) (d : o ≠ u) : a ≠ b := by
  intro e; subst e; rw [h] at h'; exact d (Option.some.inj h')
theorem ne_of_none {H : Hp} {a b : Addr} {o : HO} (h : H a = some o) (h' : H b = none) : a ≠ b := by
  intro e; subst e; rw [h] at h'; cases h'

section
variable (P : Program) (w : World)
def ObjOk (H : Hp) (h : Heap) (a : Addr) : HO → Prop
  | .lst xs => xs.length ≤ sizeLine ∧ ∃ (its : List Value) (n : Nat), Vals xs its ∧ h.get? a = some { cls := .type "list", data := .seq its.toArray n }
  | .tup xs => xs.length ≤ sizeLine ∧ ∃ its : List Value, Vals xs its ∧ IsTup h a its.toArray
  | .dK kvs => kvs.length ≤ sizeLine ∧ (a == sysModules) = false ∧ ∃ vs, KV kvs vs ∧ h.DictOf (mixKind P w) a vs
  | .dT kvs => kvs.length ≤ sizeLine ∧ (a == sysModules) = false ∧ ∃ xs : List (List Key × Addr × Value),
      Paired (fun (p : List Key × V) (q : List Key × Addr × Value) => p.1 = q.1 ∧ H q.2.1 = some (.tup (p.1.map kV)) ∧ RelV p.2 q.2.2) kvs xs ∧
      ∃ o es ep, h.get? a = some o ∧ o.ExactDict ∧ o.data = .dict es ep ∧ es.toList = xs.map (entryOfKey (tupleKind (mixKind P w))) ∧ (xs.map (·.1)).Nodup
  | .set S n => h.SetOf (intKind P w) a S n
  | .ins C dx fs => H dx = some (.own a) ∧ fs.length ≤ 1000 ∧ dx ≠ a ∧ h.get? a = some (PySem.W.instObj C dx) ∧
      ∃ mA, h.Ns1 dx mA ∧ (∀ f, RelO (fs.lookup f) (mA f)) ∧ PySem.Within mA (fs.map (·.1))
  | .own _ => ∃ o, h.get? a = some o
  | .xd fs => ∃ mA, h.Ns1 a mA ∧ ∀ f, RelO (fs.lookup f) (mA f)
  | .rng lo hi => ∃ t u v, h.get? a = some { cls := .type "range", data := .fields #[.int lo t, .int hi u, .int 1 v] }
  | .frz o u => h.get? a = some o ∧ ObjOk H h a u
  | .tbl ps => h.get? a = some { cls := .none, data := .fields ps }
  | .tab q => ∃ ps : Array Value, h.get? a = some { cls := .none, data := .fields ps } ∧ TriplesOk ps.toList ∧ ∀ pos cv, codeAmong pos ps.toList = some cv →
      ∃ c oc vs t, cv = .ref c ∧ H c = some (.frz oc (.own 0)) ∧ oc.data = .fields vs ∧ vs[1]? = some (.str q t)
  | .met f x => h.get? a = some (PySem.W.methodObj (.ref f) (.ref x))
  | .ext φ => φ h ∧ (∃ o, h.get? a = some o) ∧ ∀ h1 h2 : Heap, φ h1 → (∀ o, h1.get? a = some o → h2.get? a = some o) → φ h2
/-- the abstract heap is held -/
def HOk (H : Hp) (h : Heap) : Prop := ∀ a o, H a = some o → ObjOk P w H h a o
end

section
variable {P : Program} {w : World} {H H' : Hp} {h h' : Heap} {a : Addr} {o : HO}
theorem ObjOk.lt (x : ObjOk P w H h a o) : a < h.objs.size := by
  cases o with
  | lst xs => obtain ⟨_, _, _, _, e⟩ := x; exact Heap.lt_size e
  | tup xs => obtain ⟨_, _, _, p⟩ := x; exact p.lt
  | dK kvs => obtain ⟨_, _, _, _, o, _, _, e, _⟩ := x; exact Heap.lt_size e
  | dT kvs => obtain ⟨_, _, _, _, o, _, _, e, _⟩ := x; exact Heap.lt_size e
  | set S n => obtain ⟨o, _, _, _, e, _⟩ := x; exact Heap.lt_size e
  | ins C dx fs => obtain ⟨_, _, _, e, _⟩ := x; exact Heap.lt_size e
  | own y => obtain ⟨_, e⟩ := x; exact Heap.lt_size e
  | xd fs => obtain ⟨_, ⟨_, _, _, e, _⟩, _⟩ := x; exact Heap.lt_size e
  | rng lo hi => obtain ⟨_, _, _, e⟩ := x; exact Heap.lt_size e
  | frz ob u => obtain ⟨e, _⟩ := x; exact Heap.lt_size e
  | tbl ps => exact Heap.lt_size (show h.get? a = some _ from x)
  | tab q => obtain ⟨_, e, _⟩ := x; exact Heap.lt_size e
  | met f y => exact Heap.lt_size (show h.get? a = some _ from x)
  | ext φ => obtain ⟨_, ⟨_, e⟩, _⟩ := x; exact Heap.lt_size e
theorem Paired.mapP {α β : Type} {F G : α → β → Prop} : ∀ {l₁ : List α} {l₂ : List β}, Paired F l₁ l₂ → (∀ a b, F a b → G a b) → Paired G l₁ l₂
  | _, _, .nil, _ => .nil
  | _, _, .cons r t, f => .cons (f _ _ r) (Paired.mapP t f)
/-- what an object's description leans on: its own object, its own dict, the tuples -/
theorem ObjOk.stay (x : ObjOk P w H h a o) (k : ∀ b u, (b = a ∨ H b = some (.own a)) → h.get? b = some u → h'.get? b = some u)
    (ho : ∀ b, H b = some (.own a) → H' b = some (.own a)) (ht : ∀ b xs, H b = some (.tup xs) → H' b = some (.tup xs)) (hz : ∀ b ob, H b = some (.frz ob (.own 0)) → H' b = some (.frz ob (.own 0)) := by exact fun _ _ q => q) : ObjOk P w H' h' a o := by
  induction o with
  | lst xs => obtain ⟨z, its, n, r, e⟩ := x; exact ⟨z, its, n, r, k _ _ (.inl rfl) e⟩
  | tup xs => obtain ⟨z, its, r, ob, e, c⟩ := x; exact ⟨z, its, r, ob, k _ _ (.inl rfl) e, c⟩
  | dK kvs => obtain ⟨z, y, vs, r, ob, es, ep, e, c⟩ := x; exact ⟨z, y, vs, r, ob, es, ep, k _ _ (.inl rfl) e, c⟩
  | dT kvs =>
    obtain ⟨z, y, xs, r, ob, es, ep, e, c⟩ := x
    exact ⟨z, y, xs, Paired.mapP r fun p q z => ⟨z.1, ht _ _ z.2.1, z.2.2⟩, ob, es, ep, k _ _ (.inl rfl) e, c⟩
  | set S n => obtain ⟨ob, es, ep, t, e, c⟩ := x; exact ⟨ob, es, ep, t, k _ _ (.inl rfl) e, c⟩
  | ins C dx fs =>
    obtain ⟨d, z, ne, e, mA, ⟨od, es, ep, e2, c⟩, r⟩ := x
    exact ⟨ho _ d, z, ne, k _ _ (.inl rfl) e, mA, ⟨od, es, ep, k _ _ (.inr d) e2, c⟩, r⟩
  | own y => obtain ⟨ob, e⟩ := x; exact ⟨ob, k _ _ (.inl rfl) e⟩
  | xd fs => obtain ⟨mA, ⟨od, es, ep, e, c⟩, r⟩ := x; exact ⟨mA, ⟨od, es, ep, k _ _ (.inl rfl) e, c⟩, r⟩
  | rng lo hi => obtain ⟨t, u, v, e⟩ := x; exact ⟨t, u, v, k _ _ (.inl rfl) e⟩
  | frz ob u ih => obtain ⟨e, q⟩ := x; exact ⟨k _ _ (.inl rfl) e, ih q⟩
  | tab q =>
    obtain ⟨ps, e, tr, cs⟩ := x
    refine ⟨ps, k a _ (.inl rfl) e, tr, fun pos cv hc => ?_⟩
    obtain ⟨c, oc, vs, t, h1, h2, h3⟩ := cs pos cv hc
    exact ⟨c, oc, vs, t, h1, hz c oc h2, h3⟩
  | tbl ps =>
    have e : h.get? a = some { cls := .none, data := .fields ps } := x
    show h'.get? a = some { cls := .none, data := .fields ps }
    exact k a _ (.inl rfl) e
  | met f y =>
    have e : h.get? a = some (PySem.W.methodObj (.ref f) (.ref y)) := x
    show h'.get? a = some (PySem.W.methodObj (.ref f) (.ref y))
    exact k a _ (.inl rfl) e
  | ext φ => obtain ⟨p, ⟨o, e⟩, st⟩ := x; exact ⟨st _ _ p fun o q => k _ _ (.inl rfl) q, ⟨o, k _ _ (.inl rfl) e⟩, st⟩
theorem HOk.lt (x : HOk P w H h) (e : H a = some o) : a < h.objs.size := (x a o e).lt
theorem HOk.fresh (x : HOk P w H h) (e : h.objs.size ≤ a) : H a = none := by
  cases q : H a with
  | none => rfl
  | some u => exact absurd (Nat.lt_of_lt_of_le (x.lt q) e) (Nat.lt_irrefl _)
/-- every object of the heap is kept -/
theorem HOk.kept (x : HOk P w H h) (k : ∀ b u, h.get? b = some u → h'.get? b = some u) : HOk P w H h' := fun a o e =>
  (x a o e).stay (fun b u _ q => k b u q) (fun _ q => q) fun _ _ q => q
/-- a new object is laid and tracked -/
theorem HOk.laid (x : HOk P w H h) (k : ∀ b u, h.get? b = some u → h'.get? b = some u) (hp : h.objs.size ≤ a) (new : ObjOk P w (upd H a o) h' a o) : HOk P w (upd H a o) h' := fun b u e => by
  have hn := x.fresh hp
  by_cases hb : b = a
  · subst hb; rw [upd_same] at e; cases e; exact new
  · rw [upd_ne hb] at e
    exact (x b u e).stay (fun c v _ q => k c v q) (fun c q => by rw [upd_ne (ne_of_none q hn)]; exact q) (fun c xs q => by rw [upd_ne (ne_of_none q hn)]; exact q) fun c ob q => by rw [upd_ne (ne_of_none q hn)]; exact q
end

/-- what may be read as u: it is u, or a known u -/
def Rd (H : Hp) (a : Addr) (u : HO) : Prop := H a = some u ∨ ∃ o, H a = some (.frz o u)
theorem Rd.ok {P : Program} {w : World} {H : Hp} {h : Heap} {a : Addr} {u : HO} (r : Rd H a u) (x : HOk P w H h) : ObjOk P w H h a u := by
  rcases r with r | ⟨o, r⟩
  · exact x a u r
  · obtain ⟨_, q⟩ := x a _ r
    exact q
/-- what may be written -/
def Mut : Option HO → Prop
  | some (.lst _) => True
  | some (.dK _) => True
  | some (.dT _) => True
  | some (.set _ _) => True
  | some (.ins _ _ _) => True
  | some (.ext _) => True
  | some (.tab _) => True
  | _ => False
section
variable {P : Program} {w : World} {H : Hp} {h h' : Heap} {x e : Addr} {o' : HO}
/-- the object at e is changed: x itself, or the dict of the instance x -/
theorem HOk.write (ok : HOk P w H h) (mu : Mut (H x)) (he : e = x ∨ H e = some (.own x)) (k : ∀ b u, b ≠ e → h.get? b = some u → h'.get? b = some u) (heo : ∃ u, h'.get? e = some u)
    (new : ObjOk P w (upd H x o') h' x o') : HOk P w (upd H x o') h' := fun b u q => by
  have nown : ∀ c y, H c = some (.own y) → c ≠ x := fun c y r z => by subst z; rw [r] at mu; exact mu
  have ntup : ∀ c xs, H c = some (.tup xs) → c ≠ x := fun c xs r z => by subst z; rw [r] at mu; exact mu
  by_cases hb : b = x
  · subst hb; rw [upd_same] at q; cases q; exact new
  · rw [upd_ne hb] at q
    by_cases hbe : b = e
    · have q' : H b = some (.own x) := by
        rcases he with z | z
        · exact absurd (hbe.trans z) hb
        · rw [hbe]; exact z
      rw [q] at q'; cases q'
      obtain ⟨v, hv⟩ := heo
      exact ⟨v, by rw [hbe]; exact hv⟩
    · refine (ok b u q).stay (fun c v hc r => k c v ?_ r) (fun c r => by rw [upd_ne (nown c b r)]; exact r) (fun c xs r => by rw [upd_ne (ntup c xs r)]; exact r) (fun c ob r => by rw [upd_ne (fun z => by subst z; rw [r] at mu; exact mu)]; exact r)
      rcases hc with rfl | hc
      · exact hbe
      · rintro rfl
        rcases he with z | z
        · exact nown c b hc z
        · rw [hc] at z; cases z; exact hb rfl
end

/-! ### kept unless tracked; of the frames at fs (the callers') the slots may change (an exception that passes writes there); of the records at ex (iterators) nothing is said -/
structure Un (fs ex : List Addr) (H H' : Hp) (h h' : Heap) : Prop where
  keep : ∀ b o, h.get? b = some o → H b = none → b ∉ fs → b ∉ ex → h'.get? b = some o
  slot : ∀ b o, h.get? b = some o → H b = none → b ∈ fs → b ∉ ex → ∃ sl, h'.get? b = some { o with slots := sl }
  free : ∀ b o, h.get? b = some o → H b = none → b ∉ ex → H' b = none
  there : ∀ b o, h.get? b = some o → b ∉ ex → ∃ o', h'.get? b = some o'
  tups : ∀ b xs, H b = some (.tup xs) → H' b = some (.tup xs)
  frzs : ∀ b o u, H b = some (.frz o u) → H' b = some (.frz o u)
  tbls : ∀ b ps, H b = some (.tbl ps) → ∃ more, H' b = some (.tbl (ps ++ more))
section
variable {fs fs' ex ex' : List Addr} {H H1 H2 : Hp} {h h1 h2 h' : Heap} {a x e : Addr} {o : HO}
theorem Un.any (u : Un fs ex H H1 h h1) {b : Addr} {ob : Obj} (q : h.get? b = some ob) (n : H b = none) (hx : b ∉ ex) : ∃ sl, h1.get? b = some { ob with slots := sl } := by
  by_cases hb : b ∈ fs
  · exact u.slot b ob q n hb hx
  · exact ⟨ob.slots, u.keep b ob q n hb hx⟩
theorem Un.kept (k : ∀ b u, h.get? b = some u → h'.get? b = some u) : Un fs ex H H h h' :=
  ⟨fun b ob q _ _ _ => k b ob q, fun b ob q _ _ _ => ⟨ob.slots, k b ob q⟩, fun _ _ _ n _ => n, fun b ob q _ => ⟨ob, k b ob q⟩, fun _ _ q => q, fun _ _ _ q => q, fun _ ps q => ⟨#[], by rw [q]; simp⟩⟩
theorem Un.refl : Un fs ex H H h h := Un.kept fun _ _ q => q
theorem Un.laid (k : ∀ b u, h.get? b = some u → h'.get? b = some u) (hp : h.objs.size ≤ a) (hn : H a = none) : Un fs ex H (upd H a o) h h' where
  keep := fun b u q _ _ _ => k b u q
  slot := fun b u q _ _ _ => ⟨u.slots, k b u q⟩
  free := fun b u q n _ => by rw [upd_ne (Nat.ne_of_lt (Nat.lt_of_lt_of_le (Heap.lt_size q) hp))]; exact n
  there := fun b u q _ => ⟨u, k b u q⟩
  tups := fun b xs q => by rw [upd_ne (ne_of_none q hn)]; exact q
  frzs := fun b u xs q => by rw [upd_ne (ne_of_none q hn)]; exact q
  tbls := fun b ps q => ⟨#[], by rw [upd_ne (ne_of_none q hn), q]; simp⟩
theorem Un.write (mu : Mut (H x)) (he : e = x ∨ H e = some (.own x)) (k : ∀ b u, b ≠ e → h.get? b = some u → h'.get? b = some u) (heo : ∃ u, h'.get? e = some u) : Un fs ex H (upd H x o) h h' := by
  have hx : ∀ b, H b = none → b ≠ x := fun b n z => by subst z; rw [n] at mu; exact mu
  have hb : ∀ b, H b = none → b ≠ e := fun b n z => by
    subst z
    rcases he with r | r
    · exact hx b n r
    · rw [n] at r; cases r
  have hm : ∀ b u, H b = some u → ¬ Mut (some u) → b ≠ x := fun b u q nm z => by subst z; rw [q] at mu; exact nm mu
  refine ⟨fun b u q n _ _ => k b u (hb b n) q, fun b u q n _ _ => ⟨u.slots, k b u (hb b n) q⟩, fun b u q n _ => by rw [upd_ne (hx b n)]; exact n, fun b u q _ => ?_,
    fun b xs q => by rw [upd_ne (hm b _ q fun z => z)]; exact q, fun b u xs q => by rw [upd_ne (hm b _ q fun z => z)]; exact q, fun b ps q => ⟨#[], by rw [upd_ne (hm b _ q fun z => z), q]; simp⟩⟩
  by_cases hbe : b = e
  · subst hbe; exact heo
  · exact ⟨u, k b u hbe q⟩
end

/-! ### the heap without what is tracked -/
def trk (h : Heap) (H : Hp) : List Addr := (List.range h.objs.size).filter fun a => (H a).isSome
def hidT (h : Heap) (H : Hp) : Heap := PySem.W.hideAll h (trk h H)
theorem hidT_size (h : Heap) (H : Hp) : (hidT h H).objs.size = h.objs.size := PySem.W.hideAll_size _ _
theorem hidT_get {h : Heap} {H : Hp} {b : Addr} {o : Obj} (e : h.get? b = some o) (n : H b = none) : (hidT h H).get? b = some o :=
  PySem.W.hideAll_get _ e fun hm => by
    have q : (H b).isSome = true := (List.mem_filter.mp hm).2
    rw [n] at q; simp at q
theorem of_hidT {h : Heap} {H : Hp} {b : Addr} {o : Obj} (e : (hidT h H).get? b = some o) : h.get? b = some o ∧ H b = none := by
  have e' : h.get? b = some o := PySem.W.of_hideAll (trk h H) e
  refine ⟨e', ?_⟩
  cases q : H b with
  | none => rfl
  | some x =>
    have hm : b ∈ trk h H := List.mem_filter.mpr ⟨List.mem_range.mpr (Heap.lt_size e'), by simp [q]⟩
    have z : (hidT h H).get? b = none := PySem.W.hideAll_none (trk h H) hm
    rw [z] at e; cases e

/-! ### OpenK's ledger, filled with every new object but one -/
end L2

namespace L2
open PySem PySem.Spec PyProof.Rows

/-- the module's facts, over the base: the heap at the law's entry without what is tracked there -/
structure Mod (K : PySem.W.Frag) (mg : Str → Option Value) (base : Heap) : Prop where
  kin : K.In base
  glob : base.Ns mainGlobals mg
  blt : ∃ mb, base.Ns builtinsNs mb ∧ ∀ x : Str, x ≠ "__name__" → mb x = bootBuiltins x
  nolimit : base.NoLimit

/-- the context: a def's body (or a comprehension's block) running. base: fixed through the whole law; s₀, H₀: the entry; outer: the frames whose slots others may change (a def's callers); stack: all frames that run;
   ex: iterators that were made ahead of the entry and are walked here (a comprehension's); fn: the names whose cells were made at the entry (a def: all; a comprehension's block: its own); calm: not within an except suite; pn: pins that every state bears; xe: what is wanted of an exception that leaves the code -/
structure Cx where
  prog : Program
  w : World
  K : PySem.W.Frag
  mg : Str → Option Value
  base : Heap
  A : Around
  N : List Str
  s₀ : Shared
  H₀ : Hp
  env : Env
  outer : List Env
  stack : List Env
  ex : List Addr
  fn : Str → Bool
  calm : Bool
  pn : List (Addr × Obj)
  xe : Value → Shared → Prop
/-- the callers' frames -/
def frs (l : List Env) : List Addr := l.filterMap (·.frame)
abbrev Cx.fs (X : Cx) : List Addr := frs X.outer

def Vis (sc : Scope) (x : Str) : Prop := sc.names.lookup x = some .local ∨ sc.names.lookup x = some .cell ∨ sc.names.lookup x = some .free
def Loc (sc : Scope) (x : Str) : Prop := sc.names.lookup x = some .local ∨ sc.names.lookup x = some .cell
def Look (env : Env) (h : Heap) (m : Str → Option Value) (x : Str) (u : Value) : Prop :=
  (env.kindOf x = some .local ∧ m x = some u) ∨ ((env.kindOf x = some .cell ∨ env.kindOf x = some .free) ∧ ∃ c, env.cells.lookup x = some c ∧ h.IsCell c (some u))

structure Cx.Ok (X : Cx) : Prop where
  mod : Mod X.K X.mg X.base
  kind : X.env.scope.kind = .function
  glob : X.env.globals = mainGlobals
  blt : X.env.builtins = builtinsNs
  above : X.s₀.heap.objs.size ≤ X.env.locals
  inj : ∀ x y c, X.env.cells.lookup x = some c → X.env.cells.lookup y = some c → x = y
  has : ∀ x, (X.env.kindOf x = some .cell ∨ X.env.kindOf x = some .free) → ∃ c, X.env.cells.lookup x = some c
  cab : ∀ x c, X.fn x = true → X.env.cells.lookup x = some c → X.s₀.heap.objs.size ≤ c
  hd : X.calm = true → X.A.handled = none
  frames : X.A.frames = some X.stack
  stk : X.stack = X.outer ∨ (X.stack = X.env :: X.outer ∧ X.env.frame = some X.env.locals)
  exf : ∀ b ∈ X.ex, b ≠ X.env.locals ∧ ∀ x c, X.env.cells.lookup x = some c → c ≠ b
  bs : ∀ b o, X.base.get? b = some o → X.s₀.heap.get? b = some o ∧ X.H₀ b = none
  bsz : X.base.objs.size ≤ X.s₀.heap.objs.size
  noex : ∀ b o, X.base.get? b = some o → b ∉ X.ex
  exfs : ∀ b ∈ X.ex, b ∉ X.fs
  funs : X.s₀.heap.FunFrames X.base X.outer
  frf : ∀ b ∈ X.fs, X.H₀ b = none

structure Inv (X : Cx) (pins : List (Addr × Obj)) (σ : List (Option V)) (H : Hp) (s : Shared) : Prop where
  ok : X.Ok
  os : s.os = X.s₀.os
  bare : AllBare s.gens
  base : Un X.fs X.ex X.H₀ H X.s₀.heap s.heap
  loc : ∃ m, s.heap.Ns X.env.locals m ∧ ∀ (i : Nat) (x : Str) (v : V), X.N[i]? = some x → σ[i]? = some (some v) → Vis X.env.scope x → ∃ u, RelV v u ∧ Look X.env s.heap m x u
  cell : ∀ x c, X.env.cells.lookup x = some c → ∃ v, s.heap.IsCell c v
  free : H X.env.locals = none
  freeC : ∀ x c, X.env.cells.lookup x = some c → H c = none
  pin : ∀ p ∈ X.pn ++ pins, s.heap.get? p.1 = some p.2 ∧ H p.1 = none ∧ p.1 ≠ X.env.locals ∧ p.1 ∉ X.fs ∧ ∀ v, p.2.data ≠ .cell v
  hok : HOk X.prog X.w H s.heap
  len : σ.length = X.N.length

section
variable {X : Cx} {pins : List (Addr × Obj)} {σ : List (Option V)} {H H' : Hp} {s : Shared} {h' : Heap}

theorem Cx.Ok.nofr (ok : X.Ok) {b : Addr} {o : Obj} (e : X.base.get? b = some o) : b ∉ X.fs := fun hb => by
  have := (ok.funs.mem hb).1
  rw [e] at this; cases this
theorem Inv.bs (I : Inv X pins σ H s) : ∀ b o, X.base.get? b = some o → s.heap.get? b = some o ∧ H b = none := fun b o e =>
  ⟨I.base.keep b o (I.ok.bs b o e).1 (I.ok.bs b o e).2 (I.ok.nofr e) (I.ok.noex b o e), I.base.free b o (I.ok.bs b o e).1 (I.ok.bs b o e).2 (I.ok.noex b o e)⟩
theorem Inv.bk (I : Inv X pins σ H s) : ∀ b o, X.base.get? b = some o → s.heap.get? b = some o := fun b o e => (I.bs b o e).1
theorem Inv.mod (I : Inv X pins σ H s) : Mod X.K X.mg X.base := I.ok.mod
theorem Inv.kIn (I : Inv X pins σ H s) : X.K.In s.heap := I.ok.mod.kin.keeps I.bk
theorem Inv.lt (I : Inv X pins σ H s) : X.env.locals < s.heap.objs.size := let ⟨_, hn, _⟩ := I.loc; hn.lt
theorem Inv.sz (I : Inv X pins σ H s) : X.s₀.heap.objs.size ≤ s.heap.objs.size := Nat.le_trans I.ok.above (Nat.le_of_lt I.lt)
theorem Inv.nofs (I : Inv X pins σ H s) {a : Addr} (h : s.heap.objs.size ≤ a) : a ∉ X.fs := fun hb => by
  obtain ⟨_, o, ho, _⟩ := I.ok.funs.mem hb
  exact absurd (Nat.lt_of_lt_of_le (Heap.lt_size ho) (Nat.le_trans I.sz h)) (Nat.lt_irrefl _)
theorem Inv.cne (I : Inv X pins σ H s) : ∀ x c, X.env.cells.lookup x = some c → c ≠ X.env.locals := fun x c e z => by
  obtain ⟨v, o, ho, hd⟩ := I.cell x c e
  obtain ⟨m, ⟨o', es, ep, ho', hd', _⟩, _⟩ := I.loc
  rw [z, ho'] at ho; cases ho; rw [hd'] at hd; cases hd
theorem Inv.funs (I : Inv X pins σ H s) : s.heap.FunFrames X.base X.outer := by
  have all : ∀ (l : List Env), (∀ b ∈ frs l, b ∈ X.fs) → X.s₀.heap.FunFrames X.base l → s.heap.FunFrames X.base l := by
    intro l
    induction l with
    | nil => intro _ _; trivial
    | cons env r ih =>
      intro hs hl
      obtain ⟨hk, ⟨L, o, hf, hn, ho, hd⟩, hr⟩ := hl
      have hL : L ∈ X.fs := hs L (by unfold frs; rw [List.filterMap_cons, hf]; exact List.mem_cons_self)
      obtain ⟨sl, e⟩ := I.base.slot L o ho (I.ok.frf L hL) hL fun z => I.ok.exfs L z hL
      exact ⟨hk, ⟨L, _, hf, hn, e, hd⟩, ih (fun b hb => hs b (by unfold frs; rw [List.filterMap_cons, hf]; exact List.mem_cons_of_mem _ hb)) hr⟩
  exact all X.outer (fun _ hb => hb) I.ok.funs

/-- the frames that run, for a call -/
theorem Inv.stack (I : Inv X pins σ H s) : s.heap.FunFrames X.base X.stack := by
  rcases I.ok.stk with e | ⟨e, hf⟩
  · rw [e]; exact I.funs
  · rw [e]
    obtain ⟨m, hn, _⟩ := I.loc
    refine .cons (by rw [I.ok.kind]; decide) hf hn ?_ I.funs
    exact Heap.get?_none_of_le (Nat.le_trans I.ok.bsz I.ok.above)
theorem Inv.stkSub (I : Inv X pins σ H s) : ∀ b ∈ frs X.stack, b ∈ X.env.locals :: X.fs := fun b hb => by
  rcases I.ok.stk with e | ⟨e, hf⟩
  · rw [e] at hb; exact List.mem_cons_of_mem _ hb
  · rw [e] at hb
    unfold frs at hb
    rw [List.filterMap_cons, hf] at hb
    exact hb
theorem Inv.stkFree (I : Inv X pins σ H s) : ∀ b ∈ frs X.stack, H b = none := fun b hb => by
  rcases List.mem_cons.mp (I.stkSub b hb) with e | hb
  · rw [e]; exact I.free
  · obtain ⟨_, o, ho, _⟩ := I.ok.funs.mem hb
    exact I.base.free b o ho (I.ok.frf b hb) fun z => I.ok.exfs b z hb

/-- THE STEP: the untracked objects but the frame and the records at ch are kept (the callers' frames up to slots), the frame's map is kept, the new abstract heap is held -/
theorem Inv.step {g' : Array GenState} {t' : Nat} {d' : Drawn} {ch : List Addr} (I : Inv X pins σ H s)
    (hch : ∀ b ∈ ch, (b ∈ X.ex ∨ X.s₀.heap.objs.size ≤ b) ∧ b ≠ X.env.locals ∧ (∀ x c, X.env.cells.lookup x = some c → c ≠ b) ∧ ∀ p ∈ X.pn ++ pins, p.1 ≠ b)
    (keep : ∀ b o, b ≠ X.env.locals → b ∉ X.fs → b ∉ ch → s.heap.get? b = some o → H b = none → h'.get? b = some o)
    (slot : ∀ b o, b ≠ X.env.locals → b ∈ X.fs → b ∉ ch → s.heap.get? b = some o → H b = none → ∃ sl, h'.get? b = some { o with slots := sl }) (free : ∀ b o, b ∉ ch → s.heap.get? b = some o → H b = none → H' b = none)
    (there : ∀ b o, b ∉ ch → s.heap.get? b = some o → ∃ o', h'.get? b = some o')
    (tups : ∀ b xs, H b = some (.tup xs) → H' b = some (.tup xs)) (frzs : ∀ b o u, H b = some (.frz o u) → H' b = some (.frz o u)) (tbls : ∀ b ps, H b = some (.tbl ps) → ∃ more, H' b = some (.tbl (ps ++ more)))
    (ns : ∀ m, s.heap.Ns X.env.locals m → h'.Ns X.env.locals m) (hok : HOk X.prog X.w H' h') (hg : AllBare g') :
    Inv X pins σ H' { s with heap := h', gens := g', drawn := d', toks := t' } := by
  have neL : ∀ b o, X.s₀.heap.get? b = some o → b ≠ X.env.locals := fun b o e => Nat.ne_of_lt (Nat.lt_of_lt_of_le (Heap.lt_size e) I.ok.above)
  have neC : ∀ b o, X.s₀.heap.get? b = some o → b ∉ X.ex → b ∉ ch := fun b o e hx hb => by
    rcases (hch b hb).1 with z | z
    · exact hx z
    · exact absurd (Nat.lt_of_lt_of_le (Heap.lt_size e) z) (Nat.lt_irrefl _)
  have cellK : ∀ x c, X.env.cells.lookup x = some c → ∀ v, s.heap.IsCell c v → h'.IsCell c v := fun x c e v ⟨o, ho, hd⟩ => by
    have nch : c ∉ ch := fun z => (hch c z).2.2.1 x c e rfl
    by_cases hc : c ∈ X.fs
    · obtain ⟨sl, q⟩ := slot c o (I.cne x c e) hc nch ho (I.freeC x c e)
      exact ⟨_, q, hd⟩
    · exact ⟨o, keep c o (I.cne x c e) hc nch ho (I.freeC x c e), hd⟩
  refine ⟨I.ok, I.os, hg, ⟨fun b o e n hb hx => ?_, fun b o e n hb hx => ?_, fun b o e n hx => ?_, fun b o e hx => ?_, fun b xs e => tups b xs (I.base.tups b xs e), fun b o xs e => frzs b o xs (I.base.frzs b o xs e), fun b ps e => ?_⟩, ?_, fun x c e => ?_, ?_, fun x c e => ?_, fun p hp => ?_, hok, I.len⟩
  · exact keep b o (neL b o e) hb (neC b o e hx) (I.base.keep b o e n hb hx) (I.base.free b o e n hx)
  · obtain ⟨sl, e1⟩ := I.base.slot b o e n hb hx
    obtain ⟨sl', e2⟩ := slot b _ (neL b o e) hb (neC b o e hx) e1 (I.base.free b o e n hx)
    exact ⟨sl', e2⟩
  · obtain ⟨o', e1⟩ := I.base.there b o e hx
    exact free b o' (neC b o e hx) e1 (I.base.free b o e n hx)
  · obtain ⟨o', e1⟩ := I.base.there b o e hx
    exact there b o' (neC b o e hx) e1
  · obtain ⟨m1, e1⟩ := I.base.tbls b ps e
    obtain ⟨m2, e2⟩ := tbls b _ e1
    exact ⟨m1 ++ m2, by rw [e2, Array.append_assoc]⟩
  · obtain ⟨m, hn, hl⟩ := I.loc
    refine ⟨m, ns m hn, fun i x v e1 e2 e3 => ?_⟩
    obtain ⟨u, r, l⟩ := hl i x v e1 e2 e3
    refine ⟨u, r, ?_⟩
    rcases l with l | ⟨k, c, e, z⟩
    · exact .inl l
    · exact .inr ⟨k, c, e, cellK x c e _ z⟩
  · obtain ⟨v, z⟩ := I.cell x c e
    exact ⟨v, cellK x c e v z⟩
  · obtain ⟨m, ⟨o, _, _, ho, _⟩, _⟩ := I.loc
    exact free _ o (fun z => (hch _ z).2.1 rfl) ho I.free
  · obtain ⟨v, o, ho, hd⟩ := I.cell x c e
    exact free c o (fun z => (hch c z).2.2.1 x c e rfl) ho (I.freeC x c e)
  · obtain ⟨e, n, ne, nf, d⟩ := I.pin p hp
    have nch : p.1 ∉ ch := fun z => (hch p.1 z).2.2.2 p hp rfl
    exact ⟨keep p.1 p.2 ne nf nch e n, free p.1 p.2 nch e n, ne, nf, d⟩
/-- .. where the frame's own object is kept too -/
theorem Inv.un {t' : Nat} (I : Inv X pins σ H s) (u : Un X.fs [] H H' s.heap h') (hok : HOk X.prog X.w H' h') : Inv X pins σ H' { s with heap := h', toks := t' } := by
  obtain ⟨m, ⟨o, es, ep, ho, r⟩, _⟩ := id I.loc
  obtain ⟨sl, hL⟩ := u.any ho I.free (by simp)
  exact I.step (g' := s.gens) (d' := s.drawn) (ch := []) (fun _ z => nomatch z) (fun b o _ hb _ e n => u.keep b o e n hb (by simp)) (fun b o _ hb _ e n => u.slot b o e n hb (by simp)) (fun b o _ e n => u.free b o e n (by simp)) (fun b o _ e => u.there b o e (by simp)) u.tups u.frzs u.tbls (fun m' hm => by
    obtain ⟨o', es', ep', ho', r'⟩ := hm
    rw [ho] at ho'; cases ho'
    exact ⟨_, es', ep', hL, r'⟩) hok I.bare
/-- behind a call (or a comprehension's block): the slots of this frame may have changed too, the records at ch may have turned -/
theorem Inv.call {g' : Array GenState} {t' : Nat} {d' : Drawn} {ch : List Addr} (I : Inv X pins σ H s) (u : Un (frs X.stack) ch H H' s.heap h') (hok : HOk X.prog X.w H' h') (hg : AllBare g')
    (hch : ∀ b ∈ ch, (b ∈ X.ex ∨ X.s₀.heap.objs.size ≤ b) ∧ b ≠ X.env.locals ∧ (∀ x c, X.env.cells.lookup x = some c → c ≠ b) ∧ ∀ p ∈ X.pn ++ pins, p.1 ≠ b) :
    Inv X pins σ H' { s with heap := h', gens := g', drawn := d', toks := t' } := by
  obtain ⟨m, ⟨o, es, ep, ho, r⟩, _⟩ := id I.loc
  obtain ⟨sl, hL⟩ := u.any ho I.free fun z => (hch _ z).2.1 rfl
  exact I.step (ch := ch) hch (fun b o hL hb hc e n => u.keep b o e n (fun z => (List.mem_cons.mp (I.stkSub b z)).elim hL hb) hc) (fun b o _ _ hc e n => u.any e n hc) (fun b o hc e n => u.free b o e n hc) (fun b o hc e => u.there b o e hc) u.tups u.frzs u.tbls (fun m' hm => by
    obtain ⟨o', es', ep', ho', r'⟩ := hm
    rw [ho] at ho'; cases ho'
    exact ⟨_, es', ep', hL, r'⟩) hok hg
/-- an untracked record of ours (an iterator) has turned -/
theorem Inv.turned {t' : Nat} {it : Addr} (I : Inv X pins σ H s) (k : ∀ b o, b ≠ it → s.heap.get? b = some o → h'.get? b = some o) (hn : H it = none) (hL : it ≠ X.env.locals)
    (h1 : it ∈ X.ex ∨ X.s₀.heap.objs.size ≤ it) (h2 : ∀ x c, X.env.cells.lookup x = some c → c ≠ it) (h3 : ∀ p ∈ X.pn ++ pins, p.1 ≠ it) : Inv X pins σ H { s with heap := h', toks := t' } := by
  have nit : ∀ b u, H b = some u → b ≠ it := fun b u e z => by rw [z, hn] at e; cases e
  refine I.step (g' := s.gens) (d' := s.drawn) (ch := [it]) (fun b hb => ?_) (fun b o _ _ hc e _ => k b o (fun z => hc (by simp [z])) e) (fun b o _ _ hc e _ => ⟨o.slots, k b o (fun z => hc (by simp [z])) e⟩) (fun _ _ _ _ n => n)
    (fun b o hc e => ⟨o, k b o (fun z => hc (by simp [z])) e⟩) (fun _ _ e => e) (fun _ _ _ e => e) (fun b ps e => ⟨#[], by rw [e]; simp⟩) (fun m hm => ?_) (fun b u e => ?_) I.bare
  · have e : b = it := by simpa using hb
    subst e
    exact ⟨h1, hL, h2, h3⟩
  · obtain ⟨o, es, ep, ho, r⟩ := hm
    exact ⟨o, es, ep, k _ o (Ne.symm hL) ho, r⟩
  · refine (I.hok b u e).stay (fun c v hc q => k c v ?_ q) (fun _ q => q) fun _ _ q => q
    rcases hc with z | z
    · rw [z]; exact nit b u e
    · exact nit c _ z
theorem Inv.tok (I : Inv X pins σ H s) (t : Nat) : Inv X pins σ H { s with toks := t } := I.un (h' := s.heap) (t' := t) Un.refl I.hok
/-- all objects kept -/
theorem Inv.kept {t' : Nat} (I : Inv X pins σ H s) (k : ∀ b u, s.heap.get? b = some u → h'.get? b = some u) : Inv X pins σ H { s with heap := h', toks := t' } := I.un (Un.kept k) (I.hok.kept k)
/-- a new object laid and tracked -/
theorem Inv.laid {a : Addr} {o : HO} {t' : Nat} (I : Inv X pins σ H s) (k : ∀ b u, s.heap.get? b = some u → h'.get? b = some u) (hp : s.heap.objs.size ≤ a) (new : ObjOk X.prog X.w (upd H a o) h' a o) :
    Inv X pins σ (upd H a o) { s with heap := h', toks := t' } := I.un (Un.laid k hp (I.hok.fresh hp)) (I.hok.laid k hp new)
/-- an object written -/
theorem Inv.write {x e : Addr} {o : HO} {t' : Nat} (I : Inv X pins σ H s) (mu : Mut (H x)) (he : e = x ∨ H e = some (.own x)) (k : ∀ b u, b ≠ e → s.heap.get? b = some u → h'.get? b = some u) (heo : ∃ u, h'.get? e = some u)
    (new : ObjOk X.prog X.w (upd H x o) h' x o) : Inv X pins σ (upd H x o) { s with heap := h', toks := t' } := I.un (Un.write mu he k heo) (I.hok.write mu he k heo new)
theorem Inv.pins_of {pins' : List (Addr × Obj)} (I : Inv X pins σ H s) (h : ∀ p ∈ pins', s.heap.get? p.1 = some p.2 ∧ H p.1 = none ∧ p.1 ≠ X.env.locals ∧ p.1 ∉ X.fs ∧ ∀ v, p.2.data ≠ .cell v) : Inv X pins' σ H s :=
  ⟨I.ok, I.os, I.bare, I.base, I.loc, I.cell, I.free, I.freeC, fun p hp => (List.mem_append.mp hp).elim (fun z => I.pin p (List.mem_append_left _ z)) (h p), I.hok, I.len⟩

theorem nodup_ix {N : List Str} (hN : N.Nodup) {i j : Nat} {x : Str} (a : N[i]? = some x) (b : N[j]? = some x) : i = j := by
  obtain ⟨h1, e1⟩ := List.getElem?_eq_some_iff.mp a
  obtain ⟨h2, e2⟩ := List.getElem?_eq_some_iff.mp b
  exact (List.getElem_inj hN).mp (e1.trans e2.symm)

/-- a name is stored; what changed -/
theorem store_ok2 {M : Model} {A : Around} {E : Value → Shared → Prop} {i : Nat} {x : Str} {v : V} {u : Value} {Q : Unit → Shared → Prop} (I : Inv X pins σ H s) (hN : X.N.Nodup) (hi : X.N[i]? = some x) (hx : Loc X.env.scope x) (r : RelV v u)
    (h : ∀ s', Inv X pins (σ.set i (some v)) H s' → (∃ a, Heap.SameBut a s.heap s'.heap ∧ (a = X.env.locals ∨ X.env.cells.lookup x = some a)) → Q () s') (hf : X.fn x = true ∨ X.env.scope.names.lookup x = some .local := by first | exact .inl rfl | exact .inr rfl | assumption) : wpAny M A (storeName X.env x u) Q E s := by
  obtain ⟨m, hn, hl⟩ := id I.loc
  have hcls : (X.env.scope.kind == .class || (X.env.scope.kind == .module && X.env.locals != X.env.globals)) = false := by rw [I.ok.kind]; rfl
  have hiσ : i < σ.length := by rw [I.len]; exact (List.getElem?_eq_some_iff.mp hi).1
  have cne := I.cne
  have tracked : ∀ {a : Addr} {h' : Heap}, (∃ o, s.heap.get? a = some o ∧ H a = none) → Heap.SameBut a s.heap h' → HOk X.prog X.w H h' := fun {a h'} ha hs b ob e => by
    obtain ⟨_, _, hfree⟩ := ha
    refine (I.hok b ob e).stay (fun c w' hc q => (hs.2 c ?_).trans q) (fun _ q => q) fun _ _ q => q
    rintro rfl
    rcases hc with rfl | hc
    · rw [hfree] at e; cases e
    · rw [hfree] at hc; cases hc
  rcases hx with hk | hk
  · refine wpAny_storeName_local hk hn (fun h' hn' hs => ?_) hcls
    obtain ⟨oL, _, _, hoL, _⟩ := id hn
    refine h _ ⟨I.ok, I.os, I.bare, ⟨fun b o e n hb hx => ?_, fun b o e n hb hx => ?_, I.base.free, fun b o e hx => ?_, I.base.tups, I.base.frzs, I.base.tbls⟩, ⟨_, hn', fun j y v' e1 e2 e3 => ?_⟩, fun y c e => ?_, I.free, I.freeC, fun p hp => ?_, tracked ⟨oL, hoL, I.free⟩ hs, by simpa using I.len⟩ ⟨_, hs, .inl rfl⟩
    · exact (hs.2 b (Nat.ne_of_lt (Nat.lt_of_lt_of_le (Heap.lt_size e) I.ok.above))).trans (I.base.keep b o e n hb hx)
    · obtain ⟨sl, e1⟩ := I.base.slot b o e n hb hx
      exact ⟨sl, (hs.2 b (Nat.ne_of_lt (Nat.lt_of_lt_of_le (Heap.lt_size e) I.ok.above))).trans e1⟩
    · obtain ⟨o', e1⟩ := I.base.there b o e hx
      exact ⟨o', (hs.2 b (Nat.ne_of_lt (Nat.lt_of_lt_of_le (Heap.lt_size e) I.ok.above))).trans e1⟩
    · by_cases hj : j = i
      · subst hj
        rw [hi] at e1; cases e1
        rw [List.getElem?_set_self hiσ] at e2
        cases e2
        exact ⟨u, r, .inl ⟨hk, by simp⟩⟩
      · rw [List.getElem?_set_ne (Ne.symm hj)] at e2
        obtain ⟨u', r', q⟩ := hl j y v' e1 e2 e3
        refine ⟨u', r', ?_⟩
        rcases q with ⟨k, e⟩ | ⟨k, c, e, z⟩
        · refine .inl ⟨k, ?_⟩
          have : y ≠ x := fun e => hj (nodup_ix hN e1 (e ▸ hi))
          simp [this, e]
        · exact .inr ⟨k, c, e, z.sameBut hs (cne y c e)⟩
    · obtain ⟨w', z⟩ := I.cell y c e
      exact ⟨w', z.sameBut hs (cne y c e)⟩
    · obtain ⟨e, n, ne, nf, d⟩ := I.pin p hp
      exact ⟨(hs.2 p.1 ne).trans e, n, ne, nf, d⟩
  · have hfn : X.fn x = true := by
      rcases hf with z | z
      · exact z
      · rw [z] at hk; cases hk
    obtain ⟨c, hc⟩ := I.ok.has x (.inl hk)
    obtain ⟨w', z⟩ := I.cell x c hc
    refine wpAny_storeName_cell I.ok.kind hk hc z (fun h' hc' hs => ?_)
    obtain ⟨oc, hoc, hocd⟩ := id z
    refine h { s with heap := h' } ⟨I.ok, I.os, I.bare, ⟨fun b o e n hb hx => ?_, fun b o e n hb hx => ?_, I.base.free, fun b o e hx => ?_, I.base.tups, I.base.frzs, I.base.tbls⟩, ⟨m, hn.sameBut hs (Ne.symm (cne x c hc)), fun j y v' e1 e2 e3 => ?_⟩, fun y c' e => ?_, I.free, I.freeC, fun p hp => ?_, tracked ⟨oc, hoc, I.freeC x c hc⟩ hs, by simpa using I.len⟩ ⟨c, hs, .inr hc⟩
    · exact (hs.2 b (Nat.ne_of_lt (Nat.lt_of_lt_of_le (Heap.lt_size e) (I.ok.cab x c hfn hc)))).trans (I.base.keep b o e n hb hx)
    · obtain ⟨sl, e1⟩ := I.base.slot b o e n hb hx
      exact ⟨sl, (hs.2 b (Nat.ne_of_lt (Nat.lt_of_lt_of_le (Heap.lt_size e) (I.ok.cab x c hfn hc)))).trans e1⟩
    · obtain ⟨o', e1⟩ := I.base.there b o e hx
      exact ⟨o', (hs.2 b (Nat.ne_of_lt (Nat.lt_of_lt_of_le (Heap.lt_size e) (I.ok.cab x c hfn hc)))).trans e1⟩
    · by_cases hj : j = i
      · subst hj
        rw [hi] at e1; cases e1
        rw [List.getElem?_set_self hiσ] at e2
        cases e2
        exact ⟨u, r, .inr ⟨.inl hk, c, hc, hc'⟩⟩
      · rw [List.getElem?_set_ne (Ne.symm hj)] at e2
        obtain ⟨u', r', q⟩ := hl j y v' e1 e2 e3
        refine ⟨u', r', ?_⟩
        rcases q with q | ⟨k, c', e, z'⟩
        · exact .inl q
        · refine .inr ⟨k, c', e, z'.sameBut hs ?_⟩
          rintro rfl
          exact hj (nodup_ix hN e1 (I.ok.inj _ _ _ e hc ▸ hi))
    · by_cases hcc : c' = c
      · subst hcc; exact ⟨_, hc'⟩
      · obtain ⟨w2, z2⟩ := I.cell y c' e
        exact ⟨w2, z2.sameBut hs hcc⟩
    · obtain ⟨e, n, ne, nf, d⟩ := I.pin p hp
      refine ⟨(hs.2 p.1 ?_).trans e, n, ne, nf, d⟩
      intro q
      rw [q, hoc] at e
      have q' : oc = p.2 := Option.some.inj e
      exact d w' (by rw [← q']; exact hocd)
theorem store_ok {M : Model} {A : Around} {E : Value → Shared → Prop} {i : Nat} {x : Str} {v : V} {u : Value} {Q : Unit → Shared → Prop} (I : Inv X pins σ H s) (hN : X.N.Nodup) (hi : X.N[i]? = some x) (hx : Loc X.env.scope x) (r : RelV v u)
    (h : ∀ s', Inv X pins (σ.set i (some v)) H s' → Q () s') (hf : X.fn x = true ∨ X.env.scope.names.lookup x = some .local := by first | exact .inl rfl | exact .inr rfl | assumption) : wpAny M A (storeName X.env x u) Q E s :=
  store_ok2 I hN hi hx r (fun s' I' _ => h s' I') hf
/-- behind a call or a block, the state as it is -/
theorem Inv.call' {s' : Shared} {ch : List Addr} (I : Inv X pins σ H s) (ho : s'.os = s.os) (u : Un (frs X.stack) ch H H' s.heap s'.heap) (hok : HOk X.prog X.w H' s'.heap) (hg : AllBare s'.gens)
    (hch : ∀ b ∈ ch, (b ∈ X.ex ∨ X.s₀.heap.objs.size ≤ b) ∧ b ≠ X.env.locals ∧ (∀ x c, X.env.cells.lookup x = some c → c ≠ b) ∧ ∀ p ∈ X.pn ++ pins, p.1 ≠ b) : Inv X pins σ H' s' := by
  obtain ⟨h', g', d', t', o'⟩ := s'
  have e : o' = s.os := ho
  subst e
  exact I.call (g' := g') (t' := t') (d' := d') u hok hg hch
end

/-! ### the judgements -/
/-- an exception: its class, its own dict's address (where it has one), the abstract heap behind it -/
abbrev XK := Value → Option Addr → Hp → Prop
abbrev St := List (Option V)
abbrev VK := V → Hp → Prop
/-- an expression's reading; a test's; an argument list's -/
abbrev TE := St → Hp → VK → Prop
abbrev TT := St → Hp → (Bool → Hp → Prop) → Prop
abbrev TA := St → Hp → (List V → Hp → Prop) → Prop
/-- what is wanted behind a statement -/
structure Ends where
  nx : St → Hp → Prop
  rt : VK
  bk : St → Hp → Prop := fun _ _ => False
  ct : St → Hp → Prop := fun _ _ => False
abbrev TS := Ends → St → Hp → Prop

def EP (X : Cx) (pins : List (Addr × Obj)) (σ : St) (Q : VK) (u : Value) (s' : Shared) : Prop := ∃ v H', Inv X pins σ H' s' ∧ RelV v u ∧ Q v H'
def TP (X : Cx) (pins : List (Addr × Obj)) (σ : St) (Q : Bool → Hp → Prop) (b : Bool) (s' : Shared) : Prop := ∃ H', Inv X pins σ H' s' ∧ Q b H'
def AP (X : Cx) (pins : List (Addr × Obj)) (σ : St) (Q : List V → Hp → Prop) (us : List Value) (s' : Shared) : Prop := ∃ vs H', Inv X pins σ H' s' ∧ Vals vs us ∧ Q vs H'
def SP (X : Cx) (pins : List (Addr × Obj)) (D : Ends) (f : Flow) (s' : Shared) : Prop :=
  match f with
  | .next => ∃ σ' H', Inv X pins σ' H' s' ∧ D.nx σ' H'
  | .brk => ∃ σ' H', Inv X pins σ' H' s' ∧ D.bk σ' H'
  | .cont => ∃ σ' H', Inv X pins σ' H' s' ∧ D.ct σ' H'
  | .ret u => ∃ v σ' H', Inv X pins σ' H' s' ∧ RelV v u ∧ D.rt v H'

def PE (X : Cx) (e : Expr) (t : TE) : Prop :=
  ∀ (pins : List (Addr × Obj)) (s : Shared) (σ : St) (H : Hp) (Q : VK), Inv X pins σ H s → t σ H Q → wpAny (model X.prog X.w) X.A (eval e X.env) (EP X pins σ Q) X.xe s
def PT (X : Cx) (e : Expr) (t : TT) : Prop :=
  ∀ (pins : List (Addr × Obj)) (s : Shared) (σ : St) (H : Hp) (Q : Bool → Hp → Prop), Inv X pins σ H s → t σ H Q → wpAny (model X.prog X.w) X.A (isTrue e X.env (eval e X.env)) (TP X pins σ Q) X.xe s
/-- a test whatever its 'whole' is (and, or) -/
def PW (X : Cx) (e : Expr) (t : TT) : Prop :=
  ∀ (whole : Sem Value) (pins : List (Addr × Obj)) (s : Shared) (σ : St) (H : Hp) (Q : Bool → Hp → Prop), Inv X pins σ H s → t σ H Q → wpAny (model X.prog X.w) X.A (isTrue e X.env whole) (TP X pins σ Q) X.xe s
theorem PW.pt {X : Cx} {e : Expr} {t : TT} (h : PW X e t) : PT X e t := h _
/-- an argument list (no star), from the left -/
def PA (X : Cx) (es : List Expr) (t : TA) : Prop :=
  ∀ (pos : Pos) (pins : List (Addr × Obj)) (s : Shared) (σ : St) (H : Hp) (Q : List V → Hp → Prop), Inv X pins σ H s → t σ H Q → wpAny (model X.prog X.w) X.A (spliced (backTo pos (starEach es X.env))) (AP X pins σ Q) X.xe s
def PS (X : Cx) (st : Stmt) (t : TS) : Prop :=
  ∀ (pins : List (Addr × Obj)) (s : Shared) (σ : St) (H : Hp) (D : Ends), Inv X pins σ H s → t D σ H → wpAny (model X.prog X.w) X.A (exec st X.env) (SP X pins D) X.xe s
def PSs (X : Cx) (st : List Stmt) (t : TS) : Prop :=
  ∀ (pins : List (Addr × Obj)) (s : Shared) (σ : St) (H : Hp) (D : Ends), Inv X pins σ H s → t D σ H → wpAny (model X.prog X.w) X.A (execs st X.env) (SP X pins D) X.xe s
/-- weaken the end -/
theorem thn {α : Type} {t : Sem α} {Q Q' : α → Shared → Prop} {M : Model} {A : Around} {E : Value → Shared → Prop} {s : Shared} (h : wpAny M A t Q E s) (hQ : ∀ a s, Q a s → Q' a s) : wpAny M A t Q' E s := wpAny_mono h hQ fun _ _ x => x
end L2

namespace L2
open PySem PySem.Spec PyProof.Rows
section
variable {X : Cx}

/-! ### names and constants -/
def tVar (i : Nat) : TE := fun σ H Q => ∃ v, σ[i]? = some (some v) ∧ Q v H
def tC (v : V) : TE := fun _ H Q => Q v H
theorem pe_var {i : Nat} {x : Str} {pos : Pos} (hN : X.N[i]? = some x) (hv : Vis X.env.scope x) (hd : (x == ("__debug__" : Str)) = false := by decide) (hcd : (x == ("__classdict__" : Str)) = false := by decide) : PE X (.Name x pos) (tVar i) := by
  intro pins s σ H Q I h
  obtain ⟨v, e, h⟩ := h
  obtain ⟨m, hn, hl⟩ := I.loc
  obtain ⟨u, r, l⟩ := hl i x v hN e hv
  have fin : EP X pins σ Q u s := ⟨v, H, I, r, h⟩
  rcases l with ⟨hk, hm⟩ | ⟨hk, c, hc, hcell⟩
  · exact wpAny_Name (wpAny_loadName_local I.ok.kind hk hn hm fin) hd
  · rcases hk with hk | hk
    · exact wpAny_Name (wpAny_loadName_cell I.ok.kind hk hc hcell fin) hd
    · exact wpAny_Name (wpAny_loadName_free I.ok.kind hk hc hcell fin hcd) hd
theorem pe_int {i j pos} : PE X (.Constant (.int i) j pos) (tC (.int i)) := fun _ _ _ H _ I h => wpAny_Constant_int ⟨.int i, H, I.tok _, ⟨_, rfl⟩, h⟩
theorem pe_bl {b j pos} : PE X (.Constant (.bool b) j pos) (tC (.bl b)) := fun _ _ _ H _ I h => Constant_bool ⟨.bl b, H, I, rfl, h⟩
theorem pe_non {j pos} : PE X (.Constant .none j pos) (tC .non) := fun _ _ _ H _ I h => Constant_none ⟨.non, H, I, rfl, h⟩
theorem pe_str {x j pos} : PE X (.Constant (.str x) j pos) (tC (.str x)) := fun _ _ _ H _ I h => Calls.Constant_str ⟨.str x, H, I.tok _, ⟨_, rfl⟩, h⟩

/-- a global name of the def -/
def Gl (X : Cx) (x : Str) : Prop := X.env.kindOf x = some .globalImplicit
theorem ld_glob {E : Value → Shared → Prop} {pins : List (Addr × Obj)} {s : Shared} {σ : St} {H : Hp} {x : Str} {u : Value} {pos : Pos} {Q : Value → Shared → Prop} (I : Inv X pins σ H s) (hg : Gl X x) (hm : X.mg x = some u) (h : Q u s)
    (hd : (x == ("__debug__" : Str)) = false := by decide) : wpAny (model X.prog X.w) X.A (eval (.Name x pos) X.env) Q E s :=
  Calls.Name_function_global I.ok.kind hg (Calls.loadGlobal_global (by rw [I.ok.glob]; exact I.mod.glob.keeps I.bk) hm h) hd
theorem ld_blt {E : Value → Shared → Prop} {pins : List (Addr × Obj)} {s : Shared} {σ : St} {H : Hp} {x : Str} {u : Value} {pos : Pos} {Q : Value → Shared → Prop} (I : Inv X pins σ H s) (hg : Gl X x) (hm : X.mg x = none) (hv : bootBuiltins x = some u) (h : Q u s)
    (hn : x ≠ "__name__" := by decide) (hd : (x == ("__debug__" : Str)) = false := by decide) : wpAny (model X.prog X.w) X.A (eval (.Name x pos) X.env) Q E s := by
  obtain ⟨mb, h1, h2⟩ := I.mod.blt
  exact Calls.Name_function_global I.ok.kind hg (Calls.loadGlobal_builtin (by rw [I.ok.glob]; exact I.mod.glob.keeps I.bk) hm (by rw [I.ok.blt]; exact h1.keeps I.bk) ((h2 x hn).trans hv) h) hd
theorem pe_bltn {x : Str} {v : V} {u : Value} {pos : Pos} (hg : Gl X x) (hm : X.mg x = none) (hv : bootBuiltins x = some u) (r : RelV v u) (hn : x ≠ "__name__" := by decide) (hd : (x == ("__debug__" : Str)) = false := by decide) : PE X (.Name x pos) (tC v) :=
  fun _ _ _ H _ I h => ld_blt I hg hm hv ⟨v, H, I, r, h⟩ hn hd

/-! ### arithmetic -/
variable {a b : Expr} {ta tb : TE} {pos : Pos}
/-! ### comparisons -/
/-- a comparison as a value, as a test -/
def tB (t : TE) : TT := fun σ H Q => t σ H fun x H1 => ∃ c, x = .bl c ∧ Q c H1
/-- an expression whose value is a bool, as a test -/
theorem pt_val {e : Expr} {t : TE} (h : PE X e t) (he : ∀ whole, isTrue e X.env whole = (do let v ← whole; standAt e.pos; holding [v] (truthy v)) := by intro _; rfl) : PT X e (tB t) := by
  intro pins s σ H Q I hw
  refine isTrue_plain (thn (h pins s σ H _ I hw) fun v s1 ⟨x, H1, I1, r1, q1⟩ => ?_) (he _)
  obtain ⟨d, rfl, q⟩ := q1
  cases r1
  exact wpAny_truthy_bool ⟨H1, I1, q⟩

/-! ### and, or, not -/
variable {tA tB' : TT} {rest : List Expr}
def tAnd (t u : TT) : TT := fun σ H Q => t σ H fun c H1 => if c = true then u σ H1 Q else Q false H1
def tOr (t u : TT) : TT := fun σ H Q => t σ H fun c H1 => if c = true then Q true H1 else u σ H1 Q
def tNot (t : TT) : TT := fun σ H Q => t σ H fun c H1 => Q (!c) H1
theorem pw_and1 (ha : PT X a tA) : PW X (.BoolOp .And [a] pos) tA := by
  intro wh pins s σ H Q I h
  refine isTrue_and (thn (ha pins s σ H Q I h) fun c s1 e => ?_)
  cases c with
  | true => exact isTrue_and_nil e
  | false => exact e
theorem pw_or1 (ha : PT X a tA) : PW X (.BoolOp .Or [a] pos) tA := by
  intro wh pins s σ H Q I h
  refine isTrue_or (thn (ha pins s σ H Q I h) fun c s1 e => ?_)
  cases c with
  | false => exact isTrue_or_nil e
  | true => exact e
theorem pw_and (ha : PT X a tA) (hb : PW X (.BoolOp .And (b :: rest) pos) tB') : PW X (.BoolOp .And (a :: b :: rest) pos) (tAnd tA tB') := by
  intro wh pins s σ H Q I h
  refine isTrue_and (thn (ha pins s σ H _ I h) fun c s1 ⟨H1, I1, q1⟩ => ?_)
  cases c with
  | true => exact hb wh pins s1 σ H1 Q I1 q1
  | false => exact ⟨H1, I1, q1⟩
theorem pw_or (ha : PT X a tA) (hb : PW X (.BoolOp .Or (b :: rest) pos) tB') : PW X (.BoolOp .Or (a :: b :: rest) pos) (tOr tA tB') := by
  intro wh pins s σ H Q I h
  refine isTrue_or (thn (ha pins s σ H _ I h) fun c s1 ⟨H1, I1, q1⟩ => ?_)
  cases c with
  | true => exact ⟨H1, I1, q1⟩
  | false => exact hb wh pins s1 σ H1 Q I1 q1
theorem pt_not (ha : PT X a tA) : PT X (.UnaryOp .Not a pos) (tNot tA) := by
  intro pins s σ H Q I h
  exact isTrue_not (ha pins s σ H (fun c H1 => Q (!c) H1) I h)
/-- .. as values (bools) -/
def tAndV (ta tb : TE) : TE := fun σ H Q => ta σ H fun x H1 => ∃ c, x = .bl c ∧ if c = true then tb σ H1 Q else Q (.bl false) H1
def tOrV (ta tb : TE) : TE := fun σ H Q => ta σ H fun x H1 => ∃ c, x = .bl c ∧ if c = true then Q (.bl true) H1 else tb σ H1 Q
def tNotV (ta : TE) : TE := fun σ H Q => ta σ H fun x H1 => ∃ c, x = .bl c ∧ Q (.bl (!c)) H1
theorem pe_one {op} {t : TE} (h : PE X a t) : PE X (.BoolOp op [a] pos) t := fun pins s σ H Q I hw => BoolOp_one (h pins s σ H Q I hw)
theorem pe_and (ha : PE X a ta) (hb : PE X (.BoolOp .And (b :: rest) pos) tb) : PE X (.BoolOp .And (a :: b :: rest) pos) (tAndV ta tb) := by
  intro pins s σ H Q I h
  refine BoolOp_and (thn (ha pins s σ H _ I h) fun v s1 ⟨x, H1, I1, r1, q1⟩ => ?_)
  obtain ⟨c, rfl, q1⟩ := q1
  cases r1
  refine wpAny_truthy_bool ?_
  cases c with
  | true => exact hb pins s1 σ H1 Q I1 q1
  | false => exact ⟨.bl false, H1, I1, rfl, q1⟩
theorem pe_or (ha : PE X a ta) (hb : PE X (.BoolOp .Or (b :: rest) pos) tb) : PE X (.BoolOp .Or (a :: b :: rest) pos) (tOrV ta tb) := by
  intro pins s σ H Q I h
  refine BoolOp_or (thn (ha pins s σ H _ I h) fun v s1 ⟨x, H1, I1, r1, q1⟩ => ?_)
  obtain ⟨c, rfl, q1⟩ := q1
  cases r1
  refine wpAny_truthy_bool ?_
  cases c with
  | false => exact hb pins s1 σ H1 Q I1 q1
  | true => exact ⟨.bl true, H1, I1, rfl, q1⟩
theorem pe_not (ha : PE X a ta) : PE X (.UnaryOp .Not a pos) (tNotV ta) := by
  intro pins s σ H Q I h
  refine UnaryOp_ (thn (ha pins s σ H _ I h) fun v s1 ⟨x, H1, I1, r1, q1⟩ => ?_)
  obtain ⟨c, rfl, q1⟩ := q1
  cases r1
  exact not_of (wpAny_truthy_bool ⟨.bl (!c), H1, I1, rfl, q1⟩)
end
end L2

namespace L2
open PySem PySem.Spec PyProof.Rows

/-! ### a list, a tuple that is read: tracked, frozen, or an object of the module -/
def SqL (K : PySem.W.Frag) (H : Hp) (a : Addr) (xs : List V) : Prop :=
  Rd H a (.lst xs) ∨
    ∃ (o : Obj) (its : Array Value) (n : Nat), K.lookup a = some o ∧ o.cls = .type "list" ∧ o.dict = none ∧ o.data = .seq its n ∧ its.size ≤ sizeLine ∧ Vals xs its.toList
def SqT (K : PySem.W.Frag) (H : Hp) (a : Addr) (xs : List V) : Prop :=
  Rd H a (.tup xs) ∨
    ∃ (o : Obj) (its : Array Value) (n : Nat), K.lookup a = some o ∧ o.cls = .type "tuple" ∧ o.data = .seq its n ∧ its.size ≤ sizeLine ∧ Vals xs its.toList
def absV : Value → Option V
  | .none => some .non
  | .bool b => some (.bl b)
  | .int i _ => some (.int i)
  | .str x _ => some (.str x)
  | .bytes b _ => some (.byt b)
  | .float b _ => some (.flt b)
  | .ref a => some (.ref a)
  | .type n => some (.ty n)
  | _ => none
theorem RelV.abs {x : V} {u : Value} (r : RelV x u) : absV u = some x := by
  cases x with
  | non => cases r; rfl
  | bl _ => cases r; rfl
  | int _ => obtain ⟨t, rfl⟩ := r; rfl
  | str _ => obtain ⟨t, rfl⟩ := r; rfl
  | byt _ => obtain ⟨t, rfl⟩ := r; rfl
  | flt _ => obtain ⟨t, rfl⟩ := r; rfl
  | ref _ => cases r; rfl
  | ty _ => cases r; rfl
theorem RelV.inj {x y : V} {u : Value} (r : RelV x u) (q : RelV y u) : x = y := Option.some.inj (r.abs.symm.trans q.abs)
theorem Vals.inj : ∀ {xs ys : List V} {us : List Value}, Vals xs us → Vals ys us → xs = ys
  | _, _, _, .nil, .nil => rfl
  | _, _, _, .cons r t, .cons r' t' => by rw [r.inj r', Vals.inj t t']
section
variable {X : Cx} {pins : List (Addr × Obj)} {σ : St} {H : Hp} {s : Shared} {a : Addr} {xs ys : List V}
theorem SqL.of {K : PySem.W.Frag} (h : H a = some (.lst xs)) : SqL K H a xs := .inl (.inl h)
theorem SqT.of {K : PySem.W.Frag} (h : H a = some (.tup xs)) : SqT K H a xs := .inl (.inl h)
theorem Inv.list (I : Inv X pins σ H s) (h : SqL X.K H a xs) : ∃ its : List Value, Vals xs its ∧ PlainL s.heap a its.toArray ∧ xs.length ≤ sizeLine := by
  rcases h with h | ⟨o, its, n, hk, hc, hd, hs, hz, r⟩
  · obtain ⟨z, its, n, r, e⟩ := h.ok I.hok
    exact ⟨its, r, ⟨_, n, e, rfl, rfl, rfl⟩, z⟩
  · refine ⟨its.toList, r, ⟨o, n, I.kIn a o hk, hc, hd, by simpa using hs⟩, ?_⟩
    have e := r.length
    simp only [Array.length_toList] at e
    omega
theorem Inv.tuple (I : Inv X pins σ H s) (h : SqT X.K H a xs) : ∃ its : List Value, Vals xs its ∧ IsTup s.heap a its.toArray ∧ xs.length ≤ sizeLine := by
  rcases h with h | ⟨o, its, n, hk, hc, hs, hz, r⟩
  · obtain ⟨z, its, r, p⟩ := h.ok I.hok
    exact ⟨its, r, p, z⟩
  · refine ⟨its.toList, r, ⟨o, I.kIn a o hk, hc, n, by simpa using hs⟩, ?_⟩
    have e := r.length
    simp only [Array.length_toList] at e
    omega
theorem Inv.list_inj (I : Inv X pins σ H s) (h : SqL X.K H a xs) (h' : SqL X.K H a ys) : xs = ys := by
  obtain ⟨its, r, ⟨o, n, e, _, _, d⟩, _⟩ := I.list h
  obtain ⟨its', r', ⟨o', n', e', _, _, d'⟩, _⟩ := I.list h'
  rw [e] at e'; cases e'
  rw [d] at d'
  injection d' with d1 _
  have : its = its' := by simpa using congrArg Array.toList d1
  subst this
  exact r.inj r'
theorem Inv.tuple_inj (I : Inv X pins σ H s) (h : SqT X.K H a xs) (h' : SqT X.K H a ys) : xs = ys := by
  obtain ⟨its, r, ⟨o, e, _, n, d⟩, _⟩ := I.tuple h
  obtain ⟨its', r', ⟨o', e', _, n', d'⟩, _⟩ := I.tuple h'
  rw [e] at e'; cases e'
  rw [d] at d'
  injection d' with d1 _
  have : its = its' := by simpa using congrArg Array.toList d1
  subst this
  exact r.inj r'
end

/-! ### another wish about exceptions -/
abbrev Cx.wish (X : Cx) (E : Value → Shared → Prop) : Cx := { X with xe := E }
/-- no exception leaves -/
abbrev Cx.nox (X : Cx) : Cx := X.wish fun _ _ => False
theorem Cx.Ok.wish {X : Cx} (ok : X.Ok) (E : Value → Shared → Prop) : (X.wish E).Ok :=
  ⟨ok.mod, ok.kind, ok.glob, ok.blt, ok.above, ok.inj, ok.has, ok.cab, ok.hd, ok.frames, ok.stk, ok.exf, ok.bs, ok.bsz, ok.noex, ok.exfs, ok.funs, ok.frf⟩
theorem Cx.Ok.unwish {X : Cx} {E : Value → Shared → Prop} (ok : (X.wish E).Ok) : X.Ok :=
  ⟨ok.mod, ok.kind, ok.glob, ok.blt, ok.above, ok.inj, ok.has, ok.cab, ok.hd, ok.frames, ok.stk, ok.exf, ok.bs, ok.bsz, ok.noex, ok.exfs, ok.funs, ok.frf⟩
section
variable {X : Cx} {pins : List (Addr × Obj)} {σ : St} {H : Hp} {s : Shared} {E : Value → Shared → Prop}
theorem Inv.wish (I : Inv X pins σ H s) (E : Value → Shared → Prop) : Inv (X.wish E) pins σ H s := ⟨I.ok.wish E, I.os, I.bare, I.base, I.loc, I.cell, I.free, I.freeC, I.pin, I.hok, I.len⟩
theorem Inv.unwish (I : Inv (X.wish E) pins σ H s) : Inv X pins σ H s := ⟨I.ok.unwish, I.os, I.bare, I.base, I.loc, I.cell, I.free, I.freeC, I.pin, I.hok, I.len⟩
theorem SP.unwish {D : Ends} {f : Flow} {s' : Shared} (h : SP (X.wish E) pins D f s') : SP X pins D f s' := by
  cases f with
  | next => obtain ⟨σ', H', I, q⟩ := h; exact ⟨σ', H', I.unwish, q⟩
  | brk => obtain ⟨σ', H', I, q⟩ := h; exact ⟨σ', H', I.unwish, q⟩
  | cont => obtain ⟨σ', H', I, q⟩ := h; exact ⟨σ', H', I.unwish, q⟩
  | ret u => obtain ⟨v, σ', H', I, r, q⟩ := h; exact ⟨v, σ', H', I.unwish, r, q⟩
theorem PSs.nox {st : List Stmt} {t : TS} (h : PSs X.nox st t) : PSs X st t := fun pins s σ H D I hw =>
  wpAny_mono (h pins s σ H D (I.wish _) hw) (fun _ _ q => q.unwish) fun _ _ z => False.elim z
end

/-! ### blocks and small statements -/
section
variable {X : Cx} {st : Stmt} {rest : List Stmt} {t u : TS} {e : Expr} {te : TE} {pos : Pos}
def tNext : TS := fun D σ H => D.nx σ H
def tSeq (t u : TS) : TS := fun D σ H => t { D with nx := u D } σ H
theorem pss_nil : PSs X [] tNext := fun _ _ σ H _ I h => wpAny_execs_nil ⟨σ, H, I, h⟩
theorem pss_cons (h1 : PS X st t) (h2 : PSs X rest u) : PSs X (st :: rest) (tSeq t u) := by
  intro pins s σ H D I h
  refine wpAny_execs_cons (thn (h1 pins s σ H { D with nx := u D } I h) fun f s1 q => ?_)
  cases f with
  | next =>
    obtain ⟨σ', H', I', q⟩ := q
    exact h2 pins s1 σ' H' D I' q
  | ret v => exact q
  | brk => exact q
  | cont => exact q
theorem pss_one (h1 : PS X st t) : PSs X [st] t := by
  intro pins s σ H D I h
  refine wpAny_execs_cons (thn (h1 pins s σ H D I h) fun f s1 q => ?_)
  cases f with
  | next => exact wpAny_execs_nil q
  | ret v => exact q
  | brk => exact q
  | cont => exact q
/-- in a def's body nothing is shown -/
theorem Inv.quiet {pins : List (Addr × Obj)} {σ : St} {H : Hp} {s : Shared} (I : Inv X pins σ H s) : interactive X.env = false := by simp [interactive, I.ok.kind]
/-- an expression whose value is dropped -/
def tDrop (te : TE) : TS := fun D σ H => te σ H fun _ H1 => D.nx σ H1
theorem ps_expr (he : PE X e te) (hs : swapsWith e none pos.line X.env = pure false := by rfl) : PS X (.Expr e pos) (tDrop te) := by
  intro pins s σ H D I h
  exact wpAny_Expr_any (thn (he pins s σ H _ I h) fun v s1 ⟨x, H1, I1, r1, q1⟩ => ⟨σ, H1, I1, q1⟩) I.quiet hs
def tRet (te : TE) : TS := fun D σ H => te σ H D.rt
theorem ps_ret (he : PE X e te) : PS X (.Return (some e) pos) (tRet te) := by
  intro pins s σ H D I h
  exact wpAny_Return_some (thn (he pins s σ H _ I h) fun v s1 ⟨x, H1, I1, r1, q1⟩ => ⟨x, σ, H1, I1, r1, q1⟩)
def tIfS (c : TT) (t u : TS) : TS := fun D σ H => c σ H fun b H1 => if b = true then t D σ H1 else u D σ H1
theorem ps_if {c : Expr} {a b : List Stmt} {tc : TT} (hc : PT X c tc) (ha : PSs X a t) (hb : PSs X b u) : PS X (.If c a b pos) (tIfS tc t u) := by
  intro pins s σ H D I h
  refine wpAny_If (thn (hc pins s σ H _ I h) fun d s1 ⟨H1, I1, q1⟩ => ?_)
  cases d with
  | true => exact ha pins s1 σ H1 D I1 q1
  | false => exact hb pins s1 σ H1 D I1 q1
/-- code that the proof never comes to -/
def tNever : TS := fun _ _ _ => False
theorem ps_never : PS X st tNever := fun _ _ _ _ _ _ h => h.elim
end

/-! ### targets -/
abbrev TG := V → St → Hp → (St → Hp → Prop) → Prop
abbrev TGs := List V → St → Hp → (St → Hp → Prop) → Prop
def PG (X : Cx) (target : Expr) (t : TG) : Prop :=
  ∀ (pins : List (Addr × Obj)) (s : Shared) (σ : St) (H : Hp) (v : V) (u : Value) (Q : St → Hp → Prop), Inv X pins σ H s → RelV v u → t v σ H Q →
    wpAny (model X.prog X.w) X.A (assign target X.env u) (fun _ s' => ∃ σ' H', Inv X pins σ' H' s' ∧ Q σ' H') X.xe s
/-- several targets, one after another -/
def PGs (X : Cx) (ts : List Expr) (t : TGs) : Prop :=
  ∀ (pins : List (Addr × Obj)) (s : Shared) (σ : St) (H : Hp) (vs : List V) (us : List Value) (Q : St → Hp → Prop), Inv X pins σ H s → Vals vs us → t vs σ H Q →
    wpAny (model X.prog X.w) X.A (assignInOrder ((assignEach ts X.env).map (·.2)) us) (fun _ s' => ∃ σ' H', Inv X pins σ' H' s' ∧ Q σ' H') X.xe s
/-- o[i] = v, by values -/
abbrev TSet := V → V → V → Hp → (Hp → Prop) → Prop
def PSet (X : Cx) (t : TSet) : Prop :=
  ∀ (pins : List (Addr × Obj)) (s : Shared) (σ : St) (H : Hp) (o i v : V) (ov iv u : Value) (Q : Hp → Prop), Inv X pins σ H s → RelV o ov → RelV i iv → RelV v u → t o i v H Q →
    wpAny (model X.prog X.w) X.A (setItem ov iv u) (fun _ s' => ∃ H', Inv X pins σ H' s' ∧ Q H') X.xe s
/-- a op= b, by values -/
abbrev TIp := V → V → Hp → VK → Prop
def PIp (X : Cx) (op : Operator) (t : TIp) : Prop :=
  ∀ (pins : List (Addr × Obj)) (s : Shared) (σ : St) (H : Hp) (x y : V) (v u : Value) (Q : VK), Inv X pins σ H s → RelV x v → RelV y u → t x y H Q →
    wpAny (model X.prog X.w) X.A (inplaceOp op v u) (EP X pins σ Q) X.xe s
section
variable {X : Cx} {pos : Pos}
def gName (i : Nat) : TG := fun v σ H Q => Q (σ.set i (some v)) H
theorem pg_name {i : Nat} {x : Str} (hN : X.N.Nodup) (hi : X.N[i]? = some x) (hx : Loc X.env.scope x) (hf : X.fn x = true ∨ X.env.scope.names.lookup x = some .local := by first | exact .inl rfl | exact .inr rfl | assumption) : PG X (.Name x pos) (gName i) := by
  intro pins s σ H v u Q I r h
  exact wpAny_assign_Name (store_ok I hN hi hx r (fun s' I' => ⟨_, H, I', h⟩) hf)
def gNil : TGs := fun vs σ H Q => vs = [] ∧ Q σ H
def gCons (t : TG) (u : TGs) : TGs := fun vs σ H Q => ∃ v r, vs = v :: r ∧ t v σ H fun σ' H' => u r σ' H' Q
theorem pgs_nil : PGs X [] gNil := by
  intro pins s σ H vs us Q I r h
  obtain ⟨e, h⟩ := h
  subst e
  cases r
  exact assignInOrder_nil ⟨σ, H, I, h⟩
theorem pgs_cons {e : Expr} {es : List Expr} {t : TG} {u : TGs} (h1 : PG X e t) (h2 : PGs X es u)
    (hs : (assignEach (e :: es) X.env).map (·.2) = assign e X.env :: (assignEach es X.env).map (·.2) := by rfl) : PGs X (e :: es) (gCons t u) := by
  intro pins s σ H vs us Q I r h
  obtain ⟨v, vr, e1, h⟩ := h
  subst e1
  cases r with
  | cons r rr =>
    rw [hs]
    refine assignInOrder_cons (thn (h1 pins s σ H _ _ _ I r h) fun _ s1 ⟨σ1, H1, I1, q1⟩ => ?_)
    exact h2 pins s1 σ1 H1 _ _ Q I1 rr q1
/-- (a, b, ..) = a tuple of that length -/
def gTup (K : PySem.W.Frag) (n : Nat) (t : TGs) : TG := fun v σ H Q => ∃ a xs, v = .ref a ∧ SqT K H a xs ∧ xs.length = n ∧ t xs σ H Q
theorem pg_tup {es : List Expr} {k : Nat} {t : TGs} {n : Nat} (hc : X.calm = true) (h : PGs X es t)
    (hn : (assignEach es X.env).length = n := by rfl) (hst : (assignEach es X.env).findIdx? (·.1) = none := by rfl) : PG X (.Tuple es k pos) (gTup X.K n t) := by
  intro pins s σ H v u Q I r hw
  obtain ⟨a, xs, e1, hq, hl, hw⟩ := hw
  subst e1
  cases r
  obtain ⟨its, rv, ht, hz⟩ := I.tuple hq
  refine assign_Tuple_tuple (I.ok.hd hc) ht (by simp [hn, ← hl, rv.length]) hst fun h' hx => ?_
  have I1 : Inv X pins σ H { s with heap := h' } := I.kept (t' := s.toks) fun b o e => hx b o (Nat.ne_of_lt (Heap.lt_size e)) e
  exact h pins _ σ H xs _ Q I1 (by simpa using rv) hw
/-- o[i] = .. -/
def gSub (to ti : TE) (t : TSet) : TG := fun v σ H Q => to σ H fun o H1 => ti σ H1 fun i H2 => t o i v H2 fun H3 => Q σ H3
theorem pg_sub {o i : Expr} {to ti : TE} {t : TSet} (ho : PE X o to) (hi : PE X i ti) (hs : PSet X t)
    (ha : ∀ v, assign (.Subscript o i pos) X.env v = (do
      let ov ← holding [v] (eval o X.env)
      let iv ← holding [v, ov] (eval i X.env)
      standAt pos
      holding [v, ov, iv] (setItem ov iv v)
      release [v, ov, iv] []) := by intro _; rfl) : PG X (.Subscript o i pos) (gSub to ti t) := by
  intro pins s σ H v u Q I r h
  rw [ha]
  refine wpAny_bind (wpAny_holding (thn (ho pins s σ H _ I h) fun ov s1 ⟨x, H1, I1, r1, q1⟩ => ?_))
  refine wpAny_bind (wpAny_holding (thn (hi pins s1 σ H1 _ I1 q1) fun iv s2 ⟨y, H2, I2, r2, q2⟩ => ?_))
  refine wpAny_bind (wpAny_standAt (wpAny_bind (wpAny_holding (thn (hs pins s2 σ H2 x y v ov iv u _ I2 r1 r2 r q2) fun _ s3 ⟨H3, I3, q3⟩ => ?_))))
  exact wpAny_release ⟨σ, H3, I3, q3⟩
/-- target = value -/
def tAsg (te : TE) (g : TG) : TS := fun D σ H => te σ H fun x H1 => g x σ H1 D.nx
theorem ps_asg {tg e : Expr} {te : TE} {g : TG} (he : PE X e te) (hg : PG X tg g) (hs : swapsWithSole [tg] e pos.line X.env = pure false := by rfl) (hw : swappedStores [tg] e X.env = pure none := by rfl)
    (h1 : (assignEach [tg] X.env).map (·.2) = [assign tg X.env] := by rfl) : PS X (.Assign [tg] e pos) (tAsg te g) := by
  intro pins s σ H D I h
  refine wpAny_Assign_stores (thn (he pins s σ H _ I h) fun v s1 ⟨x, H1, I1, r1, q1⟩ => ?_) hs hw
  rw [h1]
  exact thn (hg pins s1 σ H1 x v _ I1 r1 q1) fun _ s2 q => q
/-- name = value -/
theorem ps_set {i : Nat} {x : Str} {e : Expr} {te : TE} {pos' : Pos} (hN : X.N.Nodup) (hi : X.N[i]? = some x) (hx : Loc X.env.scope x) (he : PE X e te) (hs : swapsWith e (some (.Name x pos')) pos.line X.env = pure false := by rfl) (hf : X.fn x = true ∨ X.env.scope.names.lookup x = some .local := by first | exact .inl rfl | exact .inr rfl | assumption) :
    PS X (.Assign [.Name x pos'] e pos) (tAsg te (gName i)) := by
  intro pins s σ H D I h
  refine wpAny_Assign_Name (thn (he pins s σ H _ I h) fun v s1 ⟨y, H1, I1, r1, q1⟩ => ?_) hs
  exact store_ok I1 hN hi hx r1 (fun s2 I2 => ⟨_, H1, I2, q1⟩) hf
/-- a, b = x, y with plain local names: stored from the right; the pair itself is not tracked (the opening rows as in PyProof/Rows/TupAssign.lean:23) -/
def tPar (i j : Nat) (ta : TA) : TS := fun D σ H => ta σ H fun vs H1 => ∃ v w, vs = [v, w] ∧ D.nx ((σ.set i (some v)).set j (some w)) H1
theorem ps_par {i j : Nat} {x y : Str} {a b : Expr} {ta : TA} {px py pt : Pos} {kt k2 pt2} (hc : X.calm = true) (hN : X.N.Nodup) (hi : X.N[i]? = some x) (hj : X.N[j]? = some y) (hij : i ≠ j)
    (hx : X.env.scope.names.lookup x = some .local) (hy : X.env.scope.names.lookup y = some .local) (ha : PA X [a, b] ta)
    (hw : swappedStores [.Tuple [.Name x px, .Name y py] kt pt] (.Tuple [a, b] k2 pt2) X.env = pure (some [x, y]))
    (hs : swapsWithSole [.Tuple [.Name x px, .Name y py] kt pt] (.Tuple [a, b] k2 pt2) pos.line X.env = pure false := by rfl) :
    PS X (.Assign [.Tuple [.Name x px, .Name y py] kt pt] (.Tuple [a, b] k2 pt2) pos) (tPar i j ta) := by
  intro pins s σ H D I h
  rw [exec_Assign_arm]
  refine wpAny_bind (wpAny_standAt ?_)
  rw [hs]
  refine wpAny_bind (wpAny_pure ?_)
  rw [if_neg (by decide)]
  refine wpAny_bind (Tuple_ (thn (ha _ pins s σ H _ I h) fun us s1 ⟨vs, H1, I1, r1, q1⟩ => ?_))
  obtain ⟨v, w, e1, q1⟩ := q1
  subst e1
  obtain ⟨u1, u2, rfl, rv, rw'⟩ : ∃ u1 u2, us = [u1, u2] ∧ RelV v u1 ∧ RelV w u2 := by
    cases r1 with
    | cons p q =>
      cases q with
      | cons p' q' =>
        cases q'
        exact ⟨_, _, rfl, p, p'⟩
  refine wpAny_newObj_type ?_ (by show 2 ≤ sizeLine; decide)
  have I2 : Inv X pins σ H1 { s1 with heap := s1.heap.push { cls := .type "tuple", data := .seq [u1, u2].toArray } } := I1.kept (t' := s1.toks) fun b o e => Heap.get?_push_of_some _ e
  rw [hw]
  refine wpAny_bind (wpAny_pure ?_)
  show wpAny (model X.prog X.w) X.A (do rule "assign.swapped-stores"; let items ← unpackItems (.ref s1.heap.objs.size) 2 none; assignInOrder [fun v => bindName X.env y v, fun v => bindName X.env x v] items.reverse; pure Flow.next) _ _ _
  refine wpAny_bind (wpAny_rule (wpAny_bind (unpackItems_tuple (items := #[u1, u2]) (I.ok.hd hc) (IsTup.new s1.heap _) fun h' hx' => ?_)))
  have I3 := I2.kept (h' := h') (t' := s1.toks) fun b o e => hx' b o (Nat.ne_of_lt (Heap.lt_size e)) e
  show wpAny _ _ (assignInOrder [fun v => bindName X.env y v, fun v => bindName X.env x v] [u2, u1] >>= fun _ => pure Flow.next) _ _ _
  refine wpAny_bind (assignInOrder_cons (wpAny_bindName (store_ok I3 hN hj (.inl hy) rw' (fun s2 I4 => ?_) (.inr hy))))
  refine assignInOrder_cons (wpAny_bindName (store_ok I4 hN hi (.inl hx) rv (fun s3 I5 => assignInOrder_nil (wpAny_pure ?_)) (.inr hx)))
  rw [List.set_comm _ _ (Ne.symm hij)] at I5
  exact ⟨_, H1, I5, q1⟩
/-- name op= e -/
def tAug (i : Nat) (te : TE) (ti : TIp) : TS := fun D σ H => ∃ x, σ[i]? = some (some x) ∧ te σ H fun y H1 => ti x y H1 fun z H2 => D.nx (σ.set i (some z)) H2
theorem ps_aug {i : Nat} {x : Str} {e : Expr} {te : TE} {op : Operator} {ti : TIp} {pos' : Pos} (hN : X.N.Nodup) (hi : X.N[i]? = some x) (hx : Loc X.env.scope x) (he : PE X e te) (ho : PIp X op ti) (hf : X.fn x = true ∨ X.env.scope.names.lookup x = some .local := by first | exact .inl rfl | exact .inr rfl | assumption) :
    PS X (.AugAssign (.Name x pos') op e pos) (tAug i te ti) := by
  intro pins s σ H D I h
  obtain ⟨v, e1, h⟩ := h
  obtain ⟨m, hn, hl⟩ := I.loc
  have vis : Vis X.env.scope x := by rcases hx with k | k; exact .inl k; exact .inr (.inl k)
  obtain ⟨u, r, l⟩ := hl i x v hi e1 vis
  refine wpAny_AugAssign_Name ?_
  have go : wpAny (model X.prog X.w) X.A (eval e X.env) (fun w s₂ => wpAny (model X.prog X.w) X.A (inplaceOp op u w) (fun r s₃ => wpAny (model X.prog X.w) X.A (storeName X.env x r) (fun _ => SP X pins D .next) X.xe s₃) X.xe s₂) X.xe s := by
    refine thn (he pins s σ H _ I h) fun w s1 ⟨y, H1, I1, r1, q1⟩ => ?_
    refine thn (ho pins s1 σ H1 v y u w _ I1 r r1 q1) fun z s2 ⟨zv, H2, I2, r2, q2⟩ => ?_
    exact store_ok I2 hN hi hx r2 (fun s3 I3 => ⟨_, H2, I3, q2⟩) hf
  rcases l with ⟨hk, hm⟩ | ⟨hk, c, hc, hcell⟩
  · exact wpAny_loadName_local I.ok.kind hk hn hm go
  · rcases hk with hk | hk
    · exact wpAny_loadName_cell I.ok.kind hk hc hcell go
    · rcases hx with k | k
      · have : X.env.scope.names.lookup x = some .free := hk
        rw [k] at this; cases this
      · have : X.env.scope.names.lookup x = some .free := hk
        rw [k] at this; cases this
/-- o[i] op= e -/
def tAugS (to ti te : TE) (tget : V → V → Hp → VK → Prop) (tip : TIp) (tset : TSet) : TS := fun D σ H => to σ H fun o H1 => ti σ H1 fun i H2 => tget o i H2 fun x H3 => te σ H3 fun y H4 => tip x y H4 fun z H5 => tset o i z H5 fun H6 => D.nx σ H6
/-- o[i], by values -/
def PGet (X : Cx) (t : V → V → Hp → VK → Prop) : Prop :=
  ∀ (pins : List (Addr × Obj)) (s : Shared) (σ : St) (H : Hp) (o i : V) (ov iv : Value) (Q : VK), Inv X pins σ H s → RelV o ov → RelV i iv → t o i H Q →
    wpAny (model X.prog X.w) X.A (getItem ov iv) (EP X pins σ Q) X.xe s
theorem ps_augS {o i e : Expr} {to ti te : TE} {tget : V → V → Hp → VK → Prop} {tip : TIp} {tset : TSet} {op : Operator} {tpos : Pos} (ho : PE X o to) (hi : PE X i ti) (hg : PGet X tget) (he : PE X e te) (hp : PIp X op tip) (hs : PSet X tset)
    (ha : ∀ ov iv new, augStore i ov iv new = (do holding [new, ov, iv] (setItem ov iv new); release [new, ov, iv] []; pure .next) := by intros; rfl) : PS X (.AugAssign (.Subscript o i tpos) op e pos) (tAugS to ti te tget tip tset) := by
  intro pins s σ H D I h
  refine wpAny_AugAssign_SubscriptAny (thn (ho pins s σ H _ I h) fun ov s1 ⟨x1, H1, I1, r1, q1⟩ => ?_) ha
  refine thn (hi pins s1 σ H1 _ I1 q1) fun iv s2 ⟨x2, H2, I2, r2, q2⟩ => ?_
  refine thn (hg pins s2 σ H2 x1 x2 ov iv _ I2 r1 r2 q2) fun old s3 ⟨x3, H3, I3, r3, q3⟩ => ?_
  refine thn (he pins s3 σ H3 _ I3 q3) fun v s4 ⟨x4, H4, I4, r4, q4⟩ => ?_
  refine thn (hp pins s4 σ H4 x3 x4 old v _ I4 r3 r4 q4) fun new s5 ⟨x5, H5, I5, r5, q5⟩ => ?_
  exact thn (hs pins s5 σ H5 x1 x2 x5 ov iv new _ I5 r1 r2 r5 q5) fun _ s6 ⟨H6, I6, q6⟩ => ⟨σ, H6, I6, q6⟩
/-- ints -/
def ipI (f : Int → Int → Int) : TIp := fun x y H Q => ∃ i j, x = .int i ∧ y = .int j ∧ Q (.int (f i j)) H
theorem ip_add : PIp X .Add (ipI fun i j => i + j) := by
  intro pins s σ H x y v u Q I r1 r2 h
  obtain ⟨i, j, e1, e2, q⟩ := h
  subst e1; subst e2
  obtain ⟨t, rfl⟩ := r1
  obtain ⟨t', rfl⟩ := r2
  exact iadd_int ⟨.int _, H, I.tok _, ⟨_, rfl⟩, q⟩
theorem ip_sub : PIp X .Sub (ipI fun i j => i - j) := by
  intro pins s σ H x y v u Q I r1 r2 h
  obtain ⟨i, j, e1, e2, q⟩ := h
  subst e1; subst e2
  obtain ⟨t, rfl⟩ := r1
  obtain ⟨t', rfl⟩ := r2
  exact isub_int ⟨.int _, H, I.tok _, ⟨_, rfl⟩, q⟩
end

/-! ### while -/
section
variable {X : Cx} {pos : Pos}
/-- the invariant W with its measure -/
def tWhile (c : TT) (tb : TS) : TS := fun D σ H => ∃ W : Nat → St → Hp → Prop, (∃ m, W m σ H) ∧ ∀ m σ H, W m σ H →
  c σ H fun b H1 => if b = true then ∃ N : St → Hp → Prop, (∀ σ' H', N σ' H' → ∃ m', m' < m ∧ W m' σ' H') ∧ tb { D with nx := N, ct := N, bk := D.nx } σ H1 else D.nx σ H1
theorem ps_while {c : Expr} {body : List Stmt} {tc : TT} {tb : TS} (hp : PassesOwn (model X.prog X.w) X.A X.env X.xe) (hc : PT X c tc) (hb : PSs X body tb) : PS X (.While c body [] pos) (tWhile tc tb) := by
  intro pins s σ H D I h
  obtain ⟨W, ⟨m0, w0⟩, turn⟩ := h
  refine wpAny_While (codeAny_whileLoop (fun n s' => ∃ σ' H', Inv X pins σ' H' s' ∧ W n σ' H') ?_ m0 ⟨σ, H, I, w0⟩)
  rintro n s1 ⟨σ1, H1, I1, w1⟩
  refine wpAny_passesOwn hp (thn (hc pins s1 σ1 H1 _ I1 (turn n σ1 H1 w1)) fun b s2 ⟨H2, I2, q2⟩ => ?_)
  cases b with
  | true =>
    obtain ⟨N, hN, q2⟩ := q2
    rw [if_pos rfl]
    refine wpAny_passesOwn hp (thn (hb pins s2 σ1 H2 _ I2 q2) fun f s3 q3 => ?_)
    cases f with
    | next =>
      obtain ⟨σ3, H3, I3, n3⟩ := q3
      obtain ⟨m', hm, w3⟩ := hN σ3 H3 n3
      exact ⟨m', hm, σ3, H3, I3, w3⟩
    | cont =>
      obtain ⟨σ3, H3, I3, n3⟩ := q3
      obtain ⟨m', hm, w3⟩ := hN σ3 H3 n3
      exact ⟨m', hm, σ3, H3, I3, w3⟩
    | brk => exact q3
    | ret v => exact q3
  | false =>
    rw [if_neg Bool.false_ne_true]
    exact wpAny_execs_nil ⟨σ1, H2, I2, q2⟩
end

/-! ### what a loop or a comprehension walks -/
/-- at turn i: it yields x (the heap may grow), or it stops -/
structure It where
  go : Nat → Hp → Prop
  yld : Nat → Hp → V → Hp → Prop
  stop : Nat → Hp → Prop
/-- the iterator's own objects may turn: they are not the frame's, not pinned, younger than the entry (or a comprehension's own) -/
def FpOk (X : Cx) (pins : List (Addr × Obj)) (H : Hp) (b : Addr) : Prop :=
  H b = none ∧ b ≠ X.env.locals ∧ b ∉ X.fs ∧ (b ∈ X.ex ∨ X.s₀.heap.objs.size ≤ b) ∧ (∀ x c, X.env.cells.lookup x = some c → c ≠ b) ∧ ∀ p ∈ X.pn ++ pins, p.1 ≠ b
theorem Inv.fpOk {X : Cx} {pins : List (Addr × Obj)} {σ : St} {H H' : Hp} {s : Shared} {b : Addr} (I : Inv X pins σ H s) (hb : s.heap.objs.size ≤ b) (hn : H' b = none) : FpOk X pins H' b := by
  refine ⟨hn, Nat.ne_of_gt (Nat.lt_of_lt_of_le I.lt hb), I.nofs hb, .inr (Nat.le_trans I.sz hb), fun x c e z => ?_, fun p hp z => ?_⟩
  · obtain ⟨v, q⟩ := I.cell x c e
    exact absurd (Nat.lt_of_lt_of_le q.lt (by rw [z]; exact hb)) (Nat.lt_irrefl _)
  · exact absurd (Nat.lt_of_lt_of_le (Heap.lt_size (I.pin p hp).1) (by rw [z]; exact hb)) (Nat.lt_irrefl _)
structure Turn (P : Program) (w : World) (K : PySem.W.Frag) (tg : Expr) (J : It) (fp : List Addr) (it : Addr) (tn : Nat → Heap → Prop) : Prop where
  mem : it ∈ fp
  obj : ∀ i h, tn i h → ∀ b ∈ fp, ∃ o, h.get? b = some o ∧ ∀ v, o.data ≠ .cell v
  keep : ∀ i h h', tn i h → (∀ b ∈ fp, ∀ o, h.get? b = some o → h'.get? b = some o) → tn i h'
  item : ∀ (X : Cx), X.prog = P → X.w = w → X.K = K → X.calm = true → ∀ (i : Nat) (pins : List (Addr × Obj)) (s : Shared) (σ : St) (H : Hp) (E : Value → Shared → Prop), Inv X pins σ H s → (∀ b ∈ fp, FpOk X pins H b) → tn i s.heap → J.go i H →
    wpAny (model P w) X.A (pyNext (.ref it)) (fun r s1 => ∃ u, r = some u ∧
      wpAny (model P w) X.A (letOwnedTupleGo tg (.ref it) u) (fun _ s2 => ∃ x H', Inv X pins σ H' s2 ∧ RelV x u ∧ J.yld i H x H' ∧ tn (i + 1) s2.heap ∧ ∀ b ∈ fp, H' b = none) E s1) E s
  done : ∀ (X : Cx), X.prog = P → X.w = w → X.K = K → X.calm = true → ∀ (i : Nat) (pins : List (Addr × Obj)) (s : Shared) (σ : St) (H : Hp) (E : Value → Shared → Prop), Inv X pins σ H s → (∀ b ∈ fp, FpOk X pins H b) → tn i s.heap → J.stop i H →
    wpAny (model P w) X.A (pyNext (.ref it)) (fun r s1 => r = none ∧ Inv X pins σ H s1) E s
  self : ∀ (A : Around) (i : Nat) (s : Shared) (Q : Value → Shared → Prop) (E : Value → Shared → Prop), tn i s.heap → Q (.ref it) s → wpAny (model P w) A (pyIter (.ref it)) Q E s
abbrev TI := St → Hp → (It → Hp → Prop) → Prop
/-- an iterator has come -/
def PIE (X : Cx) (pins : List (Addr × Obj)) (σ : St) (tg : Expr) (R : It → Hp → Prop) (itv : Value) (s2 : Shared) : Prop :=
  ∃ (it : Addr) (fp : List Addr) (tn : Nat → Heap → Prop) (J : It) (H' : Hp), itv = .ref it ∧ Inv X pins σ H' s2 ∧ Turn X.prog X.w X.K tg J fp it tn ∧ tn 0 s2.heap ∧ (∀ b ∈ fp, FpOk X pins H' b) ∧ R J H'
def PI (X : Cx) (tg iter : Expr) (wi : TI) : Prop :=
  ∀ (pins : List (Addr × Obj)) (s : Shared) (σ : St) (H : Hp) (R : It → Hp → Prop), Inv X pins σ H s → wi σ H R →
    wpAny (model X.prog X.w) X.A (eval iter X.env) (fun v s1 => wpAny (model X.prog X.w) X.A (pyIter v) (PIE X pins σ tg R) X.xe s1) X.xe s

/-- the step ahead of the store is nothing for an iterator that keeps no tuple -/
theorem go_of {M : Model} {A : Around} {E : Value → Shared → Prop} {s : Shared} {tg : Expr} {it : Addr} {u : Value} {o : Obj} {n : String} {vs : Array Value} {Q : Unit → Shared → Prop} (ho : s.heap.get? it = some o) (hc : o.cls = .type n) (hd : o.data = .fields vs)
    (hn : ["enumerate", "zip", "dict_itemiterator", "dict_reverseitemiterator", "odict_iterator", "itertools.zip_longest", "itertools.pairwise"].contains n = false) (hQ : Q () s) : wpAny M A (letOwnedTupleGo tg (.ref it) u) Q E s := by
  unfold letOwnedTupleGo
  cases tg <;> first
    | exact wpAny_pure hQ
    | (cases u <;> first
        | exact wpAny_pure hQ
        | (refine wpAny_bind (wpAny_load ho ?_)
           rw [hc, hd]
           show wpAny M A (if (["enumerate", "zip", "dict_itemiterator", "dict_reverseitemiterator", "odict_iterator", "itertools.zip_longest", "itertools.pairwise"].contains n && vs[0]? == some (rawInt _)) = true then _ else _) Q E s
           rw [if_neg (by intro h; rw [hn, Bool.false_and] at h; cases h)]
           exact wpAny_pure hQ))

/-- the list at a, as it stands at each turn (a loop may append to it) -/
def Itl (K : PySem.W.Frag) (a : Addr) : It :=
  ⟨fun i H => ∃ xs x, SqL K H a xs ∧ xs[i]? = some x, fun i H x H' => H' = H ∧ ∀ xs, SqL K H a xs → xs[i]? = some x, fun i H => ∃ xs, SqL K H a xs ∧ xs.length ≤ i⟩
def Itt (K : PySem.W.Frag) (a : Addr) : It :=
  ⟨fun i H => ∃ xs x, SqT K H a xs ∧ xs[i]? = some x, fun i H x H' => H' = H ∧ ∀ xs, SqT K H a xs → xs[i]? = some x, fun i H => ∃ xs, SqT K H a xs ∧ xs.length ≤ i⟩
/-- lo, lo + 1, .. (n of them) -/
def Itr (lo : Int) (n : Nat) : It := ⟨fun i _ => i < n, fun i H x H' => H' = H ∧ x = .int (lo + i), fun i _ => n ≤ i⟩
theorem turn_list {P : Program} {w : World} {K : PySem.W.Frag} {tg : Expr} (a it : Addr) : Turn P w K tg (Itl K a) [it] it (fun i h => h.IsListIter it a i) where
  mem := by simp
  obj := fun i h st b hb => by
    have e : b = it := by simpa using hb
    subst e
    obtain ⟨o, e, c, d⟩ := st
    exact ⟨o, e, fun v z => by rw [d] at z; cases z⟩
  keep := fun i h h' st k => st.at fun o e => k it (by simp) o e
  item := by
    intro X hP hw hK hc i pins s σ H E I hf st hg
    subst hP hw hK
    obtain ⟨xs, x, hq, hx⟩ := hg
    obtain ⟨its, rv, p, hz⟩ := I.list hq
    obtain ⟨u, hu, ru⟩ := rv.get hx
    obtain ⟨f0, f1, f2, f3, f4, f5⟩ := hf it (by simp)
    refine wpAny_pyNext_list_item st p.isList (x := u) (by simpa using hu) fun h' st' sb => ?_
    have I1 : Inv X pins σ H { s with heap := h' } := I.turned (t' := s.toks) (fun b o hb e => (sb.2 b hb).trans e) f0 f1 f3 f4 f5
    obtain ⟨o, e, c, d⟩ := id st'
    exact ⟨u, rfl, go_of (s := { s with heap := h' }) e c d (by decide) ⟨x, H, I1, ru, ⟨rfl, fun ys hy => by rw [I.list_inj hy hq]; exact hx⟩, st', fun b hb => (hf b hb).1⟩⟩
  done := by
    intro X hP hw hK hc i pins s σ H E I hf st hg
    subst hP hw hK
    obtain ⟨xs, hq, hx⟩ := hg
    obtain ⟨its, rv, p, hz⟩ := I.list hq
    obtain ⟨f0, f1, f2, f3, f4, f5⟩ := hf it (by simp)
    have hl := rv.length
    exact wpAny_pyNext_list_end (I.ok.hd hc) st p.isList (by simp; omega) fun h' eb => ⟨rfl, I.turned (t' := s.toks) (fun b o hb e => eb b o hb e) f0 f1 f3 f4 f5⟩
  self := fun _ _ _ _ _ st h => wpAny_pyIter_listiter st h
theorem turn_tuple {P : Program} {w : World} {K : PySem.W.Frag} {tg : Expr} (a it : Addr) : Turn P w K tg (Itt K a) [it] it (fun i h => h.IsTupleIter it a i) where
  mem := by simp
  obj := fun i h st b hb => by
    have e : b = it := by simpa using hb
    subst e
    obtain ⟨o, e, c, d⟩ := st
    exact ⟨o, e, fun v z => by rw [d] at z; cases z⟩
  keep := fun i h h' st k => st.at fun o e => k it (by simp) o e
  item := by
    intro X hP hw hK hc i pins s σ H E I hf st hg
    subst hP hw hK
    obtain ⟨xs, x, hq, hx⟩ := hg
    obtain ⟨its, rv, p, hz⟩ := I.tuple hq
    obtain ⟨u, hu, ru⟩ := rv.get hx
    obtain ⟨f0, f1, f2, f3, f4, f5⟩ := hf it (by simp)
    refine wpAny_pyNext_tuple_item st (show s.heap.IsTuple a its.toArray from p) (x := u) (by simpa using hu) fun h' st' sb => ?_
    have I1 : Inv X pins σ H { s with heap := h' } := I.turned (t' := s.toks) (fun b o hb e => (sb.2 b hb).trans e) f0 f1 f3 f4 f5
    obtain ⟨o, e, c, d⟩ := id st'
    exact ⟨u, rfl, go_of (s := { s with heap := h' }) e c d (by decide) ⟨x, H, I1, ru, ⟨rfl, fun ys hy => by rw [I.tuple_inj hy hq]; exact hx⟩, st', fun b hb => (hf b hb).1⟩⟩
  done := by
    intro X hP hw hK hc i pins s σ H E I hf st hg
    subst hP hw hK
    obtain ⟨xs, hq, hx⟩ := hg
    obtain ⟨its, rv, p, hz⟩ := I.tuple hq
    obtain ⟨f0, f1, f2, f3, f4, f5⟩ := hf it (by simp)
    have hl := rv.length
    exact wpAny_pyNext_tuple_end (I.ok.hd hc) st (show s.heap.IsTuple a its.toArray from p) (by simp; omega) fun h' eb => ⟨rfl, I.turned (t' := s.toks) (fun b o hb e => eb b o hb e) f0 f1 f3 f4 f5⟩
  self := fun _ _ _ _ _ st h => wpAny_pyIter_tupleiter st h
theorem turn_range {P : Program} {w : World} {K : PySem.W.Frag} {tg : Expr} (it : Addr) (lo : Int) (n : Nat) : Turn P w K tg (Itr lo n) [it] it (fun i h => IsRangeIter h it (lo + (i : Nat) * 1) ((n : Int) - (i : Nat)) 1) where
  mem := by simp
  obj := fun i h st b hb => by
    have e : b = it := by simpa using hb
    subst e
    exact ⟨_, st, fun v z => by
      have z' : Data.fields _ = Data.cell v := z
      cases z'⟩
  keep := fun i h h' st k => k it (by simp) _ st
  item := by
    intro X hP hw hK hc i pins s σ H E I hf st hg
    subst hP hw hK
    obtain ⟨f0, f1, f2, f3, f4, f5⟩ := hf it (by simp)
    have W := Walks.range (prog := X.prog) (w := X.w) (I.ok.hd hc) it lo 1 n
    refine W.item i s _ _ hg st fun v h' tk hv st' kk => ?_
    obtain ⟨t, rfl⟩ := hv
    have I1 : Inv X pins σ H { s with heap := h', toks := tk } := I.turned (fun b o hb e => kk b o (by simpa using hb) e) f0 f1 f3 f4 f5
    refine ⟨_, rfl, go_of (s := { s with heap := h', toks := tk }) (n := "range_iterator") st' rfl rfl (by decide) ⟨.int (lo + i), H, I1, ⟨t, ?_⟩, ⟨rfl, rfl⟩, st', fun b hb => (hf b hb).1⟩⟩
    rw [Int.mul_one]
  done := by
    intro X hP hw hK hc i pins s σ H E I hf st hg
    subst hP hw hK
    obtain ⟨f0, f1, f2, f3, f4, f5⟩ := hf it (by simp)
    exact wpAny_pyNext_range_end (I.ok.hd hc) st (by have : n ≤ i := hg; omega) fun h' eb => ⟨rfl, I.turned (t' := s.toks) (fun b o hb e => eb b o hb e) f0 f1 f3 f4 f5⟩
  self := fun _ _ _ _ _ st h => wpAny_pyIter_rangeiter st h
end L2

namespace L2
open PySem PySem.Spec PyProof.Rows
section
variable {X : Cx} {tg : Expr}
def iList (K : PySem.W.Frag) (tl : TE) : TI := fun σ H R => tl σ H fun x H1 => ∃ a, x = .ref a ∧ (∃ xs, SqL K H1 a xs) ∧ R (Itl K a) H1
def iTup (K : PySem.W.Frag) (tl : TE) : TI := fun σ H R => tl σ H fun x H1 => ∃ a, x = .ref a ∧ (∃ xs, SqT K H1 a xs) ∧ R (Itt K a) H1
theorem pi_list {l : Expr} {tl : TE} (hl : PE X l tl) : PI X tg l (iList X.K tl) := by
  intro pins s σ H R I h
  refine thn (hl pins s σ H _ I h) fun v s1 ⟨x, H1, I1, r1, q1⟩ => ?_
  obtain ⟨a, e, ⟨xs, hq⟩, q⟩ := q1
  subst e
  cases r1
  obtain ⟨its, rv, p, hz⟩ := I1.list hq
  refine wpAny_pyIter_list p.isList ?_
  refine ⟨s1.heap.objs.size, [s1.heap.objs.size], _, _, H1, rfl, I1.kept (t' := s1.toks) fun b o e => Heap.get?_push_of_some _ e, turn_list a _, ⟨_, Heap.get?_push_size _ rfl, rfl, rfl⟩, fun b hb => ?_, q⟩
  have e : b = s1.heap.objs.size := by simpa using hb
  subst e
  exact I1.fpOk (Nat.le_refl _) (I1.hok.fresh (Nat.le_refl _))
theorem pi_tup {l : Expr} {tl : TE} (hl : PE X l tl) : PI X tg l (iTup X.K tl) := by
  intro pins s σ H R I h
  refine thn (hl pins s σ H _ I h) fun v s1 ⟨x, H1, I1, r1, q1⟩ => ?_
  obtain ⟨a, e, ⟨xs, hq⟩, q⟩ := q1
  subst e
  cases r1
  obtain ⟨its, rv, p, hz⟩ := I1.tuple hq
  refine wpAny_pyIter_tuple (show s1.heap.IsTuple a its.toArray from p) ?_
  refine ⟨s1.heap.objs.size, [s1.heap.objs.size], _, _, H1, rfl, I1.kept (t' := s1.toks) fun b o e => Heap.get?_push_of_some _ e, turn_tuple a _, ⟨_, Heap.get?_push_size _ rfl, rfl, rfl⟩, fun b hb => ?_, q⟩
  have e : b = s1.heap.objs.size := by simpa using hb
  subst e
  exact I1.fpOk (Nat.le_refl _) (I1.hok.fresh (Nat.le_refl _))
/-- a range object just made, walked -/
theorem range_it {pins : List (Addr × Obj)} {σ : St} {H : Hp} {s : Shared} {R : It → Hp → Prop} {E : Value → Shared → Prop} {lo hi : Int} {t u v : Tok} {tk : Nat} (I : Inv X pins σ H s) (h1 : -(2 ^ 62) ≤ lo) (h2 : lo < 2 ^ 62) (h3 : -(2 ^ 62) ≤ hi) (h4 : hi < 2 ^ 62)
    (q : R (Itr lo (hi - lo).toNat) H) : wpAny (model X.prog X.w) X.A (pyIter (.ref s.heap.objs.size)) (PIE X pins σ tg R) E { s with heap := s.heap.push { cls := .type "range", data := .fields #[.int lo t, .int hi u, .int 1 v] }, toks := tk } := by
  refine wpAny_pyIter_range (IsRange.new ..) (small_one h1 h2 h3 h4) ?_
  have I1 : Inv X pins σ H { s with heap := s.heap.push { cls := .type "range", data := .fields #[.int lo t, .int hi u, .int 1 v] }, toks := tk } := I.kept fun b o e => Heap.get?_push_of_some _ e
  refine ⟨(s.heap.push { cls := .type "range", data := .fields #[.int lo t, .int hi u, .int 1 v] }).objs.size, [(s.heap.push { cls := .type "range", data := .fields #[.int lo t, .int hi u, .int 1 v] }).objs.size], _, _, H, rfl,
    I1.kept (t' := tk) fun b o e => Heap.get?_push_of_some _ e, turn_range _ lo (hi - lo).toNat, ?_, fun b hb => ?_, q⟩
  · have e1 : lo + ((0 : Nat) : Int) * 1 = lo := by simp
    have e2 : (((hi - lo).toNat : Nat) : Int) - ((0 : Nat) : Int) = Builtin.Range.rangeSize lo hi 1 := by rw [rangeSize_one]; split <;> omega
    show IsRangeIter _ _ (lo + ((0 : Nat) : Int) * 1) ((((hi - lo).toNat : Nat) : Int) - ((0 : Nat) : Int)) 1
    rw [e1, e2]
    exact Heap.get?_push_size _ rfl
  · have e : b = (s.heap.push { cls := .type "range", data := .fields #[.int lo t, .int hi u, .int 1 v] }).objs.size := by simpa using hb
    subst e
    exact I1.fpOk (Nat.le_refl _) (I1.hok.fresh (Nat.le_refl _))
def iRng1 (ta : TA) : TI := fun σ H R => ta σ H fun vs H1 => ∃ j : Int, vs = [.int j] ∧ -(2 ^ 62) ≤ j ∧ j < 2 ^ 62 ∧ R (Itr 0 j.toNat) H1
def iRng2 (ta : TA) : TI := fun σ H R => ta σ H fun vs H1 => ∃ i j : Int, vs = [.int i, .int j] ∧ (-(2 ^ 62) ≤ i ∧ i < 2 ^ 62 ∧ -(2 ^ 62) ≤ j ∧ j < 2 ^ 62) ∧ R (Itr i (j - i).toNat) H1
theorem pi_range1 {a : Expr} {ta : TA} {p pos : Pos} (hg : Gl X "range") (hm : X.mg "range" = none) (ha : PA X [a] ta) (hs : starEach [a] X.env = [(false, eval a X.env)] := by rfl) : PI X tg (.Call (.Name "range" p) [a] [] pos) (iRng1 ta) := by
  intro pins s σ H R I h
  refine Call_ (ld_blt I hg hm boot_range (PyProof.Rows.callWith_type1 (thn (ha pos pins s σ H _ I h) fun us s1 ⟨vs, H1, I1, r1, q1⟩ => ?_) hs rfl))
  obtain ⟨j, e, q1, q2, q⟩ := q1
  subst e
  cases r1 with
  | cons r rr =>
    cases rr
    obtain ⟨t, rfl⟩ := r
    exact call_range_1 (range_it I1 (by omega) (by omega) q1 q2 (by simpa using q))
theorem pi_range2 {a b : Expr} {ta : TA} {p pos : Pos} (hg : Gl X "range") (hm : X.mg "range" = none) (ha : PA X [a, b] ta) (hs : starEach [a, b] X.env = [(false, eval a X.env), (false, eval b X.env)] := by rfl) (hs2 : starEach [b] X.env = [(false, eval b X.env)] := by rfl) :
    PI X tg (.Call (.Name "range" p) [a, b] [] pos) (iRng2 ta) := by
  intro pins s σ H R I h
  refine Call_ (ld_blt I hg hm boot_range (PyProof.Rows.callWith_type1 (thn (ha pos pins s σ H _ I h) fun us s1 ⟨vs, H1, I1, r1, q1⟩ => ?_) (by rw [hs, hs2]) (by rw [hs2]; rfl)))
  obtain ⟨i, j, e, ⟨q1, q2, q3, q4⟩, q⟩ := q1
  subst e
  cases r1 with
  | cons r rr =>
    cases rr with
    | cons r' rr =>
      cases rr
      obtain ⟨t, rfl⟩ := r
      obtain ⟨t', rfl⟩ := r'
      exact call_range_2 (range_it I1 q1 q2 q3 q4 q)

/-! ### for -/
/-- W: the invariant by the turn and a measure; N: what the body is to reach -/
def tFor (wi : TI) (g : TG) (tb : TS) : TS := fun D σ H => wi σ H fun J H1 => ∃ W : Nat → Nat → St → Hp → Prop, (∃ m, W 0 m σ H1) ∧ ∀ i m σ H, W i m σ H →
  (J.stop i H ∧ D.nx σ H) ∨ (J.go i H ∧ ∃ N : St → Hp → Prop, (∀ σ' H', N σ' H' → ∃ m', m' < m ∧ W (i + 1) m' σ' H') ∧ ∀ x H', J.yld i H x H' → g x σ H' fun σ2 H2 => tb { D with nx := N, ct := N, bk := D.nx } σ2 H2)
/-- the records at fp as they stand -/
def pinsAt (fp : List Addr) (h : Heap) : List (Addr × Obj) := fp.filterMap fun b => (h.get? b).map fun o => (b, o)
theorem mem_pinsAt {fp : List Addr} {h : Heap} {b : Addr} {o : Obj} (hb : b ∈ fp) (e : h.get? b = some o) : (b, o) ∈ pinsAt fp h := List.mem_filterMap.mpr ⟨b, hb, by rw [e]; rfl⟩
theorem of_pinsAt {fp : List Addr} {h : Heap} {p : Addr × Obj} (hp : p ∈ pinsAt fp h) : p.1 ∈ fp ∧ h.get? p.1 = some p.2 := by
  obtain ⟨b, hb, e⟩ := List.mem_filterMap.mp hp
  cases q : h.get? b with
  | none => rw [q] at e; cases e
  | some o =>
    rw [q] at e
    have e' : (b, o) = p := Option.some.inj e
    subst e'
    exact ⟨hb, q⟩
theorem Inv.pinned {pins : List (Addr × Obj)} {σ : St} {H : Hp} {s : Shared} {fp : List Addr} (I : Inv X pins σ H s) (hf : ∀ b ∈ fp, FpOk X pins H b) (ho : ∀ b ∈ fp, ∃ o, s.heap.get? b = some o ∧ ∀ v, o.data ≠ .cell v) : Inv X (pins ++ pinsAt fp s.heap) σ H s :=
  I.pins_of fun p hp => (List.mem_append.mp hp).elim (fun z => I.pin p (List.mem_append_right _ z)) fun z => by
    obtain ⟨hb, e⟩ := of_pinsAt z
    obtain ⟨f0, f1, f2, _⟩ := hf p.1 hb
    obtain ⟨o, e', d⟩ := ho p.1 hb
    rw [e] at e'; cases e'
    exact ⟨e, f0, f1, f2, d⟩
theorem Inv.unpinned {pins pl : List (Addr × Obj)} {σ : St} {H : Hp} {s : Shared} (I : Inv X (pins ++ pl) σ H s) : Inv X pins σ H s := I.pins_of fun p hp => I.pin p (List.mem_append_right _ (List.mem_append_left _ hp))
theorem ps_for {iter : Expr} {body : List Stmt} {wi : TI} {g : TG} {tb : TS} {pos : Pos} (hp : PassesOwn (model X.prog X.w) X.A X.env X.xe) (hc : X.calm = true) (hi : PI X tg iter wi) (hg : PG X tg g) (hb : PSs X body tb)
    (hs : ∀ x, foldedSetIterable iter X.env x = pure x := by intro _; rfl) : PS X (.For tg iter body [] pos) (tFor wi g tb) := by
  intro pins s σ H D I h
  refine wpAny_For (thn (hi pins s σ H _ I h) fun v s1 h1 => thn h1 fun itv s2 h2 => ?_) hs
  obtain ⟨it, fp, tn, J, H2, e, I2, T, st2, f2, W, ⟨m0, w0⟩, turn⟩ := h2
  subst e
  -- what stays true of the iterator's objects through the loop
  have stat : ∀ {H' : Hp}, (∀ b ∈ fp, H' b = none) → ∀ b ∈ fp, FpOk X pins H' b := fun hn b hb => ⟨hn b hb, (f2 b hb).2⟩
  refine codeAny_forLoop_any (fun n s' => ∃ i σ' H', Inv X pins σ' H' s' ∧ tn i s'.heap ∧ (∀ b ∈ fp, H' b = none) ∧ W i n σ' H') ?_ m0 ⟨0, σ, H2, I2, st2, fun b hb => (f2 b hb).1, w0⟩
  rintro n s3 ⟨i, σ3, H3, I3, st3, fr3, w3⟩
  rcases turn i n σ3 H3 w3 with ⟨stop, qn⟩ | ⟨go, N, hN, step⟩
  · refine wpAny_passesOwn hp (thn (T.done X rfl rfl rfl hc i pins s3 σ3 H3 X.xe I3 (stat fr3) st3 stop) fun r s4 ⟨hr, I4⟩ => ?_)
    subst hr
    exact wpAny_execs_nil ⟨σ3, H3, I4, qn⟩
  · refine wpAny_passesOwn hp (thn (T.item X rfl rfl rfl hc i pins s3 σ3 H3 X.xe I3 (stat fr3) st3 go) fun r s4 ⟨u, hr, h4⟩ => ?_)
    subst hr
    refine wpAny_passesOwn hp (thn h4 fun _ s5 ⟨x, H5, I5, r5, y5, st5, fr5⟩ => ?_)
    have I5' := I5.pinned (stat fr5) (T.obj _ _ st5)
    refine wpAny_passesOwn hp (thn (hg _ s5 σ3 H5 x u _ I5' r5 (step x H5 y5)) fun _ s6 ⟨σ6, H6, I6, q6⟩ => ?_)
    refine wpAny_passesOwn hp (thn (hb _ s6 σ6 H6 _ I6 q6) fun f s7 q7 => ?_)
    have again : ∀ {σ7 : St} {H7 : Hp}, Inv X (pins ++ pinsAt fp s5.heap) σ7 H7 s7 → N σ7 H7 → ∃ m, m < n ∧ ∃ i σ' H', Inv X pins σ' H' s7 ∧ tn i s7.heap ∧ (∀ b ∈ fp, H' b = none) ∧ W i m σ' H' := fun {σ7 H7} I7 n7 => by
      obtain ⟨m', hm, w7⟩ := hN σ7 H7 n7
      refine ⟨m', hm, i + 1, σ7, H7, I7.unpinned, T.keep _ _ _ st5 fun b hb o e => (I7.pin (b, o) (List.mem_append_right _ (List.mem_append_right _ (mem_pinsAt hb e)))).1, fun b hb => ?_, w7⟩
      obtain ⟨o, e, d⟩ := T.obj _ _ st5 b hb
      exact (I7.pin (b, o) (List.mem_append_right _ (List.mem_append_right _ (mem_pinsAt hb e)))).2.1
    cases f with
    | next => obtain ⟨σ7, H7, I7, n7⟩ := q7; exact again I7 n7
    | cont => obtain ⟨σ7, H7, I7, n7⟩ := q7; exact again I7 n7
    | brk => obtain ⟨σ7, H7, I7, q7⟩ := q7; exact ⟨σ7, H7, I7.unpinned, q7⟩
    | ret v => obtain ⟨x7, σ7, H7, I7, r7, q7⟩ := q7; exact ⟨x7, σ7, H7, I7.unpinned, r7, q7⟩
end

/-! ### the forms one uses -/
/-- over a list that the body leaves as it is -/
theorem for_list {K : PySem.W.Frag} {a : Addr} {xs : List V} {g : TG} {tb : TS} {D : Ends} {σ : St} {H : Hp} (Pv : Nat → St → Hp → Prop) (h0 : Pv 0 σ H) (hl : ∀ i σ H, i ≤ xs.length → Pv i σ H → SqL K H a xs)
    (hs : ∀ i x σ H, xs[i]? = some x → Pv i σ H → g x σ H fun σ2 H2 => tb { D with nx := Pv (i + 1), ct := Pv (i + 1), bk := D.nx } σ2 H2) (hd : ∀ σ H, Pv xs.length σ H → D.nx σ H) :
    ∃ W : Nat → Nat → St → Hp → Prop, (∃ m, W 0 m σ H) ∧ ∀ i m σ H, W i m σ H →
      ((Itl K a).stop i H ∧ D.nx σ H) ∨ ((Itl K a).go i H ∧ ∃ N : St → Hp → Prop, (∀ σ' H', N σ' H' → ∃ m', m' < m ∧ W (i + 1) m' σ' H') ∧ ∀ x H', (Itl K a).yld i H x H' → g x σ H' fun σ2 H2 => tb { D with nx := N, ct := N, bk := D.nx } σ2 H2) := by
  refine ⟨fun i m σ H => m = xs.length - i ∧ i ≤ xs.length ∧ Pv i σ H, ⟨xs.length, by simp, Nat.zero_le _, h0⟩, ?_⟩
  rintro i m σ H ⟨rfl, hi, p⟩
  have q := hl i σ H hi p
  by_cases hlt : i < xs.length
  · refine .inr ⟨⟨xs, xs[i], q, by simp [hlt]⟩, Pv (i + 1), fun σ' H' p' => ⟨xs.length - (i + 1), by omega, rfl, hlt, p'⟩, fun x H' y => ?_⟩
    obtain ⟨e, y⟩ := y
    subst e
    exact hs i x σ _ (y xs q) p
  · have e : i = xs.length := by omega
    subst e
    exact .inl ⟨⟨xs, q, Nat.le_refl _⟩, hd σ H p⟩
theorem for_range {lo : Int} {n : Nat} {g : TG} {tb : TS} {D : Ends} {σ : St} {H : Hp} (Pv : Nat → St → Hp → Prop) (h0 : Pv 0 σ H)
    (hs : ∀ i σ H, i < n → Pv i σ H → g (.int (lo + i)) σ H fun σ2 H2 => tb { D with nx := Pv (i + 1), ct := Pv (i + 1), bk := D.nx } σ2 H2) (hd : ∀ σ H, Pv n σ H → D.nx σ H) :
    ∃ W : Nat → Nat → St → Hp → Prop, (∃ m, W 0 m σ H) ∧ ∀ i m σ H, W i m σ H →
      ((Itr lo n).stop i H ∧ D.nx σ H) ∨ ((Itr lo n).go i H ∧ ∃ N : St → Hp → Prop, (∀ σ' H', N σ' H' → ∃ m', m' < m ∧ W (i + 1) m' σ' H') ∧ ∀ x H', (Itr lo n).yld i H x H' → g x σ H' fun σ2 H2 => tb { D with nx := N, ct := N, bk := D.nx } σ2 H2) := by
  refine ⟨fun i m σ H => m = n - i ∧ i ≤ n ∧ Pv i σ H, ⟨n, by simp, Nat.zero_le _, h0⟩, ?_⟩
  rintro i m σ H ⟨rfl, hi, p⟩
  by_cases hlt : i < n
  · refine .inr ⟨hlt, Pv (i + 1), fun σ' H' p' => ⟨n - (i + 1), by omega, rfl, hlt, p'⟩, fun x H' y => ?_⟩
    obtain ⟨e, y⟩ := y
    subst e y
    exact hs i σ _ hlt p
  · have e : i = n := by omega
    subst e
    exact .inl ⟨Nat.le_refl _, hd σ H p⟩
end L2

namespace L2
open PySem PySem.Spec PyProof.Rows

abbrev R2 := V → V → Hp → VK → Prop
/-- a two-place operation on values: f is binaryOp op, inplaceOp op or compareOp op -/
def OpR (X : Cx) (f : Value → Value → Sem Value) (r : R2) : Prop :=
  ∀ (pins : List (Addr × Obj)) (s : Shared) (σ : St) (H : Hp) (x y : V) (v u : Value) (Q : VK), Inv X pins σ H s → RelV x v → RelV y u → r x y H Q →
    wpAny (model X.prog X.w) X.A (f v u) (EP X pins σ Q) X.xe s
/-- a call of a value that is known (a builtin, a type) with values -/
def CallR (X : Cx) (f : Value) (r : List V → Hp → VK → Prop) : Prop :=
  ∀ (pins : List (Addr × Obj)) (s : Shared) (σ : St) (H : Hp) (xs : List V) (us : List Value) (Q : VK), Inv X pins σ H s → Vals xs us → r xs H Q →
    wpAny (model X.prog X.w) X.A (call f us) (EP X pins σ Q) X.xe s
def tOp (r : R2) (ta tb : TE) : TE := fun σ H Q => ta σ H fun x H1 => tb σ H1 fun y H2 => r x y H2 Q
/-- ints in, under C, and a value out -/
def rI (C : Int → Int → Prop) (g : Int → Int → V) : R2 := fun x y H Q => ∃ i j, x = .int i ∧ y = .int j ∧ C i j ∧ Q (g i j) H
def rI0 (g : Int → Int → V) : R2 := fun x y H Q => ∃ i j, x = .int i ∧ y = .int j ∧ Q (g i j) H
section
variable {X : Cx} {a b c : Expr} {ta tb tc : TE} {pos : Pos}

theorem binT (ha : PE X a ta) (hb : PE X b tb) {pins : List (Addr × Obj)} {s : Shared} {σ : St} {H : Hp} {R : V → V → Hp → Prop} (I : Inv X pins σ H s)
    (h : ta σ H fun x H1 => tb σ H1 fun y H2 => R x y H2) {Q : Value → Shared → Prop} {f : Value → Value → Sem Value}
    (hf : ∀ v u s2 x y H2, Inv X pins σ H2 s2 → RelV x v → RelV y u → R x y H2 → wpAny (model X.prog X.w) X.A (f v u) Q X.xe s2) :
    wpAny (model X.prog X.w) X.A (eval a X.env) (fun v s₁ => wpAny (model X.prog X.w) X.A (eval b X.env) (fun u s₂ => wpAny (model X.prog X.w) X.A (f v u) Q X.xe s₂) X.xe s₁) X.xe s := by
  refine thn (ha pins s σ H _ I h) fun v s1 ⟨x, H1, I1, r1, q1⟩ => ?_
  refine thn (hb pins s1 σ H1 _ I1 q1) fun u s2 ⟨y, H2, I2, r2, q2⟩ => ?_
  exact hf v u s2 x y H2 I2 r1 r2 q2

theorem pe_op {op : Operator} {r : R2} (ho : OpR X (binaryOp op) r) (ha : PE X a ta) (hb : PE X b tb) : PE X (.BinOp a op b pos) (tOp r ta tb) := by
  intro pins s σ H Q I h
  exact wpAny_BinOp (binT ha hb I h fun v u s2 x y H2 I2 rx ry q => ho pins s2 σ H2 x y v u Q I2 rx ry q)
/-! ### ints -/
theorem opI {f : Value → Value → Sem Value} {C : Int → Int → Prop} {g : Int → Int → Int}
    (rule : ∀ (i j : Int) (t u : Tok) (s : Shared) (Q : Value → Shared → Prop) (E : Value → Shared → Prop), C i j → Q (.int (g i j) s.toks) { s with toks := s.toks + 1 } → wpAny (model X.prog X.w) X.A (f (.int i t) (.int j u)) Q E s) :
    OpR X f (rI C fun i j => .int (g i j)) := by
  intro pins s σ H x y v u Q I rx ry h
  obtain ⟨i, j, rfl, rfl, hc, q⟩ := h
  obtain ⟨t, rfl⟩ := rx
  obtain ⟨t', rfl⟩ := ry
  exact rule i j t t' s _ _ hc ⟨.int (g i j), H, I.tok _, ⟨_, rfl⟩, q⟩
theorem opI0 {f : Value → Value → Sem Value} {g : Int → Int → Int}
    (rule : ∀ (i j : Int) (t u : Tok) (s : Shared) (Q : Value → Shared → Prop) (E : Value → Shared → Prop), Q (.int (g i j) s.toks) { s with toks := s.toks + 1 } → wpAny (model X.prog X.w) X.A (f (.int i t) (.int j u)) Q E s) :
    OpR X f (rI0 fun i j => .int (g i j)) := by
  intro pins s σ H x y v u Q I rx ry h
  obtain ⟨i, j, rfl, rfl, q⟩ := h
  obtain ⟨t, rfl⟩ := rx
  obtain ⟨t', rfl⟩ := ry
  exact rule i j t t' s _ _ ⟨.int (g i j), H, I.tok _, ⟨_, rfl⟩, q⟩
theorem opB0 {f : Value → Value → Sem Value} {g : Int → Int → Bool}
    (rule : ∀ (i j : Int) (t u : Tok) (s : Shared) (Q : Value → Shared → Prop) (E : Value → Shared → Prop), Q (.bool (g i j)) s → wpAny (model X.prog X.w) X.A (f (.int i t) (.int j u)) Q E s) :
    OpR X f (rI0 fun i j => .bl (g i j)) := by
  intro pins s σ H x y v u Q I rx ry h
  obtain ⟨i, j, rfl, rfl, q⟩ := h
  obtain ⟨t, rfl⟩ := rx
  obtain ⟨t', rfl⟩ := ry
  exact rule i j t t' s _ _ ⟨.bl (g i j), H, I, rfl, q⟩

def CDiv (i j : Int) : Prop := 0 < j ∧ j < 1073741824
def CPow (i j : Int) : Prop := 0 ≤ j ∧ j ≤ 1000000 ∧ i.natAbs < 2 ^ 64
def CMul (i j : Int) : Prop := (-(2 ^ 64) < i ∧ i < 2 ^ 64) ∨ (-(2 ^ 64) < j ∧ j < 2 ^ 64)
theorem CMul.ok {i j : Int} (h : CMul i j) : IntMulOk i j := by
  rcases h with ⟨h1, h2⟩ | ⟨h1, h2⟩
  · exact .of_left (intBits_le_64 h1 h2)
  · exact .of_right (intBits_le_64 h1 h2)
theorem op_add : OpR X (binaryOp .Add) (rI0 fun i j => .int (i + j)) := opI0 fun _ _ _ _ _ _ _ q => add_int q
theorem op_sub : OpR X (binaryOp .Sub) (rI0 fun i j => .int (i - j)) := opI0 fun _ _ _ _ _ _ _ q => sub_int q
theorem op_mul : OpR X (binaryOp .Mult) (rI CMul fun i j => .int (i * j)) := opI fun _ _ _ _ _ _ _ hc q => mul_int q hc.ok
/-- // by a positive divisor -/
theorem op_fdiv : OpR X (binaryOp .FloorDiv) (rI CDiv fun i j => .int (i / j)) := opI fun i j _ _ _ _ _ hc q => by
  have h1 : (0 : Int) < j := hc.1
  have h2 : j < 1073741824 := hc.2
  exact floordiv_int (by omega) (by rw [Int.fdiv_eq_ediv_of_nonneg i (by omega)]; exact q) (.inl (PyProof.noPylong_small (by omega)))
/-- % by a positive divisor of any size -/
theorem op_mod : OpR X (binaryOp .Mod) (rI (fun _ j => 0 < j) fun i j => .int (i % j)) := opI fun i j _ _ _ _ _ hc q => by
  have h1 : (0 : Int) < j := hc
  exact mod_int' (by omega) (by rw [Int.fmod_eq_emod_of_nonneg i (by omega)]; exact q)
theorem op_pow : OpR X (binaryOp .Pow) (rI CPow fun i j => .int (i ^ j.toNat)) := opI fun _ _ _ _ _ _ _ hc q => pow_int_small hc.1 hc.2.1 hc.2.2 q
/-! ### bools among ints: n += (a < b) -/
end

/-! ### comparisons -/
/-- the scalars that == tells apart as data does -/
def scal : V → V → Bool
  | .non, .non => true | .non, .int _ => true | .int _, .non => true | .non, .bl _ => true | .bl _, .non => true | .non, .str _ => true | .str _, .non => true
  | .int _, .int _ => true | .bl _, .bl _ => true | .str _, .str _ => true | .byt _, .byt _ => true
  | .int _, .str _ => true | .str _, .int _ => true | .bl _, .str _ => true | .str _, .bl _ => true
  | _, _ => false
def rEq : R2 := fun x y H Q => scal x y = true ∧ Q (.bl (decide (x = y))) H
def rNe : R2 := fun x y H Q => scal x y = true ∧ Q (.bl (!decide (x = y))) H

theorem dec_int {i j : Int} : decide (V.int i = V.int j) = (i == j) := by
  rw [Bool.eq_iff_iff]
  simp
theorem dec_bl {i j : Bool} : decide (V.bl i = V.bl j) = (i == j) := by
  rw [Bool.eq_iff_iff]
  simp
theorem dec_str {i j : Str} : decide (V.str i = V.str j) = (i == j) := by
  rw [Bool.eq_iff_iff]
  simp
theorem dec_byt {i j : Array UInt8} : decide (V.byt i = V.byt j) = (i.toList == j.toList) := by
  rw [Bool.eq_iff_iff]
  cases i
  cases j
  simp

section
variable {X : Cx} {a b c : Expr} {ta tb tc : TE} {pos : Pos}
theorem fin_bl {pins : List (Addr × Obj)} {σ : St} {H : Hp} {s : Shared} {Q : VK} {k k' : Bool} (I : Inv X pins σ H s) (q : Q (.bl k) H) (e : k = k') : EP X pins σ Q (.bool k') s := by
  subst e
  exact ⟨.bl k, H, I, rfl, q⟩
theorem op_eq : OpR X (compareOp .Eq) rEq := by
  intro pins s σ H x y v u Q I rx ry h
  obtain ⟨hs, q⟩ := h
  cases x with
  | non =>
    cases rx
    cases y with
    | non => cases ry; exact PySem.EqNone.eq_none_none (fin_bl I q (by simp))
    | bl j => cases ry; exact PySem.EqNone.eq_none_bool (fin_bl I q (by simp))
    | int j => obtain ⟨t', rfl⟩ := ry; exact PySem.EqNone.eq_none_int (fin_bl I q (by simp))
    | str j => obtain ⟨t', rfl⟩ := ry; exact PySem.EqNone.eq_none_str (fin_bl I q (by simp))
    | _ => exact absurd (show false = true from hs) Bool.false_ne_true
  | bl i =>
    cases rx
    cases y with
    | non => cases ry; exact PySem.EqNone.eq_bool_none (fin_bl I q (by simp))
    | bl j => cases ry; exact eq_bool (fin_bl I q dec_bl)
    | str j => obtain ⟨t', rfl⟩ := ry; exact PySem.EqMixed.eq_bool_str (fin_bl I q (by simp))
    | _ => exact absurd (show false = true from hs) Bool.false_ne_true
  | int i =>
    obtain ⟨t, rfl⟩ := rx
    cases y with
    | non => cases ry; exact PySem.EqNone.eq_int_none (fin_bl I q (by simp))
    | int j => obtain ⟨t', rfl⟩ := ry; exact eq_int (fin_bl I q dec_int)
    | str j => obtain ⟨t', rfl⟩ := ry; exact PySem.EqMixed.eq_int_str (fin_bl I q (by simp))
    | _ => exact absurd (show false = true from hs) Bool.false_ne_true
  | str i =>
    obtain ⟨t, rfl⟩ := rx
    cases y with
    | non => cases ry; exact PySem.EqNone.eq_str_none (fin_bl I q (by simp))
    | bl j => cases ry; exact PySem.EqMixed.eq_str_bool (fin_bl I q (by simp))
    | int j => obtain ⟨t', rfl⟩ := ry; exact PySem.EqMixed.eq_str_int (fin_bl I q (by simp))
    | str j => obtain ⟨t', rfl⟩ := ry; exact eq_str (fin_bl I q dec_str)
    | _ => exact absurd (show false = true from hs) Bool.false_ne_true
  | byt i =>
    obtain ⟨t, rfl⟩ := rx
    cases y with
    | byt j => obtain ⟨t', rfl⟩ := ry; exact PySem.W.eq_bytes (fin_bl I q dec_byt)
    | _ => exact absurd (show false = true from hs) Bool.false_ne_true
  | _ => cases y <;> exact absurd (show false = true from hs) Bool.false_ne_true
theorem op_ne : OpR X (compareOp .NotEq) rNe := by
  intro pins s σ H x y v u Q I rx ry h
  obtain ⟨hs, q⟩ := h
  cases x with
  | non =>
    cases rx
    cases y with
    | non => cases ry; exact PySem.EqNone.ne_none_none (fin_bl I q (by simp))
    | bl j => cases ry; exact PySem.EqNone.ne_none_bool (fin_bl I q (by simp))
    | int j => obtain ⟨t', rfl⟩ := ry; exact PySem.EqNone.ne_none_int (fin_bl I q (by simp))
    | str j => obtain ⟨t', rfl⟩ := ry; exact PySem.EqNone.ne_none_str (fin_bl I q (by simp))
    | _ => exact absurd (show false = true from hs) Bool.false_ne_true
  | bl i =>
    cases rx
    cases y with
    | non => cases ry; exact PySem.EqNone.ne_bool_none (fin_bl I q (by simp))
    | bl j => cases ry; exact ne_bool (fin_bl I q (congrArg not dec_bl))
    | str j => obtain ⟨t', rfl⟩ := ry; exact PySem.EqMixed.ne_bool_str (fin_bl I q (by simp))
    | _ => exact absurd (show false = true from hs) Bool.false_ne_true
  | int i =>
    obtain ⟨t, rfl⟩ := rx
    cases y with
    | non => cases ry; exact PySem.EqNone.ne_int_none (fin_bl I q (by simp))
    | int j => obtain ⟨t', rfl⟩ := ry; exact ne_int (fin_bl I q (congrArg not dec_int))
    | str j => obtain ⟨t', rfl⟩ := ry; exact PySem.EqMixed.ne_int_str (fin_bl I q (by simp))
    | _ => exact absurd (show false = true from hs) Bool.false_ne_true
  | str i =>
    obtain ⟨t, rfl⟩ := rx
    cases y with
    | non => cases ry; exact PySem.EqNone.ne_str_none (fin_bl I q (by simp))
    | bl j => cases ry; exact PySem.EqMixed.ne_str_bool (fin_bl I q (by simp))
    | int j => obtain ⟨t', rfl⟩ := ry; exact PySem.EqMixed.ne_str_int (fin_bl I q (by simp))
    | str j => obtain ⟨t', rfl⟩ := ry; exact ne_str (fin_bl I q (congrArg not dec_str))
    | _ => exact absurd (show false = true from hs) Bool.false_ne_true
  | byt i =>
    obtain ⟨t, rfl⟩ := rx
    cases y with
    | byt j => obtain ⟨t', rfl⟩ := ry; exact PySem.W.ne_bytes (fin_bl I q (congrArg not dec_byt))
    | _ => exact absurd (show false = true from hs) Bool.false_ne_true
  | _ => cases y <;> exact absurd (show false = true from hs) Bool.false_ne_true

theorem op_lt : OpR X (compareOp .Lt) (rI0 fun i j => .bl (decide (i < j))) := opB0 fun _ _ _ _ _ _ _ q => lt_int q
theorem op_gt : OpR X (compareOp .Gt) (rI0 fun i j => .bl (decide (j < i))) := opB0 fun _ _ _ _ _ _ _ q => gt_int q
theorem op_ge : OpR X (compareOp .GtE) (rI0 fun i j => .bl (decide (j ≤ i))) := opB0 fun _ _ _ _ _ _ _ q => ge_int q
/-- is None, is not None: the right side a value none -/
theorem op_isN : OpR X (compareOp .Is) (fun x y H Q => y = .non ∧ Q (.bl (decide (x = .non))) H) := by
  intro pins s σ H x y v u Q I rx ry h
  obtain ⟨rfl, q⟩ := h
  cases ry
  refine is_none_gen (fin_bl I q ?_)
  cases x <;> first
    | (cases rx; rfl)
    | (obtain ⟨t, rfl⟩ := rx; rfl)
theorem op_notN : OpR X (compareOp .IsNot) (fun x y H Q => y = .non ∧ Q (.bl (!decide (x = .non))) H) := by
  intro pins s σ H x y v u Q I rx ry h
  obtain ⟨rfl, q⟩ := h
  cases ry
  refine isnot_none_gen (fin_bl I q ?_)
  cases x <;> first
    | (cases rx; rfl)
    | (obtain ⟨t, rfl⟩ := rx; rfl)

theorem nomark (b : Expr) {op : CmpOp} (h : op ≠ .In := by decide) (h2 : op ≠ .NotIn := by decide) : behindInMarks op b = false := by
  have e1 : (op == CmpOp.In) = false := by cases op <;> first | rfl | exact absurd rfl h
  have e2 : (op == CmpOp.NotIn) = false := by cases op <;> first | rfl | exact absurd rfl h2
  cases b <;> simp [behindInMarks, e1, e2]
/-- a comparison as a value; hm: nomark b, or (for in, not in) by with_unfolding_all rfl -/
theorem pe_cmpR {op : CmpOp} {r : R2} (ho : OpR X (compareOp op) r) (ha : PE X a ta) (hb : PE X b tb) (hm : behindInMarks op b = false) : PE X (.Compare a [op] [b] pos) (tOp r ta tb) := by
  intro pins s σ H Q I h
  exact wpAny_Compare1 (binT ha hb I h fun v u s2 x y H2 I2 rx ry q => ho pins s2 σ H2 x y v u Q I2 rx ry q) hm
/-- a reading of a value as a test -/
def tTest (t : TE) : TT := fun σ H Q => t σ H fun x H' => ∃ k, x = .bl k ∧ Q k H'
theorem pt_cmpR {op : CmpOp} {r : R2} (ho : OpR X (compareOp op) r) (ha : PE X a ta) (hb : PE X b tb) (hm : behindInMarks op b = false) : PT X (.Compare a [op] [b] pos) (tTest (tOp r ta tb)) := by
  intro pins s σ H Q I h
  refine wpAny_isTrue_Compare1 (thn (ha pins s σ H _ I h) fun v s1 ⟨x, H1, I1, r1, q1⟩ => thn (hb pins s1 σ H1 _ I1 q1) fun u s2 ⟨y, H2, I2, r2, q2⟩ =>
    thn (ho pins s2 σ H2 x y v u _ I2 r1 r2 q2) fun c s3 ⟨z, H3, I3, r3, k, e, q3⟩ => ?_) hm
  subst e
  cases r3
  exact wpAny_truthy_bool ⟨H3, I3, q3⟩
/-! ### truth -/
theorem line63 : (sizeLine : Nat) < 2 ^ 63 := by rw [sizeLine_eq]; decide
/-! ### strs and bytes -/
/-! ### scalar builtins, by CallR -/
theorem vals1 {x : V} {us : List Value} (r : Vals [x] us) : ∃ u, us = [u] ∧ RelV x u := by
  cases r with
  | cons r1 r2 => cases r2; exact ⟨_, rfl, r1⟩
theorem vals2 {x y : V} {us : List Value} (r : Vals [x, y] us) : ∃ u w', us = [u, w'] ∧ RelV x u ∧ RelV y w' := by
  cases r with
  | cons r1 r2 =>
    cases r2 with
    | cons r3 r4 => cases r4; exact ⟨_, _, rfl, r1, r3⟩
theorem call_abs : CallR X (.builtin "abs") (fun xs H Q => ∃ i, xs = [.int i] ∧ Q (.int (if i < 0 then -i else i)) H) := by
  intro pins s σ H xs us Q I r h
  obtain ⟨i, rfl, q⟩ := h
  obtain ⟨u, rfl, t, rfl⟩ := vals1 r
  exact call_abs_int fun u tk => ⟨.int (if i < 0 then -i else i), H, I.tok _, ⟨_, rfl⟩, q⟩
theorem call_max2 (hc : X.calm = true) : CallR X (.builtin "max") (fun xs H Q => ∃ i j, xs = [.int i, .int j] ∧ Q (.int (if j > i then j else i)) H) := by
  intro pins s σ H xs us Q I r h
  obtain ⟨i, j, rfl, q⟩ := h
  obtain ⟨u, w', rfl, ⟨t, rfl⟩, ⟨t', rfl⟩⟩ := vals2 r
  refine max_two_ints (I.ok.hd hc) fun h' tk k => ⟨_, H, I.kept k, ?_, q⟩
  by_cases hj : j > i
  · rw [if_pos hj, if_pos hj]; exact ⟨_, rfl⟩
  · rw [if_neg hj, if_neg hj]; exact ⟨_, rfl⟩
theorem call_min2 (hc : X.calm = true) : CallR X (.builtin "min") (fun xs H Q => ∃ i j, xs = [.int i, .int j] ∧ Q (.int (if j < i then j else i)) H) := by
  intro pins s σ H xs us Q I r h
  obtain ⟨i, j, rfl, q⟩ := h
  obtain ⟨u, w', rfl, ⟨t, rfl⟩, ⟨t', rfl⟩⟩ := vals2 r
  refine min_two_ints (I.ok.hd hc) fun h' tk k => ⟨_, H, I.kept k, ?_, q⟩
  by_cases hj : j < i
  · rw [if_pos hj, if_pos hj]; exact ⟨_, rfl⟩
  · rw [if_neg hj, if_neg hj]; exact ⟨_, rfl⟩
end
end L2

namespace L2
open PySem PySem.Spec PyProof.Rows

/-! ### an instance, its attributes a map -/
structure ObjM (h : Heap) (x dx C : Addr) (mA : Str → Option Value) : Prop where
  obj : h.get? x = some (PySem.W.instObj C dx)
  ns : h.Ns1 dx mA
  ne : dx ≠ x

theorem lookIn_ns {h : Heap} {dx : Addr} {mA : Str → Option Value} (n : h.Ns1 dx mA) : ∃ od, h.get? dx = some od ∧ ∀ name, PySem.W.lookIn name od = some (mA name) := by
  obtain ⟨o, es, ep, ho, hd, hk, _, hm⟩ := n
  refine ⟨o, ho, fun name => ?_⟩
  have e := hm name
  unfold nsFind findBy at e
  rw [← Array.find?_toList] at e
  unfold PySem.W.lookIn
  rw [hd]
  dsimp only
  split
  · rename_i y q
    rw [q] at e
    exact congrArg some e
  · rename_i q
    rw [q] at e
    have a : es.toList.any (·.refKey) = false := by
      rw [List.any_eq_false]
      intro y hy
      obtain ⟨z, t, hkey⟩ := hk y (Array.mem_toList_iff.mp hy)
      simp [DictEntry.refKey, hkey]
    have a' : ¬ es.toList.any (·.refKey) = true := by rw [a]; exact Bool.false_ne_true
    rw [if_neg a']
    exact congrArg some e

theorem ObjM.look {h : Heap} {x dx C : Addr} {mA : Str → Option Value} (I : ObjM h x dx C mA) : ∃ od, PySem.W.InstAt h x (PySem.W.instObj C dx) C (some od) ∧ ∀ name, PySem.W.lookIn name od = some (mA name) :=
  let ⟨od, ho, hl⟩ := lookIn_ns I.ns
  ⟨od, ⟨I.obj, rfl, rfl, ho⟩, hl⟩

section
variable {prog : Program} {w : World} {A : Around} {E : Value → Shared → Prop} {s : Shared} {K : PySem.W.Frag} {x dx C f : Addr} {mA : Str → Option Value} {name : Str} {v : Value}

end

/-! ### the attributes as a list of pairs -/
theorem RelO.some_of {v : V} {o : Option Value} (r : RelO (some v) o) : ∃ u, o = some u ∧ RelV v u := by
  cases o with
  | none => exact (show False from r).elim
  | some u => exact ⟨u, rfl, r⟩
section
variable {P : Program} {w : World} {H H' : Hp} {h h' : Heap} {a C dx : Addr} {fs fs' : List (Str × V)}
theorem ins_get (hok : HOk P w H h) (e : H a = some (.ins C dx fs)) : ∃ mA, ObjM h a dx C mA ∧ (∀ f, RelO (fs.lookup f) (mA f)) ∧ PySem.Within mA (fs.map (·.1)) ∧ fs.length ≤ 1000 ∧ H dx = some (.own a) := by
  obtain ⟨d, z, ne, ob, mA, n, r, q⟩ := (show ObjOk P w H h a (.ins C dx fs) from hok a _ e)
  exact ⟨mA, ⟨ob, n, ne⟩, r, q, z, d⟩
end

/-! ### what of the text a class must have -/
structure Cls (K : PySem.W.Frag) (C : Addr) : Prop where
  pg : PySem.W.plainGet K C Str.empty = true
  hd : PySem.W.hasDictIn K C = true
  po : PySem.W.plainOver K C = true
  sa : PySem.W.findIn K (.ref C) "__setattr__" = some (some (.builtin "object.__setattr__"))
theorem Cls.get {K : PySem.W.Frag} {C : Addr} (c : Cls K C) (f : Str) : PySem.W.plainGet K C f = true := c.pg
section
variable {X : Cx} {pins : List (Addr × Obj)} {σ : St} {H : Hp} {s : Shared} {a C dx : Addr} {fs : List (Str × V)} {f : Str} {v : V} {A : Around} {E : Value → Shared → Prop}

end

/-! ### readings and rules -/
section
variable {X : Cx} {o e value : Expr} {f : Str} {pos pos' tpos : Pos} {ta tv : TE}
end

/-! ### isinstance -/
section
variable {X : Cx} {pins : List (Addr × Obj)} {σ : St} {H : Hp} {s : Shared} {A : Around} {E : Value → Shared → Prop} {Q : Value → Shared → Prop} {c : Value} {b : Bool}
/-- the type of a value, as the fragment's deciders take it; for an instance its class -/
inductive TyOf (K : PySem.W.Frag) (H : Hp) : V → Value → Prop where
  | non : TyOf K H .non (.type "NoneType")
  | bl (x : Bool) : TyOf K H (.bl x) (.type "bool")
  | int (i : Int) : TyOf K H (.int i) (.type "int")
  | str (x : Str) : TyOf K H (.str x) (.type "str")
  | flt (x : UInt64) : TyOf K H (.flt x) (.type "float")
  | lst {a : Addr} {xs : List V} (e : H a = some (.lst xs)) : TyOf K H (.ref a) (.type "list")
  | frz {a : Addr} {o : Obj} {xs : List V} (e : H a = some (.frz o (.lst xs))) : TyOf K H (.ref a) (.type "list")
  | tup {a : Addr} {xs : List V} (e : H a = some (.tup xs)) : TyOf K H (.ref a) (.type "tuple")
  | dK {a : Addr} {kvs : List (Key × V)} (e : H a = some (.dK kvs)) : TyOf K H (.ref a) (.type "dict")
  | dT {a : Addr} {kvs : List (List Key × V)} (e : H a = some (.dT kvs)) : TyOf K H (.ref a) (.type "dict")
  | ins {a C dx : Addr} {fs : List (Str × V)} (e : H a = some (.ins C dx fs)) (cl : Cls K C) (ha : PySem.W.findIn K (.ref C) "__class__" = some (some (.builtin "object.__class__")))
      (hn : PySem.W.specialIn K (.builtin "object.__class__") "__get__" = some (some (.builtin "getset_descriptor.__get__"))) (htk : PySem.W.takesIn K (.builtin "object.__class__") = some true)
      (hm : PySem.W.mroIn K C (.type "object") = some true) : TyOf K H (.ref a) (.ref C)
/-- isinstance(x, c) for one class c, a built-in or an own one: kitOne's answer -/
theorem isinst_ok {x : V} {u t : Value} (I : Inv X pins σ H s) (rx : RelV x u) (ty : TyOf X.K H x t) (e : PySem.W.kitOne X.K t c = some b) (h : ∀ tk, Q (.bool b) { s with toks := tk }) :
    wpAny (model X.prog X.w) A (call (.builtin "isinstance") [u, c]) Q E s := by
  cases ty with
  | non => cases (show u = Value.none from rx); exact PySem.W.kia_one PySem.W.kitx_none I.kIn True.intro e (fun z => nomatch z) h
  | bl y => cases (show u = Value.bool y from rx); exact PySem.W.kia_one PySem.W.kitx_bool I.kIn True.intro e (fun z => nomatch z) h
  | int i => obtain ⟨t, q⟩ := (show ∃ t, u = Value.int i t from rx); cases q; exact PySem.W.kia_one PySem.W.kitx_int I.kIn True.intro e (fun z => nomatch z) h
  | str y => obtain ⟨t, q⟩ := (show ∃ t, u = Value.str y t from rx); cases q; exact PySem.W.kia_one PySem.W.kitx_str I.kIn True.intro e (fun z => nomatch z) h
  | flt y => obtain ⟨t, q⟩ := (show ∃ t, u = Value.float y t from rx); cases q; exact PySem.W.kia_one PySem.W.kitx_float I.kIn True.intro e (fun z => nomatch z) h
  | @lst a xs ea =>
    cases (show u = Value.ref a from rx)
    obtain ⟨_, _, n, _, h1⟩ := (show ObjOk X.prog X.w H s.heap a (.lst xs) from I.hok a _ ea)
    exact PySem.W.kia_one PySem.W.kitx_list I.kIn ⟨_, h1, rfl⟩ e (fun z => nomatch z) h
  | @frz a ob xs ea =>
    cases (show u = Value.ref a from rx)
    obtain ⟨_, _, _, n, _, h1⟩ := (show ObjOk X.prog X.w H s.heap a (.frz ob (.lst xs)) from I.hok a _ ea)
    exact PySem.W.kia_one PySem.W.kitx_list I.kIn ⟨_, h1, rfl⟩ e (fun z => nomatch z) h
  | @tup a xs ea =>
    cases (show u = Value.ref a from rx)
    obtain ⟨_, _, _, p⟩ := (show ObjOk X.prog X.w H s.heap a (.tup xs) from I.hok a _ ea)
    obtain ⟨o, h1, h2, _⟩ := p
    exact PySem.W.kia_one PySem.W.kitx_tuple I.kIn ⟨o, h1, h2⟩ e (fun z => nomatch z) h
  | @dK a kvs ea =>
    cases (show u = Value.ref a from rx)
    obtain ⟨_, _, vs, _, p⟩ := (show ObjOk X.prog X.w H s.heap a (.dK kvs) from I.hok a _ ea)
    obtain ⟨o, es, ep, h1, h2, _⟩ := p
    exact PySem.W.kia_one PySem.W.kitx_dict I.kIn ⟨o, h1, h2.1⟩ e (fun z => nomatch z) h
  | @dT a kvs ea =>
    cases (show u = Value.ref a from rx)
    obtain ⟨_, _, xs, _, o, es, ep, h1, h2, _⟩ := (show ObjOk X.prog X.w H s.heap a (.dT kvs) from I.hok a _ ea)
    exact PySem.W.kia_one PySem.W.kitx_dict I.kIn ⟨o, h1, h2.1⟩ e (fun z => nomatch z) h
  | @ins a C dx fs ea cl ha hn htk hm =>
    cases (show u = Value.ref a from rx)
    obtain ⟨mA, O, _⟩ := ins_get I.hok ea
    obtain ⟨od, J, _⟩ := O.look
    exact PySem.W.kia_one (PySem.W.kitx_own (cl.get _) cl.hd ha hn htk hm) I.kIn J e (fun z => nomatch z) h
end
end L2

namespace L2
open PySem PySem.Spec PyProof.Rows

/-! ### room -/
structure Room (k : Nat) (A : Around) : Prop where
  hd : A.handled = none
  dp : A.depth + 3 * k + 5 < recursionLimit
  un : A.units + 16 * k + 200 < cLine
  gd : A.guards = some []
theorem Room.mono {j k : Nat} {A : Around} (r : Room k A) (h : j ≤ k) : Room j A := ⟨r.hd, by have := r.dp; omega, by have := r.un; omega, r.gd⟩
theorem Room.deeper {k : Nat} {A : Around} (r : Room (k + 1) A) (env : Env) : Room k (A.deeper env) :=
  ⟨r.hd, by have := r.dp; show A.depth + 1 + 3 * k + 5 < _; omega, by have := r.un; show A.units + 3 + 16 * k + 200 < _; omega, r.gd⟩
theorem Room.depth {k : Nat} {A : Around} (r : Room k A) : A.depth < recursionLimit := by have := r.dp; omega
theorem Room.units {k : Nat} {A : Around} (r : Room k A) : A.units + 64 < cLine := by have := r.un; omega
theorem Room.units0 {k : Nat} {A : Around} (r : Room k A) : A.units < cLine := by have := r.un; omega

/-! ### argument lists and displays -/
def tNil : TA := fun _ H Q => Q [] H
def tCons (ta : TE) (tr : TA) : TA := fun σ H Q => ta σ H fun x H1 => tr σ H1 fun xs H2 => Q (x :: xs) H2
section
variable {X : Cx} {e : Expr} {es : List Expr} {te : TE} {t : TA} {pos : Pos}
theorem pa_nil : PA X [] tNil := fun _ _ _ _ H Q I h => Calls.spliced_nil ⟨[], H, I, .nil, h⟩
theorem pa_cons (ha : PE X e te) (hr : PA X es t) (hs : starEach (e :: es) X.env = (false, eval e X.env) :: starEach es X.env := by rfl) : PA X (e :: es) (tCons te t) := by
  intro pos pins s σ H Q I h
  rw [hs]
  show wpAny _ _ (spliced ((false, eval e X.env) :: backTo pos (starEach es X.env))) _ _ s
  refine Calls.spliced_cons (thn (ha pins s σ H _ I h) fun u s1 ⟨x, H1, I1, r1, q1⟩ => ?_)
  exact thn (hr pos pins s1 σ H1 _ I1 q1) fun us s2 ⟨xs, H2, I2, r2, q2⟩ => ⟨x :: xs, H2, I2, .cons r1 r2, q2⟩

/-- a tuple, a list of written items -/
def tTup (t : TA) : TE := fun σ H Q => t σ H fun xs H1 => xs.length ≤ sizeLine ∧ ∀ p, H1 p = none → Q (.ref p) (upd H1 p (.tup xs))
def tLst (t : TA) : TE := fun σ H Q => t σ H fun xs H1 => xs.length ≤ sizeLine ∧ ∀ p, H1 p = none → Q (.ref p) (upd H1 p (.lst xs))
theorem pe_tup {x1} (h : PA X es t) : PE X (.Tuple es x1 pos) (tTup t) := by
  intro pins s σ H Q I hq
  refine wpAny_Tuple_spliced (thn (h pos pins s σ H _ I hq) fun us s1 ⟨xs, H1, I1, r, z, q⟩ => ⟨by rw [← r.length]; exact z, ?_⟩)
  have hf : H1 s1.heap.objs.size = none := I1.hok.fresh (Nat.le_refl _)
  refine ⟨.ref s1.heap.objs.size, upd H1 s1.heap.objs.size (.tup xs), I1.laid (t' := s1.toks) (fun b u e => Heap.get?_push_of_some _ e) (Nat.le_refl _) ?_, rfl, q _ hf⟩
  exact ⟨z, us, r, ⟨_, Heap.get?_push_size _ rfl, rfl, _, rfl⟩⟩
theorem pe_lst (h : PA X es t) : PE X (.List es pos) (tLst t) := by
  intro pins s σ H Q I hq
  refine wpAny_List_spliced (thn (h pos pins s σ H _ I hq) fun us s1 ⟨xs, H1, I1, r, z, q⟩ => ⟨by rw [← r.length]; exact z, ?_⟩)
  have hf : H1 s1.heap.objs.size = none := I1.hok.fresh (Nat.le_refl _)
  refine ⟨.ref s1.heap.objs.size, upd H1 s1.heap.objs.size (.lst xs), I1.laid (t' := s1.toks) (fun b u e => Heap.get?_push_of_some _ e) (Nat.le_refl _) ?_, rfl, q _ hf⟩
  exact ⟨z, us, 0, r, Heap.get?_push_size _ rfl⟩
end

/-! ### what a def promises -/
/-- a def's promise: the bound arguments in the parameters' order, the heap, the wanted end, the wanted exception -/
abbrev Sp := List V → Hp → VK → XK → Prop
/-- how an exception lies behind a call (file 08 gives it): the callers' frames, abstract heap and state ahead of the call, the wish, the exception, the state -/
abbrev CXT := List Env → Hp → Shared → XK → Value → Shared → Prop

/-- the state at a call -/
structure Env0 (P : Program) (w : World) (K : PySem.W.Frag) (mg : Str → Option Value) (base : Heap) (A : Around) (outer : List Env) (s : Shared) (H : Hp) : Prop where
  frames : A.frames = some outer
  mod : Mod K mg base
  bs : ∀ b o, base.get? b = some o → s.heap.get? b = some o ∧ H b = none
  bsz : base.objs.size ≤ s.heap.objs.size
  funs : s.heap.FunFrames base outer
  frf : ∀ b ∈ frs outer, H b = none
  hok : HOk P w H s.heap
  bare : AllBare s.gens
/-- a call's end -/
def CE (outer : List Env) (P : Program) (w : World) (H : Hp) (s : Shared) (Q : VK) (u : Value) (s' : Shared) : Prop :=
  ∃ v H', s'.os = s.os ∧ AllBare s'.gens ∧ Un (frs outer) [] H H' s.heap s'.heap ∧ HOk P w H' s'.heap ∧ RelV v u ∧ Q v H'
def CR (CX : CXT) (outer : List Env) (P : Program) (w : World) (H : Hp) (s : Shared) (Q : VK) (E : XK) (r : Result) (s' : Shared) : Prop :=
  match r with
  | .ok (.ret u) => CE outer P w H s Q u s'
  | .ok _ => False
  | .error e => CX outer H s E e s'
structure FnOk (P : Program) (w : World) (K : PySem.W.Frag) (mg : Str → Option Value) (base : Heap) (CX : CXT) (k : Nat) (f : Addr) (fd : FuncData) (ps : List Str) (sp : Sp) : Prop where
  len : ∀ vs H Q E, sp vs H Q E → vs.length = ps.length
  run : ∀ (A : Around) (outer : List Env) (s : Shared) (H : Hp) (args : Args) (us : List Value) (vs : List V) (Q : VK) (E : XK), Room k A → Env0 P w K mg base A outer s H → BindsTo s fd args (ps.zip us) → Vals vs us → sp vs H Q E →
    codeAny (model P w) A (.call (.ref f) args) (CR CX outer P w H s Q E) s
section
variable {X : Cx} {pins : List (Addr × Obj)} {σ : St} {H : Hp} {s s' : Shared}
/-- from a body: what a callee wants -/
theorem Inv.env0 (I : Inv X pins σ H s) : Env0 X.prog X.w X.K X.mg X.base X.A X.stack s H :=
  ⟨I.ok.frames, I.ok.mod, I.bs, Nat.le_trans I.ok.bsz I.sz, I.stack, I.stkFree, I.hok, I.bare⟩
/-- behind a call -/
theorem Inv.after {Q : VK} {u : Value} (I : Inv X pins σ H s) (h : CE X.stack X.prog X.w H s Q u s') : EP X pins σ Q u s' := by
  obtain ⟨v, H', os, bare, un, hok, r, q⟩ := h
  obtain ⟨hh, g, d, t, os'⟩ := s'
  obtain rfl : os' = s.os := os
  exact ⟨v, H', I.call (h' := hh) (g' := g) (d' := d) (t' := t) (ch := []) un hok bare (fun b z => absurd z (by simp)), r, q⟩
end

/-! ### calls -/
/-- f(..): the written arguments, then the defaults dvs; E: what is wanted of an exception -/
def tCall (sp : Sp) (dvs : List V) (E : XK) (t : TA) : TE := fun σ H Q => t σ H fun vs H1 => sp (vs ++ dvs) H1 Q E
/-- how the parameters are bound: us the positional arguments, kw the keywords' values by name, ds the defaults that fill up -/
def Binds (K : PySem.W.Frag) (fd : FuncData) (ps : List Str) (ds : List Value) : Prop :=
  ∀ (s : Shared) (us : List Value), K.In s.heap → (us ++ ds).length = ps.length → BindsTo s fd ⟨us, []⟩ (ps.zip (us ++ ds))
/-- every parameter is given -/
theorem Binds.all {K : PySem.W.Frag} {fd : FuncData} {ps : List Str} (h : ∀ us : List Value, us.length = ps.length → bindArgs fd ⟨us, []⟩ = pure (ps.zip us)) : Binds K fd ps [] := fun s us _ hl => by
  rw [List.append_nil] at hl ⊢
  exact .of_eq (h us hl)

/-- an exception of a callee reaches what this body wants of exceptions -/
def Passes (CX : CXT) (X : Cx) (E : XK) : Prop := ∀ (pins : List (Addr × Obj)) (σ : St) (H : Hp) (s : Shared) (e : Value) (s' : Shared), Inv X pins σ H s → CX X.stack H s E e s' → X.xe e s'

section
variable {X : Cx} {CX : CXT} {k : Nat} {f C : Addr} {fd : FuncData} {ps : List Str} {sp : Sp} {dvs : List V} {ds : List Value} {E : XK} {x m : Str} {p pos apos : Pos} {e o : Expr} {es : List Expr} {ta : TE} {t : TA}

/-- the callee runs -/
theorem run_fn {pins : List (Addr × Obj)} {σ : St} {H : Hp} {s : Shared} {Q : VK} {us : List Value} {vs : List V} (F : FnOk X.prog X.w X.K X.mg X.base CX k f fd ps sp) (hr : Room k X.A) (hb : Binds X.K fd ps ds) (hd : Vals dvs ds) (hx : Passes CX X E)
    (I : Inv X pins σ H s) (r : Vals vs us) (h : sp (vs ++ dvs) H Q E) : wpAny (model X.prog X.w) X.A (call (.ref f) us) (EP X pins σ Q) X.xe s := by
  have r2 : Vals (vs ++ dvs) (us ++ ds) := r.append hd
  have hl : (us ++ ds).length = ps.length := by rw [← r2.length]; exact F.len _ _ _ _ h
  refine wpAny_call (codeAny_mono (F.run X.A X.stack s H ⟨us, []⟩ (us ++ ds) (vs ++ dvs) Q E hr I.env0 (hb s us I.kIn hl) r2 h) fun r s' hq => ?_)
  cases r with
  | error e => exact hx pins σ H s e s' I hq
  | ok fl =>
    cases fl with
    | ret u => exact I.after hq
    | next => exact False.elim hq
    | brk => exact False.elim hq
    | cont => exact False.elim hq

theorem pe_call (F : FnOk X.prog X.w X.K X.mg X.base CX k f fd ps sp) (hr : Room k X.A) (hg : Gl X x) (hm : X.mg x = some (.ref f)) (hk : PySem.W.keepIn X.K (.ref f) = true) (hb : Binds X.K fd ps ds) (hd : Vals dvs ds) (hx : Passes CX X E)
    (ha : PA X (e :: es) t) (hdb : (x == ("__debug__" : Str)) = false := by decide) (he : starEach (e :: es) X.env = (false, eval e X.env) :: starEach es X.env := by rfl) (hpl : (backTo pos (starEach es X.env)).any (·.1) = false := by rfl) :
    PE X (.Call (.Name x p) (e :: es) [] pos) (tCall sp dvs E t) := by
  intro pins s σ H Q I h
  refine wpAny_Call_Name_kw (ld_glob I hg hm ?_ hdb)
  refine PySem.W.callWith_K (h₀ := X.base) I.ok.mod.kin hk (thn (ha pos pins s σ H _ I h) fun us s1 ⟨vs, H1, I1, r, q⟩ => ⟨I1.kIn, ?_⟩) he hpl
  exact run_fn F hr hb hd hx I1 r q
end

/-! ### keywords -/
section
variable {X : Cx} {CX : CXT} {k : Nat} {f C : Addr} {fd : FuncData} {ps ks : List Str} {sp : Sp} {E : XK} {x m : Str} {p pos apos kpos : Pos} {e o : Expr} {es : List Expr} {kws : List Keyword} {te ta : TE} {t tk : TA} {nm : Option Str}
variable {g : List Value → List Value → List Value} {gV : List V → List V → List V}
end

/-! ### a def's body keeps its promise -/
/-- names: the parameters first -/
structure FnScope (N P : List Str) (sc : Scope) : Prop where
  kind : sc.kind = .function
  co : sc.isCoroutine = false
  gen : sc.isGenerator = false
  nd : N.Nodup
  pre : N.take P.length = P
  par : ∀ x ∈ P, sc.names.lookup x = some .local ∨ sc.names.lookup x = some .cell
  nofree : ∀ y ∈ sc.names, y.2 ≠ .free

theorem bindL_out {kindOf : Str → Option NameKind} {x : Str} : ∀ {binds : List (Str × Value)} {m : Str → Option Value}, (∀ v, (x, v) ∉ binds) → bindL kindOf binds m x = m x
  | [], _, _ => rfl
  | (n, v) :: r, m, h => by
    unfold bindL
    rw [bindL_out fun w hw => h w (List.mem_cons_of_mem _ hw)]
    split
    · have : x ≠ n := by rintro rfl; exact h v List.mem_cons_self
      simp [this]
    · rfl
theorem bindC_out {kindOf : Str → Option NameKind} {x : Str} : ∀ {binds : List (Str × Value)} {m : Str → Option Value}, (∀ v, (x, v) ∉ binds) → bindC kindOf binds m x = m x
  | [], _, _ => rfl
  | (n, v) :: r, m, h => by
    unfold bindC
    rw [bindC_out fun w hw => h w (List.mem_cons_of_mem _ hw)]
    split
    · rfl
    · have : x ≠ n := by rintro rfl; exact h v List.mem_cons_self
      simp [this]
theorem bindL_get {kindOf : Str → Option NameKind} {x : Str} {v : Value} : ∀ {P : List Str} {vs : List Value} {i : Nat} {m : Str → Option Value}, P.Nodup → P[i]? = some x → vs[i]? = some v → kindOf x = some .local →
    bindL kindOf (P.zip vs) m x = some v
  | [], _, _, _, _, h, _, _ => by simp at h
  | _ :: _, [], _, _, _, _, h, _ => by simp at h
  | p :: P, w :: vs, 0, m, nd, h1, h2, hk => by
    simp at h1 h2; subst h1; subst h2
    show bindL kindOf ((p, w) :: P.zip vs) m p = _
    unfold bindL
    rw [bindL_out fun v hv => (List.nodup_cons.mp nd).1 (List.of_mem_zip hv).1, if_pos hk]
    simp
  | p :: P, w :: vs, i + 1, m, nd, h1, h2, hk => by
    show bindL kindOf ((p, w) :: P.zip vs) m x = _
    unfold bindL
    exact bindL_get (i := i) (List.nodup_cons.mp nd).2 (by simpa using h1) (by simpa using h2) hk
theorem bindC_get {kindOf : Str → Option NameKind} {x : Str} {v : Value} : ∀ {P : List Str} {vs : List Value} {i : Nat} {m : Str → Option Value}, P.Nodup → P[i]? = some x → vs[i]? = some v → kindOf x ≠ some .local →
    bindC kindOf (P.zip vs) m x = some v
  | [], _, _, _, _, h, _, _ => by simp at h
  | _ :: _, [], _, _, _, _, h, _ => by simp at h
  | p :: P, w :: vs, 0, m, nd, h1, h2, hk => by
    simp at h1 h2; subst h1; subst h2
    show bindC kindOf ((p, w) :: P.zip vs) m p = _
    unfold bindC
    rw [bindC_out fun v hv => (List.nodup_cons.mp nd).1 (List.of_mem_zip hv).1, if_neg hk]
    simp
  | p :: P, w :: vs, i + 1, m, nd, h1, h2, hk => by
    show bindC kindOf ((p, w) :: P.zip vs) m x = _
    unfold bindC
    exact bindC_get (i := i) (List.nodup_cons.mp nd).2 (by simpa using h1) (by simpa using h2) hk

/-- the names' values at the entry -/
def start (N : List Str) (vs : List V) : St := vs.map some ++ List.replicate (N.length - vs.length) none

/-- the context of a def's body, at its entry; an exception leaves the frame, then lies as CX says -/
def cxOf (CX : CXT) (P : Program) (w : World) (K : PySem.W.Frag) (mg : Str → Option Value) (base : Heap) (N : List Str) (qual : Str) (scope : Scope) (f : Addr) (cd : Value) (A : Around) (outer : List Env) (s : Shared) (H : Hp) (E : XK) : Cx where
  prog := P
  w := w
  K := K
  mg := mg
  base := base
  A := A.deeper (envOfC qual scope s.heap.objs.size f cd)
  N := N
  s₀ := s
  H₀ := H
  env := envOfC qual scope s.heap.objs.size f cd
  outer := outer
  stack := envOfC qual scope s.heap.objs.size f cd :: outer
  ex := []
  calm := true
  fn := fun _ => true
  pn := []
  xe := fun e s' => wpAny (model P w) (A.deeper (envOfC qual scope s.heap.objs.size f cd)) (leaving (envOfC qual scope s.heap.objs.size f cd) e) (fun _ s'' => CX outer H s E e s'') (fun e' s'' => CX outer H s E e' s'') s'

theorem cell_has {sc : Scope} {n : Nat} {x : Str} (h : sc.names.lookup x = some .cell) : ∃ c, (cellsFrom n sc.names []).lookup x = some c := by
  have q := PySem.W.cellsFrom_some sc.names n [] (.inl h)
  exact Option.isSome_iff_exists.mp q

theorem inv_start {CX : CXT} {P : Program} {w : World} {K : PySem.W.Frag} {mg : Str → Option Value} {base : Heap} {N ps : List Str} {qual : Str} {scope : Scope} {f : Addr} {cd : Value} {A : Around} {outer : List Env} {s s1 : Shared} {H : Hp} {E : XK} {us : List Value} {vs : List V}
    (S : FnScope N ps scope) (hd : A.handled = none) (e0 : Env0 P w K mg base A outer s H) (hl : vs.length = ps.length) (r : Vals vs us)
    (x : InCallC s s.heap.objs.size (bindL (envOfC qual scope s.heap.objs.size f cd).kindOf (ps.zip us) fun _ => none) (cellsFrom (s.heap.objs.size + 1) scope.names []) (bindC (envOfC qual scope s.heap.objs.size f cd).kindOf (ps.zip us) fun _ => none) s1) :
    Inv (cxOf CX P w K mg base N qual scope f cd A outer s H E) [] (start N vs) H s1 := by
  have hpl : ps.length ≤ N.length := by have := congrArg List.length S.pre; rw [List.length_take] at this; omega
  obtain ⟨h1, tk, rfl, hk⟩ := x.done
  have noA : ∀ b : Addr, b ∉ (cxOf CX P w K mg base N qual scope f cd A outer s H E).ex := fun b z => absurd (show b ∈ ([] : List Addr) from z) (by simp)
  refine ⟨⟨e0.mod, S.kind, rfl, rfl, Nat.le_refl _, fun y z c h1 h2 => ?_, fun y hy => ?_, fun y c _ h => ?_, fun _ => hd, Around.frames_deeper e0.frames, .inr ⟨rfl, rfl⟩, fun b z => absurd z (noA b), e0.bs, e0.bsz, fun b _ _ => noA b, fun b z => absurd z (noA b), e0.funs, e0.frf⟩,
    rfl, e0.bare, Un.kept hk, ⟨_, x.toInCall.ns, fun i y v h1 h2 h3 => ?_⟩, fun y c h => ⟨_, x.cell y c h⟩, e0.hok.fresh (Nat.le_refl _), fun y c h => ?_, fun p hp => absurd (show p ∈ ([] : List (Addr × Obj)) from hp) (by simp), e0.hok.kept hk, ?_⟩
  · exact name_of_addr x.apart (PySem.mem_of_lookup h1) (PySem.mem_of_lookup h2)
  · have hy : scope.names.lookup y = some .cell ∨ scope.names.lookup y = some .free := hy
    rcases hy with hy | hy
    · exact cell_has hy
    · exact absurd rfl (S.nofree _ (PySem.mem_of_lookup hy))
  · exact Nat.le_of_lt (x.above y c (PySem.mem_of_lookup h))
  · have hi : i < vs.length := by
      unfold start at h2
      by_cases hi : i < vs.length
      · exact hi
      · rw [List.getElem?_append_right (by simpa using hi)] at h2
        rw [List.getElem?_replicate] at h2
        split at h2 <;> cases h2
    have ha : vs[i]? = some v := by
      unfold start at h2
      rw [List.getElem?_append_left (by simpa using hi), List.getElem?_map] at h2
      cases e : vs[i]? with
      | none => rw [e] at h2; cases h2
      | some a => rw [e] at h2; cases h2; rfl
    obtain ⟨u, hu, rv⟩ := r.get ha
    have hp : ps[i]? = some y := by
      rw [← S.pre, List.getElem?_take_of_lt (by omega)]; exact h1
    have ndP : ps.Nodup := by rw [← S.pre]; exact S.nd.sublist (List.take_sublist _ _)
    refine ⟨u, rv, ?_⟩
    rcases S.par y (List.mem_of_getElem? hp) with k | k
    · exact .inl ⟨k, bindL_get ndP hp hu k⟩
    · obtain ⟨c, e⟩ := cell_has (n := s.heap.objs.size + 1) k
      refine .inr ⟨.inl k, c, e, ?_⟩
      have q := x.cell y c e
      rw [bindC_get ndP hp hu (by show scope.names.lookup y ≠ _; rw [k]; decide)] at q
      exact q
  · exact e0.hok.fresh (Nat.le_of_lt (x.above y c (PySem.mem_of_lookup h)))
  · unfold start
    show _ = N.length
    rw [List.length_append, List.length_map, List.length_replicate]
    omega

/-- THE RULE: a def (or a method) of the text, by its body. The body's reading t is chosen for each entry; it is run at the parameters' values -/
theorem fn_of {CX : CXT} {P : Program} {w : World} {K : PySem.W.Frag} {mg : Str → Option Value} {base : Heap} {k : Nat} {f : Addr} {name qual : Str} {params : Arguments} {body : List Stmt} {scope : Scope} {dV kV doc pm cdv ct oc : Value} {an od : Option Addr}
    {osl : Array (Option Value)} {N ps : List Str} {sp : Sp} (lk : K.lookup f = some ⟨oc, od, .func (PySem.W.fnOf name qual params body scope dV kV doc pm an cdv ct), osl⟩) (hcd : PySem.W.codeIn K cdv qual = true) (S : FnScope N ps scope)
    (len : ∀ vs H Q E, sp vs H Q E → vs.length = ps.length)
    (hbody : ∀ (A : Around) (outer : List Env) (s : Shared) (H : Hp) (vs : List V) (Q : VK) (E : XK), Room k (A.deeper (envOfC qual scope s.heap.objs.size f cdv)) → sp vs H Q E →
      ∃ t, PSs (cxOf CX P w K mg base N qual scope f cdv A outer s H E) body t ∧ t { nx := fun _ H' => Q .non H', rt := Q } (start N vs) H) :
    FnOk P w K mg base CX (k + 1) f (PySem.W.fnOf name qual params body scope dV kV doc pm an cdv ct) ps sp := by
  refine ⟨len, fun A outer s H args us vs Q E hr e0 hb r hsp => ?_⟩
  have hl := len _ _ _ _ hsp
  have KX : K.In s.heap := e0.mod.kin.keeps fun b o e => (e0.bs b o e).1
  have lim : s.heap.NoLimit := e0.mod.nolimit.keeps fun b o e => (e0.bs b o e).1
  have hkind : ∀ y ∈ ps.zip us, scope.names.lookup y.1 = some .local ∨ (scope.names.lookup y.1 = some .cell ∧ ((cellsFrom (s.heap.objs.size + 1) scope.names []).lookup y.1).isSome = true) := fun ⟨n, v⟩ hy => by
    rcases S.par n (List.of_mem_zip hy).1 with q | q
    · exact .inl q
    · exact .inr ⟨q, PySem.W.cellsFrom_some _ _ _ (.inl q)⟩
  refine codeAny_call_function hr.depth (KX _ _ lk) rfl S.co S.gen rfl (PySem.W.codeRec_of KX hcd) (hb _ _ _ _ ?_)
  refine wpAny_newFunctionEnv_cells S.kind hkind fun env he s1 x => ?_
  subst he
  refine ⟨lim.keeps x.toInCall.keep, codeAny_func ?_⟩
  obtain ⟨t, ht, hq⟩ := hbody A outer s H vs Q E (hr.deeper _) hsp
  have I : Inv (cxOf CX P w K mg base N qual scope f cdv A outer s H E) [] (start N vs) H s1 := inv_start S hr.hd e0 hl r x
  refine wpAny_mono (ht [] s1 (start N vs) H _ I hq) (fun fl s' hs => ?_) fun e s' hs => hs
  have fin : ∀ {σ' : St} {H' : Hp} {v : V} {u : Value}, Inv (cxOf CX P w K mg base N qual scope f cdv A outer s H E) [] σ' H' s' → RelV v u → Q v H' → CE outer P w H s Q u s' :=
    fun {σ' H' v u} J rv q => ⟨v, H', J.os, J.bare, J.base, J.hok, rv, q⟩
  cases fl with
  | ret u =>
    obtain ⟨v, σ', H', J, rv, q⟩ := hs
    exact fin J rv q
  | next =>
    obtain ⟨σ', H', J, q⟩ := hs
    exact fin (v := V.non) (u := Value.none) J rfl q
  | brk =>
    obtain ⟨_, _, _, q⟩ := hs
    exact False.elim q
  | cont =>
    obtain ⟨_, _, _, q⟩ := hs
    exact False.elim q
end L2

namespace L2
open PySem PySem.Spec PyProof.Rows
section
variable {X : Cx} {x : Str} {p pos : Pos} {e : Expr} {es : List Expr} {t : TA} {id T : String} {r : List V → Hp → VK → Prop}

def tCB (r : List V → Hp → VK → Prop) (t : TA) : TE := fun σ H Q => t σ H fun vs H1 => r vs H1 Q
/-- f(e, ..), f a built-in function -/
theorem pe_callB (hc : CallR X (.builtin id) r) (hg : Gl X x) (hm : X.mg x = none) (hv : bootBuiltins x = some (.builtin id)) (ha : PA X (e :: es) t) (hn : x ≠ "__name__" := by decide) (hdb : (x == ("__debug__" : Str)) = false := by decide)
    (he : starEach (e :: es) X.env = (false, eval e X.env) :: starEach es X.env := by rfl) (hpl : (backTo pos (starEach es X.env)).any (·.1) = false := by rfl) : PE X (.Call (.Name x p) (e :: es) [] pos) (tCB r t) := by
  intro pins s σ H Q I h
  refine wpAny_Call_Name_kw (ld_blt I hg hm hv ?_ hn hdb)
  exact PyProof.Rows.callWith_builtin1 (thn (ha pos pins s σ H _ I h) fun us s1 ⟨vs, H1, I1, r1, q1⟩ => hc pins s1 σ H1 vs us Q I1 r1 q1) he hpl
/-- T(e, ..), T a built-in type -/
theorem pe_callTy (hc : CallR X (.type T) r) (hg : Gl X x) (hm : X.mg x = none) (hv : bootBuiltins x = some (.type T)) (ha : PA X (e :: es) t) (hn : x ≠ "__name__" := by decide) (hdb : (x == ("__debug__" : Str)) = false := by decide)
    (he : starEach (e :: es) X.env = (false, eval e X.env) :: starEach es X.env := by rfl) (hpl : (backTo pos (starEach es X.env)).any (·.1) = false := by rfl) : PE X (.Call (.Name x p) (e :: es) [] pos) (tCB r t) := by
  intro pins s σ H Q I h
  refine wpAny_Call_Name_kw (ld_blt I hg hm hv ?_ hn hdb)
  exact PyProof.Rows.callWith_type1 (thn (ha pos pins s σ H _ I h) fun us s1 ⟨vs, H1, I1, r1, q1⟩ => hc pins s1 σ H1 vs us Q I1 r1 q1) he hpl
end
end L2

namespace HT
open PySem PyProof.Rows

section
open PySem.SeqAt
open PySem.AutoSeq1 (wpAny_loadPart')
open PySem.MeetsSeq PySem.MeetsSeq2 PySem.MeetsSeq3

end

section
variable {prog : Program} {w : World} {A : Around} {E : Value → Shared → Prop} {s : Shared}

/-- t + u, t not empty -/
theorem cat_tup {t b : Addr} {vs ws : List Value} {Q : Value → Shared → Prop} (ht : IsTup s.heap t vs.toArray) (hb : IsTup s.heap b ws.toArray) (hv : vs ≠ [])
    (h1 : ws = [] → Q (.ref t) s) (h2 : ws ≠ [] → Q (.ref s.heap.objs.size) { s with heap := s.heap.push { cls := .type "tuple", data := .seq (vs ++ ws).toArray } })
    (hsz : vs.length + ws.length ≤ sizeLine) : wpAny (model prog w) A (binaryOp .Add (.ref t) (.ref b)) Q E s := by
  obtain ⟨⟨cls, dd, data, sl⟩, ho, hc, n, hd⟩ := id ht
  obtain ⟨⟨cls2, dd2, data2, sl2⟩, ho2, hc2, n2, hd2⟩ := id hb
  simp only at hc hd hc2 hd2
  subst hc hd hc2 hd2
  have e : vs.toArray ++ ws.toArray = (vs ++ ws).toArray := by simp
  by_cases hw : ws = []
  · exact concat_meets ⟨_, ho, rfl⟩ ⟨_, ho2, rfl⟩ noFill_tuple_add seq_tuple_add PySem.F.slot_tuple_add PySem.F.entry_tuple_add (PySem.F.args_tuple_add_2 _ _)
      (tuple_addW1 t b vs.toArray ws.toArray n n2 dd dd2 sl sl2 (by simpa using hv) (by simp [hw])) ⟨ho, ho2, h1 hw⟩
  · refine concat_meets ⟨_, ho, rfl⟩ ⟨_, ho2, rfl⟩ noFill_tuple_add seq_tuple_add PySem.F.slot_tuple_add PySem.F.entry_tuple_add (PySem.F.args_tuple_add_2 _ _)
      (tuple_addW2 t b vs.toArray ws.toArray n n2 dd dd2 sl sl2 (by simpa using hv) (by simpa using hw) (by rw [List.size_toArray, List.size_toArray]; exact hsz)) ⟨ho, ho2, ?_⟩
    rw [e]
    exact h2 hw

/-! ### t[a:b], not the whole -/
/-- a slice's bound as a place among n (d where it is left out) -/
def sIx (n d : Nat) : Option Int → Nat
  | none => d
  | some v => if v < 0 then (v + (n : Int)).toNat else min v.toNat n
end
end HT

namespace L2
open PySem PySem.Spec PyProof.Rows

/-! ### the parts of a slice -/
abbrev TO := St → Hp → (Option Int → Hp → Prop) → Prop
/-- a slice's part (left out, or an int) -/
def PO (X : Cx) (e : Option Expr) (t : TO) : Prop :=
  ∀ (pins : List (Addr × Obj)) (s : Shared) (σ : St) (H : Hp) (Q : Option Int → Hp → Prop), Inv X pins σ H s → t σ H Q →
    wpAny (model X.prog X.w) X.A (evalPart e X.env) (fun u s' => ∃ o H', Inv X pins σ H' s' ∧ IsPart u o ∧ Q o H') X.xe s
def tNoPart : TO := fun _ H Q => Q none H
def tPart (t : TE) : TO := fun σ H Q => t σ H fun x H1 => ∃ i, x = .int i ∧ Q (some i) H1

theorem intsAre_of {ns : List Int} : ∀ {us : List Value}, Vals (ns.map V.int) us → IntsAre us ns := by
  induction ns with
  | nil => intro us r; rw [List.map_nil] at r; cases r; exact .nil
  | cons n ns ih =>
    intro us r
    rw [List.map_cons] at r
    cases r with
    | cons r1 r2 =>
      obtain ⟨t, e⟩ := r1
      subst e
      exact .cons n t (ih r2)

section
variable {X : Cx} {e : Expr} {te : TE} {lo hi : Option Expr} {tl th : TO} {pos p2 : Pos}

theorem po_none : PO X none tNoPart := by
  intro pins s σ H Q I h
  rw [evalPart_none]
  exact wpAny_pure ⟨none, H, I, .none, h⟩
theorem po_some (h : PE X e te) : PO X (some e) (tPart te) := by
  intro pins s σ H Q I hw
  rw [evalPart_some]
  refine thn (h pins s σ H _ I hw) fun u s1 ⟨x, H1, I1, r1, q1⟩ => ?_
  obtain ⟨i, rfl, q⟩ := q1
  obtain ⟨t, rfl⟩ := r1
  exact ⟨some i, H1, I1, .int i t, q⟩

/-- what a slice of a value is, by values: the slice object stands at sl -/
def SlR (X : Cx) (r : V → Option Int → Option Int → Hp → VK → Prop) : Prop :=
  ∀ (pins : List (Addr × Obj)) (s : Shared) (σ : St) (H : Hp) (x : V) (v vl vu : Value) (lo hi : Option Int) (sl : Addr) (Q : VK), Inv X pins σ H s → RelV x v → s.heap.IsSliceOf sl vl vu .none → IsPart vl lo → IsPart vu hi → r x lo hi H Q →
    ∃ T id, typeLookup (.type T) "__getitem__" = pure (some (.builtin id)) ∧ s.TypeIs v T ∧ wpAny (model X.prog X.w) X.A (getItem v (.ref sl)) (EP X pins σ Q) X.xe s
def tSl (r : V → Option Int → Option Int → Hp → VK → Prop) (te : TE) (tl th : TO) : TE := fun σ H Q => te σ H fun x H1 => tl σ H1 fun l H2 => th σ H2 fun u H3 => r x l u H3 Q
/-- a[lo:hi], any a -/
theorem pe_slice {r : V → Option Int → Option Int → Hp → VK → Prop} (hr : SlR X r) (he : PE X e te) (hl : PO X lo tl) (hu : PO X hi th) : PE X (.Subscript e (.Slice lo hi none p2) pos) (tSl r te tl th) := by
  intro pins s σ H Q I h
  refine Subscript_ (thn (he pins s σ H _ I h) fun v s1 ⟨x, H1, I1, r1, q1⟩ => ?_)
  refine wpAny_Slice (thn (hl pins s1 σ H1 _ I1 q1) fun vl s2 ⟨l, H2, I2, pl, q2⟩ => thn (hu pins s2 σ H2 _ I2 q2) fun vu s3 ⟨u, H3, I3, pu, q3⟩ => ?_)
  rw [evalPart_none]
  refine wpAny_pure ?_
  have I4 : Inv X pins σ H3 { s3 with heap := s3.heap.push { cls := .type "slice", data := .fields #[vl, vu, .none] } } := I3.kept (t' := s3.toks) fun b ob q => Heap.get?_push_of_some _ q
  obtain ⟨T, id, hT, ht, hg⟩ := hr pins { s3 with heap := s3.heap.push { cls := .type "slice", data := .fields #[vl, vu, .none] } } σ H3 x v vl vu l u s3.heap.objs.size Q I4 r1 (Heap.IsSliceOf.new ..) pl pu q3
  show wpAny (model X.prog X.w) X.A (subscriptTail e (.Slice lo hi none p2) v (.ref s3.heap.objs.size)) (EP X pins σ Q) X.xe { s3 with heap := s3.heap.push { cls := .type "slice", data := .fields #[vl, vu, .none] } }
  exact tail_any (ops := [.ref s3.heap.objs.size, v]) ht hT hg (by with_unfolding_all rfl)

/-- the items of xs[lo:hi] -/
def cutV (xs : List V) (lo hi : Option Int) : List V := (xs.drop (HT.sIx xs.length 0 lo)).take (HT.sIx xs.length xs.length hi - HT.sIx xs.length 0 lo)
theorem cutV_length (xs : List V) (lo hi : Option Int) : (cutV xs lo hi).length ≤ xs.length := by
  unfold cutV
  rw [List.length_take, List.length_drop]
  omega
/-! ### t < u, t + u -/
/-- t + u, t not empty: u empty gives t itself -/
def rCatT (K : PySem.W.Frag) : R2 := fun x y H Q => ∃ a b xs ys, x = .ref a ∧ y = .ref b ∧ SqT K H a xs ∧ SqT K H b ys ∧ xs ≠ [] ∧ xs.length + ys.length ≤ sizeLine ∧
  (ys = [] → Q (.ref a) H) ∧ (ys ≠ [] → ∀ p, H p = none → Q (.ref p) (upd H p (.tup (xs ++ ys))))
theorem Vals.nil_iff {xs : List V} {us : List Value} (r : Vals xs us) : us = [] ↔ xs = [] := by
  cases r with
  | nil => simp
  | cons _ _ => simp
theorem op_catT : OpR X (binaryOp .Add) (rCatT X.K) := by
  intro pins s σ H x y v u Q I rx ry h
  obtain ⟨a, b, xs, ys, rfl, rfl, ha, hb, hx, hz, q1, q2⟩ := h
  cases rx
  cases ry
  obtain ⟨its, r1, p1, _⟩ := I.tuple ha
  obtain ⟨its2, r2, p2, _⟩ := I.tuple hb
  refine HT.cat_tup p1 p2 (fun z => hx (r1.nil_iff.mp z)) (fun z => ⟨.ref a, H, I, rfl, q1 (r2.nil_iff.mp z)⟩) (fun z => ?_) (by rw [← r1.length, ← r2.length]; exact hz)
  refine ⟨.ref s.heap.objs.size, _, I.laid (t' := s.toks) (o := .tup (xs ++ ys)) (fun b ob q => Heap.get?_push_of_some _ q) (Nat.le_refl _) ?_, rfl, q2 (fun w => z (r2.nil_iff.mpr w)) _ (I.hok.fresh (Nat.le_refl _))⟩
  exact ⟨by rw [List.length_append]; exact hz, _, r1.append r2, IsTup.new _ _⟩
end
end L2

namespace L2
open PySem PySem.Spec PyProof.Rows

/-! ### places -/
/-- the place that an index of any sign means -/
def ixN (n : Nat) (i : Int) : Option Nat := if 0 ≤ i then (if i < n then some i.toNat else none) else if -(n : Int) ≤ i then some (i + n).toNat else none
def atI {α : Type} (xs : List α) (i : Int) : Option α := (ixN xs.length i).bind fun j => xs[j]?
theorem ixN_seq {n : Nat} {i : Int} {j : Nat} (h : ixN n i = some j) : seqIndex? i n = some j ∧ j < n ∧ -(n : Int) ≤ i ∧ i < n := by
  unfold ixN at h
  by_cases h0 : 0 ≤ i
  · rw [if_pos h0] at h
    by_cases h1 : i < n
    · rw [if_pos h1] at h
      have e : i.toNat = j := Option.some.inj h
      exact ⟨by rw [seqIndex_of h0 h1, e], by omega, by omega, h1⟩
    · rw [if_neg h1] at h; cases h
  · rw [if_neg h0] at h
    by_cases h1 : -(n : Int) ≤ i
    · rw [if_pos h1] at h
      have e : (i + n).toNat = j := Option.some.inj h
      exact ⟨by rw [seqIndex_neg (by omega) h1, e], by omega, h1, by omega⟩
    · rw [if_neg h1] at h; cases h
theorem atI_get {α : Type} {xs : List α} {i : Int} {v : α} (h : atI xs i = some v) : ∃ j, seqIndex? i xs.length = some j ∧ xs[j]? = some v ∧ j < xs.length ∧ -(xs.length : Int) ≤ i ∧ i < xs.length := by
  unfold atI at h
  cases e : ixN xs.length i with
  | none => rw [e] at h; cases h
  | some j =>
    rw [e] at h
    obtain ⟨h1, h2, h3, h4⟩ := ixN_seq e
    exact ⟨j, h1, h, h2, h3, h4⟩
theorem atI_nat {α : Type} {xs : List α} {j : Nat} {v : α} (h : xs[j]? = some v) : atI xs (j : Int) = some v := by
  have hj : j < xs.length := (List.getElem?_eq_some_iff.mp h).1
  have e : ixN xs.length (j : Int) = some j := by
    unfold ixN
    rw [if_pos (by omega), if_pos (by omega)]; simp
  unfold atI; rw [e]; exact h
/-! ### what may be subscripted -/
/-- what stands as an index of a plain subscript -/
def PlainIx (b : Expr) : Prop := ∀ o i, subscripted b false o i = operate [o, i] (getItem o i)
/-- a subscript by values -/
def IxR (X : Cx) (r : R2) : Prop :=
  ∀ (value slice : Expr) (pins : List (Addr × Obj)) (s : Shared) (σ : St) (H : Hp) (x y : V) (v u : Value) (Q : VK), Inv X pins σ H s → RelV x v → RelV y u → r x y H Q →
    subscripted slice false v u = operate [v, u] (getItem v u) → wpAny (model X.prog X.w) X.A (subscriptTail value slice v u) (EP X pins σ Q) X.xe s
/-- a call of a builtin's method by values: the receiver, the arguments -/
def MtR (X : Cx) (id : String) (r : V → List V → Hp → VK → Prop) : Prop :=
  ∀ (pins : List (Addr × Obj)) (s : Shared) (σ : St) (H : Hp) (x : V) (xs : List V) (v : Value) (us : List Value) (Q : VK), Inv X pins σ H s → RelV x v → Vals xs us → r x xs H Q →
    wpAny (model X.prog X.w) X.A (call (.builtin id) (v :: us)) (EP X pins σ Q) X.xe s
section
variable {X : Cx} {a b : Expr} {ta tb : TE} {pos : Pos}
/-- a[b] -/
theorem pe_ix {r : R2} (hr : IxR X r) (ha : PE X a ta) (hb : PE X b tb) (hs : PlainIx b) : PE X (.Subscript a b pos) (tOp r ta tb) := by
  intro pins s σ H Q I h
  exact Subscript_ (binT ha hb I h fun v u s2 x y H2 I2 rx ry q => hr a b pins s2 σ H2 x y v u Q I2 rx ry q (hs _ _))

def rIxL (K : PySem.W.Frag) : R2 := fun x y H Q => ∃ p xs i v, x = .ref p ∧ y = .int i ∧ SqL K H p xs ∧ atI xs i = some v ∧ Q v H
def rIxT (K : PySem.W.Frag) : R2 := fun x y H Q => ∃ p xs i v, x = .ref p ∧ y = .int i ∧ SqT K H p xs ∧ atI xs i = some v ∧ Q v H
theorem ix_list : IxR X (rIxL X.K) := by
  intro value slice pins s σ H x y v u Q I rx ry h hs
  obtain ⟨p, xs, i, z, rfl, rfl, hq, he, q⟩ := h
  cases rx
  obtain ⟨t, rfl⟩ := ry
  obtain ⟨its, r, pl, hz⟩ := I.list hq
  obtain ⟨j, h1, h2, h3, h4, h5⟩ := atI_get he
  obtain ⟨w, ew, rw'⟩ := r.get h2
  have hl := r.length
  have hn := line63
  have fin : EP X pins σ Q w s := ⟨z, H, I, rw', q⟩
  by_cases h0 : 0 ≤ i
  · have hj : i.toNat = j := by
      rw [seqIndex_of h0 h5] at h1
      exact Option.some.inj h1
    exact item_listR pl.isList h0 (by omega) (by rw [hj]; simpa using ew) fin hs
  · have hj : (i + (its.toArray.size : Int)).toNat = j := by
      rw [seqIndex_neg (by omega) h4] at h1
      rw [List.size_toArray, ← hl]
      exact Option.some.inj h1
    exact subscriptTail_builtinR (x := w) pl.isList.typeIs slot_list_getitem.lookup
      (wpAny_getItem_list_neg (Q := fun r s' => r = w ∧ EP X pins σ Q r s') pl.isList (by omega) (by rw [List.size_toArray] <;> omega) (by omega) (by rw [hj]; simpa using ew) ⟨rfl, fin⟩) hs
theorem ix_tup : IxR X (rIxT X.K) := by
  intro value slice pins s σ H x y v u Q I rx ry h hs
  obtain ⟨p, xs, i, z, rfl, rfl, hq, he, q⟩ := h
  cases rx
  obtain ⟨t, rfl⟩ := ry
  obtain ⟨its, r, pl, hz⟩ := I.tuple hq
  obtain ⟨j, h1, h2, h3, h4, h5⟩ := atI_get he
  obtain ⟨w, ew, rw'⟩ := r.get h2
  have hl := r.length
  have hn := line63
  have fin : EP X pins σ Q w s := ⟨z, H, I, rw', q⟩
  exact subscriptTail_builtinR (x := w) pl.typeIs slot_tuple_getitem.lookup
    (getItem_tuple (j := j) (Q := fun r s' => r = w ∧ EP X pins σ Q r s') pl (by omega) (by omega) (by rw [List.size_toArray, ← hl]; exact h1) (by simpa using ew) ⟨rfl, fin⟩) hs
/-! ### xs[i] = v, any sign -/
/-- the list's object behind a store -/
theorem mapSeq_set (its : List Value) (n j : Nat) (u : Value) : Obj.mapSeq (·.setIfInBounds j u) { cls := .type "list", data := .seq its.toArray n } = { cls := .type "list", data := .seq (its.set j u).toArray n } := by
  simp [Obj.mapSeq]
theorem Inv.lst {pins : List (Addr × Obj)} {σ : St} {H : Hp} {s : Shared} {p : Addr} {xs : List V} (I : Inv X pins σ H s) (h : H p = some (.lst xs)) :
    ∃ (its : List Value) (n : Nat), Vals xs its ∧ s.heap.get? p = some { cls := .type "list", data := .seq its.toArray n } ∧ xs.length ≤ sizeLine := by
  obtain ⟨z, its, n, r, e⟩ := I.hok p _ h
  exact ⟨its, n, r, e, z⟩
/-- the list at p is written by an update of its object -/
theorem Inv.lstUpd {pins : List (Addr × Obj)} {σ : St} {H : Hp} {s : Shared} {p : Addr} {xs ys : List V} {its its' : List Value} {n n' : Nat} {f : Obj → Obj} (I : Inv X pins σ H s) (h : H p = some (.lst xs))
    (ho : s.heap.get? p = some { cls := .type "list", data := .seq its.toArray n }) (hf : f { cls := .type "list", data := .seq its.toArray n } = { cls := .type "list", data := .seq its'.toArray n' }) (r : Vals ys its') (hz : ys.length ≤ sizeLine) (t : Nat) :
    Inv X pins σ (upd H p (.lst ys)) { s with heap := s.heap.update p f, toks := t } := by
  have e : (s.heap.update p f).get? p = some { cls := .type "list", data := .seq its'.toArray n' } := by
    rw [Heap.get?_update_self f ho (by rw [hf] <;> rfl), hf]
  refine I.write (x := p) (e := p) (by rw [h]; trivial) (.inl rfl) (fun b u hb q => (Heap.get?_update_other _ _ (Ne.symm hb)).trans q) ⟨_, e⟩ ?_
  exact ⟨hz, its', n', r, e⟩
def rSetL : V → V → V → Hp → (Hp → Prop) → Prop := fun o i v H Q => ∃ p xs k j, o = .ref p ∧ i = .int k ∧ H p = some (.lst xs) ∧ ixN xs.length k = some j ∧ Q (upd H p (.lst (xs.set j v)))
theorem set_list : PSet X rSetL := by
  intro pins s σ H o i v ov iv u Q I ro ri rv h
  obtain ⟨p, xs, k, j, rfl, rfl, hp, hj, q⟩ := h
  cases ro
  obtain ⟨t, rfl⟩ := ri
  obtain ⟨its, n, r, ho, hz⟩ := I.lst hp
  obtain ⟨h1, h2, h3, h4⟩ := ixN_seq hj
  have hl := r.length
  have hn := line63
  have I' : Inv X pins σ (upd H p (.lst (xs.set j v))) { s with heap := s.heap.update p (Obj.mapSeq (·.setIfInBounds j u)) } :=
    I.lstUpd hp ho (mapSeq_set its n j u) (r.set rv j) (by rw [List.length_set]; exact hz) s.toks
  by_cases h0 : 0 ≤ k
  · have hk : k.toNat = j := by
      rw [seqIndex_of h0 h4] at h1
      exact Option.some.inj h1
    exact PySem.W.ki_setAt ho h0 (by omega) (by rw [List.size_toArray, ← hl]; exact h4) (by rw [hk]; exact ⟨_, I', q⟩)
  · have hk : (k + (its.toArray.size : Int)).toNat = j := by
      rw [seqIndex_neg (by omega) h3] at h1
      rw [List.size_toArray, ← hl]
      exact Option.some.inj h1
    exact PySem.W.ki_setBack ho (by omega) (by rw [List.size_toArray, ← hl]; exact h3) (by omega) (by rw [hk]; exact ⟨_, I', q⟩)

/-! ### slices -/
theorem slice_bounds (lo hi : Option Int) (n : Nat) : (sliceBounds lo hi none n).1 = ((HT.sIx n 0 lo : Nat) : Int) ∧ (sliceBounds lo hi none n).2.1 = ((HT.sIx n n hi : Nat) : Int) ∧ (sliceBounds lo hi none n).2.2 = 1 := by
  refine ⟨?_, ?_, rfl⟩
  · cases lo with
    | none => simp [sliceBounds, HT.sIx]
    | some i =>
      simp only [sliceBounds, HT.sIx, Option.getD_none, show (1 : Int) > 0 by decide, if_true]
      by_cases h : i < 0
      · simp only [h, if_true] <;> omega
      · simp only [h, if_false] <;> omega
  · cases hi with
    | none => simp [sliceBounds, HT.sIx]
    | some i =>
      simp only [sliceBounds, HT.sIx, Option.getD_none, show (1 : Int) > 0 by decide, if_true]
      by_cases h : i < 0
      · simp only [h, if_true] <;> omega
      · simp only [h, if_false] <;> omega
theorem slicePick_cut (its : List Value) (lo hi : Option Int) : slicePick its.toArray lo hi none = ((its.drop (HT.sIx its.length 0 lo)).take (HT.sIx its.length its.length hi - HT.sIx its.length 0 lo)).toArray := by
  obtain ⟨h1, h2, h3⟩ := slice_bounds lo hi its.toArray.size
  unfold slicePick
  rw [h1, h2, h3]
  simp only [sliceRange_one, pick_run, List.size_toArray] <;> rfl
/-- xs[lo:hi] of a list: a new list -/
def rSlL (K : PySem.W.Frag) : V → Option Int → Option Int → Hp → VK → Prop := fun x lo hi H Q => ∃ a xs, x = .ref a ∧ SqL K H a xs ∧ ∀ p, H p = none → Q (.ref p) (upd H p (.lst (cutV xs lo hi)))
theorem sl_list : SlR X (rSlL X.K) := by
  intro pins s σ H x v vl vu lo hi sl Q I rx hs pl pu h
  obtain ⟨a, xs, rfl, hx, q⟩ := h
  cases rx
  obtain ⟨its, r, ht, hz⟩ := I.list hx
  have hlen := r.length
  refine ⟨"list", _, slot_list_getitem.lookup, ht.isList.typeIs, ?_⟩
  refine wpAny_getItem_list_slice ht.isList hs pl pu .none (by simp) ?_ (by rw [List.size_toArray] <;> omega)
  rw [slicePick_cut, ← hlen]
  refine ⟨.ref s.heap.objs.size, _, I.laid (t' := s.toks) (o := .lst (cutV xs lo hi)) (fun b ob q => Heap.get?_push_of_some _ q) (Nat.le_refl _) ?_, rfl, q _ (I.hok.fresh (Nat.le_refl _))⟩
  exact ⟨Nat.le_trans (cutV_length xs lo hi) hz, _, 0, (r.drop (HT.sIx xs.length 0 lo)).take (HT.sIx xs.length xs.length hi - HT.sIx xs.length 0 lo), Heap.get?_push_size _ rfl⟩

/-! ### in, not in: flat items -/
def flatV : V → Bool
  | .non => true
  | .bl _ => true
  | .int _ => true
  | .str _ => true
  | _ => false
/-- == of flat values -/
def eqV : V → V → Bool
  | .non, .non => true
  | .bl a, .bl b => a == b
  | .bl a, .int b => (if a then 1 else 0) == b
  | .int a, .bl b => a == (if b then 1 else 0)
  | .int a, .int b => a == b
  | .str a, .str b => a == b
  | _, _ => false
theorem eqAt_V {A : Around} {s : Shared} {y x : V} {u v : Value} (ry : RelV y u) (rx : RelV x v) (fy : flatV y = true) (fx : flatV x = true) : SeqAt.EqAt A s u v (eqV y x) := by
  cases y with
  | non =>
    cases ry
    cases x with
    | non => cases rx; exact SeqAt.EqAt.same _
    | bl b => cases rx; exact SeqAt.EqAt.none_bool b
    | int b => obtain ⟨t, rfl⟩ := rx; exact SeqAt.EqAt.none_int b t
    | str b => obtain ⟨t, rfl⟩ := rx; exact SeqAt.EqAt.none_str b t
    | _ => exact absurd (show false = true from fx) Bool.false_ne_true
  | bl a =>
    cases ry
    cases x with
    | non => cases rx; exact SeqAt.EqAt.bool_none a
    | bl b => cases rx; exact SeqAt.EqAt.bool_bool a b
    | int b => obtain ⟨t, rfl⟩ := rx; exact SeqAt.EqAt.bool_int a b t
    | str b => obtain ⟨t, rfl⟩ := rx; exact SeqAt.EqAt.bool_str a b t
    | _ => exact absurd (show false = true from fx) Bool.false_ne_true
  | int a =>
    obtain ⟨t', rfl⟩ := ry
    cases x with
    | non => cases rx; exact SeqAt.EqAt.int_none a t'
    | bl b => cases rx; exact SeqAt.EqAt.int_bool a t' b
    | int b => obtain ⟨t, rfl⟩ := rx; exact SeqAt.EqAt.int_int a t' b t
    | str b => obtain ⟨t, rfl⟩ := rx; exact SeqAt.EqAt.int_str a t' b t
    | _ => exact absurd (show false = true from fx) Bool.false_ne_true
  | str a =>
    obtain ⟨t', rfl⟩ := ry
    cases x with
    | non => cases rx; exact SeqAt.EqAt.str_none a t'
    | bl b => cases rx; exact SeqAt.EqAt.str_bool a t' b
    | int b => obtain ⟨t, rfl⟩ := rx; exact SeqAt.EqAt.str_int a t' b t
    | str b => obtain ⟨t, rfl⟩ := rx; exact SeqAt.EqAt.str_str a t' b t
    | _ => exact absurd (show false = true from fx) Bool.false_ne_true
  | _ => exact absurd (show false = true from fy) Bool.false_ne_true
/-! ### len, list(x), tuple(x) of any list or tuple that is read -/
theorem call_len_seq : CallR X (.builtin "len") (fun xs H Q => ∃ p ys, xs = [.ref p] ∧ (SqL X.K H p ys ∨ SqT X.K H p ys) ∧ Q (.int ys.length) H) := by
  intro pins s σ H xs us Q I r h
  obtain ⟨p, ys, rfl, hq, q⟩ := h
  obtain ⟨u, rfl, rx⟩ := vals1 r
  cases rx
  have hn := line63
  rcases hq with hq | hq
  · obtain ⟨its, r', pl, hz⟩ := I.list hq
    have hlen := r'.length
    exact Calls.call_len_list pl.isList (by simp only [List.size_toArray] <;> omega) ⟨.int ys.length, H, I.tok _, ⟨s.toks + 1, by rw [List.size_toArray, hlen]⟩, q⟩
  · obtain ⟨its, r', pl, hz⟩ := I.tuple hq
    have hlen := r'.length
    exact len_tuple pl (by simp only [List.size_toArray] <;> omega) ⟨.int ys.length, H, I.tok _, ⟨s.toks + 1, by rw [List.size_toArray, hlen]⟩, q⟩
theorem call_list_of : CallR X (.type "list") (fun xs H Q => ∃ p ys, xs = [.ref p] ∧ (SqL X.K H p ys ∨ SqT X.K H p ys) ∧ ∀ l, H l = none → Q (.ref l) (upd H l (.lst ys))) := by
  intro pins s σ H xs us Q I r h
  obtain ⟨p, ys, rfl, hq, q⟩ := h
  obtain ⟨u, rfl, rx⟩ := vals1 r
  cases rx
  have fin : ∀ (its : List Value), Vals ys its → ys.length ≤ sizeLine → ∀ (h' : Heap) (c' : Nat), (∀ b o', s.heap.get? b = some o' → h'.get? b = some o') →
      h'.get? s.heap.objs.size = some { cls := .type "list", dict := none, data := .seq its.toArray c', slots := #[] } → EP X pins σ Q (.ref s.heap.objs.size) { s with heap := h' } := fun its r' hz h' c' kp e =>
    ⟨.ref s.heap.objs.size, _, I.laid (t' := s.toks) kp (Nat.le_refl _) (show ObjOk X.prog X.w _ h' _ (.lst ys) from ⟨hz, its, c', r', e⟩), rfl, q _ (I.hok.fresh (Nat.le_refl _))⟩
  rcases hq with hq | hq
  · obtain ⟨its, r', pl, hz⟩ := I.list hq
    have hlen := r'.length
    obtain ⟨o, ho, hc, n, hd⟩ := pl.isList
    exact call_list_seq p (.inl rfl) ho hc hd (fun h' c' kp e => fin its r' hz h' c' kp e) (by simp only [List.size_toArray] <;> omega)
  · obtain ⟨its, r', pl, hz⟩ := I.tuple hq
    have hlen := r'.length
    obtain ⟨o, ho, hc, n, hd⟩ := pl
    exact call_list_seq p (.inr rfl) ho hc hd (fun h' c' kp e => fin its r' hz h' c' kp e) (by simp only [List.size_toArray] <;> omega)
theorem call_tuple_of : CallR X (.type "tuple") (fun xs H Q => ∃ p ys, xs = [.ref p] ∧ ((SqL X.K H p ys ∧ ∀ l, H l = none → Q (.ref l) (upd H l (.tup ys))) ∨ (SqT X.K H p ys ∧ Q (.ref p) H))) := by
  intro pins s σ H xs us Q I r h
  obtain ⟨p, ys, rfl, h⟩ := h
  obtain ⟨u, rfl, rx⟩ := vals1 r
  cases rx
  rcases h with ⟨hq, q⟩ | ⟨hq, q⟩
  · obtain ⟨its, r', pl, hz⟩ := I.list hq
    have hlen := r'.length
    refine call_tuple_list pl.isList (fun h' kp => ?_) (by simp only [List.size_toArray] <;> omega)
    have I1 : Inv X pins σ H { s with heap := h' } := I.kept (t' := s.toks) kp
    have I2 : Inv X pins σ (upd H h'.objs.size (.tup ys)) { s with heap := h'.push { cls := .type "tuple", data := .seq its.toArray } } :=
      I1.laid (t' := s.toks) (fun b o e => Heap.get?_push_of_some _ e) (Nat.le_refl _) (show ObjOk X.prog X.w _ _ _ (.tup ys) from ⟨hz, its, r', IsTup.new _ _⟩)
    exact ⟨.ref h'.objs.size, _, I2, rfl, q _ (I1.hok.fresh (Nat.le_refl _))⟩
  · obtain ⟨its, r', pl, hz⟩ := I.tuple hq
    exact call_tuple_same pl ⟨.ref p, H, I, rfl, q⟩

/-! ### the call of a builtin's method: o.m(..) -/
/-- the value is of that builtin type -/
def tyV (K : PySem.W.Frag) (T : String) (x : V) (H : Hp) : Prop := match x with
  | .str _ => T = "str"
  | .int _ => T = "int"
  | .ref p => (T = "list" ∧ ∃ xs, SqL K H p xs) ∨ (T = "tuple" ∧ ∃ o, K.lookup p = some o ∧ o.cls = .type "tuple" ∧ o.dict = none) ∨
      (T = "dict" ∧ ((∃ kvs, H p = some (.dK kvs)) ∨ ∃ kvs, H p = some (.dT kvs))) ∨ (T = "set" ∧ ∃ S n, H p = some (.set S n))
  | _ => False
theorem tyV_is {pins : List (Addr × Obj)} {σ : St} {H : Hp} {s : Shared} {T : String} {x : V} {v : Value} (I : Inv X pins σ H s) (r : RelV x v) (ty : tyV X.K T x H) :
    s.TypeIs v T ∧ ∀ a, v = .ref a → ∃ ob, s.heap.get? a = some ob ∧ ob.dict = none := by
  cases x with
  | str z =>
    obtain ⟨t, rfl⟩ := r
    cases (show T = "str" from ty)
    exact ⟨typeIs_str s z t, fun _ e => nomatch e⟩
  | int i =>
    obtain ⟨t, rfl⟩ := r
    cases (show T = "int" from ty)
    exact ⟨typeIs_int s i t, fun _ e => nomatch e⟩
  | ref p =>
    cases r
    rcases ty with ⟨rfl, xs, hq⟩ | ⟨rfl, o, hk, hc, hd⟩ | ⟨rfl, hk⟩ | ⟨rfl, S, n, hk⟩
    · obtain ⟨its, _, pl, _⟩ := I.list hq
      refine ⟨pl.isList.typeIs, fun a e => ?_⟩
      cases e
      obtain ⟨o, n, e, c, hd, _⟩ := pl
      exact ⟨o, e, hd⟩
    · refine ⟨⟨o, I.kIn p o hk, hc⟩, fun a e => ?_⟩
      cases e
      exact ⟨o, I.kIn _ o hk, hd⟩
    · have z : ∃ o, s.heap.get? p = some o ∧ o.ExactDict := by
        rcases hk with ⟨kvs, hk⟩ | ⟨kvs, hk⟩
        · obtain ⟨_, _, _, _, o, _, _, e, ex, _⟩ := I.hok p _ hk
          exact ⟨o, e, ex⟩
        · obtain ⟨_, _, _, _, o, _, _, e, ex, _⟩ := I.hok p _ hk
          exact ⟨o, e, ex⟩
      obtain ⟨o, e, ex⟩ := z
      refine ⟨⟨o, e, ex.1⟩, fun a e2 => ?_⟩
      cases e2
      exact ⟨o, e, ex.2.1⟩
    · obtain ⟨o, _, _, _, e, ex, _⟩ := I.hok p _ hk
      refine ⟨⟨o, e, ex.1⟩, fun a e2 => ?_⟩
      cases e2
      exact ⟨o, e, ex.2.1⟩
  | _ => exact False.elim ty
def tBM (K : PySem.W.Frag) (T : String) (r : V → List V → Hp → VK → Prop) (to : TE) (t : TA) : TE := fun σ H Q => to σ H fun x H1 => tyV K T x H1 ∧ t σ H1 fun xs H2 => r x xs H2 Q
variable {o e : Expr} {es : List Expr} {to : TE} {t : TA} {name : Str} {apos cpos : Pos} {T id : String} {r : V → List V → Hp → VK → Prop}
theorem pe_bm (pa : PlainAttrs T) (slot : Slot T name id) (hty : typeOf (.builtin id) = pure (.type "method_descriptor")) (hm : MtR X id r) (ho : PE X o to) (ha : PA X (e :: es) t)
    (hbase : attributeBase o name X.env (eval o X.env) = eval o X.env := by rfl)
    (hfew : ((backTo cpos (starEach (e :: es) X.env)).all (fun x => !x.1) && (backToKw cpos (keywordEach [] X.env)).all (fun x => x.1.isSome)
      && decide ((e :: es).length + ([] : List Keyword).length + (if ([] : List Keyword).isEmpty then 0 else 1) < 30)) = true := by rfl)
    (hline : (apos.endLine == cpos.line) = true := by rfl) (hs : starEach (e :: es) X.env = (false, eval e X.env) :: starEach es X.env := by rfl) (hplain : (backTo cpos (starEach es X.env)).any (·.1) = false := by rfl) :
    PE X (.Call (.Attribute o name apos) (e :: es) [] cpos) (tBM X.K T r to t) := by
  intro pins s σ H Q I h
  refine wpAny_Call_method_late hbase hfew hline rfl (thn (ho pins s σ H _ I h) fun v s1 ⟨x, H1, I1, r1, ty, q1⟩ => ?_)
  obtain ⟨h1, h2⟩ := tyV_is I1 r1 ty
  refine ⟨T, id, pa, slot, hty, h1, h2, ?_⟩
  have hA := ha cpos pins s1 σ H1 _ I1 q1
  rw [hs] at hA ⊢
  refine Calls.callWith_builtin (by show (false || (backTo cpos (starEach es X.env)).any (·.1)) = false; rw [hplain] <;> rfl) (Calls.evalArgs_plain ?_)
  exact thn hA fun us s2 ⟨vs, H2, I2, r2, q2⟩ => hm pins s2 σ H2 x vs v us Q I2 r1 r2 q2
/- xs.append(e), list.index on a module's tuple .. are MtR facts of 06m -/
end
end L2

namespace L2
open PySem PySem.Spec PyProof.Rows

def MtM (X : Cx) (id : String) (r : V → List V → Hp → VK → Prop) : Prop :=
  ∀ (pins : List (Addr × Obj)) (s : Shared) (σ : St) (H : Hp) (x : V) (xs : List V) (v : Value) (us : List Value) (Q : VK), Inv X pins σ H s → RelV x v → Vals xs us → r x xs H Q →
    wpAny (model X.prog X.w) X.A (call (.builtin id) (v :: us)) (EP X pins σ Q) X.xe s

/-! ### lists of values -/
theorem Vals.one : ∀ {x : V} {us : List Value}, Vals [x] us → ∃ u, us = [u] ∧ RelV x u
  | _, _, .cons r .nil => ⟨_, rfl, r⟩
theorem Vals.rep {xs : List V} {us : List Value} (h : Vals xs us) : ∀ k : Nat, Vals (List.replicate k xs).flatten (List.replicate k us).flatten
  | 0 => .nil
  | k + 1 => by
    rw [List.replicate_succ, List.replicate_succ, List.flatten_cons, List.flatten_cons]
    exact Vals.append h (Vals.rep h k)
theorem foldl_rep (its : List Value) : ∀ (k : Nat) (acc : List Value),
    List.foldl (fun x1 x2 => x1 ++ x2) acc.toArray (List.replicate k its.toArray) = (acc ++ (List.replicate k its).flatten).toArray
  | 0, acc => by simp
  | k + 1, acc => by
    have e : acc.toArray ++ its.toArray = (acc ++ its).toArray := by simp
    have e2 : (acc ++ its) ++ (List.replicate k its).flatten = acc ++ (List.replicate (k + 1) its).flatten := by
      rw [List.replicate_succ, List.flatten_cons, List.append_assoc]
    rw [← e2, ← foldl_rep its k (acc ++ its), ← e, List.replicate_succ, List.foldl_cons]

section
variable {X : Cx} {pins : List (Addr × Obj)} {σ : St} {H : Hp} {s : Shared} {l b : Addr} {xs ys zs : List V}

/-! ### the two steps: a tracked list is rewritten, a new list is laid -/
theorem Inv.lset {its its' : List Value} {n : Nat} {f : Array Value → Array Value} {t' : Nat} (I : Inv X pins σ H s) (hH : H l = some (.lst xs))
    (e : s.heap.get? l = some { cls := .type "list", data := .seq its.toArray n }) (hf : f its.toArray = its'.toArray) (hv : Vals ys its') (hz : ys.length ≤ sizeLine) :
    Inv X pins σ (upd H l (.lst ys)) { s with heap := s.heap.update l (Obj.mapSeq f), toks := t' } := by
  have q := PySem.IsL.update e f
  rw [hf] at q
  refine I.write (x := l) (e := l) (by rw [hH]; exact trivial) (.inl rfl) (fun b' u hb hu => (Heap.get?_update_other s.heap (Obj.mapSeq f) (Ne.symm hb)).trans hu) ⟨_, q⟩ ?_
  exact ⟨hz, its', _, hv, q⟩
theorem Inv.lnew {its : List Value} {t' : Nat} (I : Inv X pins σ H s) (hv : Vals ys its) (hz : ys.length ≤ sizeLine) :
    Inv X pins σ (upd H s.heap.objs.size (.lst ys)) { s with heap := s.heap.push { cls := .type "list", data := .seq its.toArray }, toks := t' } :=
  I.laid (fun _ _ q => Heap.get?_push_of_some _ q) (Nat.le_refl _) ⟨hz, its, 0, hv, Heap.get?_push_size _ rfl⟩
theorem Inv.fresh (I : Inv X pins σ H s) : H s.heap.objs.size = none := I.hok.fresh (Nat.le_refl _)
theorem Inv.lstM (I : Inv X pins σ H s) (hH : H l = some (.lst xs)) : xs.length ≤ sizeLine ∧ ∃ (its : List Value) (n : Nat), Vals xs its ∧ xs.length = its.length ∧ s.heap.get? l = some { cls := .type "list", data := .seq its.toArray n } := by
  obtain ⟨z, its, n, r, e⟩ := I.hok l _ hH
  exact ⟨z, its, n, r, r.length, e⟩

theorem notLongL {n : Nat} (h : n ≤ sizeLine) : Builtin.List.listTooLong n = false := by
  unfold Builtin.List.listTooLong
  exact decide_eq_false (by omega)
end

section
variable {X : Cx}

/-! ### methods -/
def rAppend : V → List V → Hp → VK → Prop := fun x vs H Q => ∃ l xs y, x = .ref l ∧ vs = [y] ∧ H l = some (.lst xs) ∧ xs.length < sizeLine ∧ Q .non (upd H l (.lst (xs ++ [y])))
theorem mt_append : MtM X "list.append" rAppend := by
  intro pins s σ H x vs v us Q I rx rv h
  obtain ⟨l, xs, y, rfl, rfl, hH, hz, q⟩ := h
  cases rx
  obtain ⟨u, rfl, ru⟩ := rv.one
  obtain ⟨z, its, n, r, hl, e⟩ := I.lstM hH
  refine call_meets F.slot_list_append ⟨_, e, rfl⟩ F.entry_list_append (F.args_list_append_2 _ _) (PySem.list_append l its.toArray n u (by rw [List.size_toArray]; omega)) ⟨e, ?_⟩
  refine ⟨.non, _, I.lset (its' := its ++ [u]) hH e (by simp) (r.append (.cons ru .nil)) ?_, rfl, q⟩
  rw [List.length_append, List.length_singleton]
  omega

def rExtend : V → List V → Hp → VK → Prop := fun x vs H Q => ∃ l b xs zs, x = .ref l ∧ vs = [.ref b] ∧ H l = some (.lst xs) ∧ H b = some (.lst zs) ∧ xs.length + zs.length ≤ sizeLine ∧ Q .non (upd H l (.lst (xs ++ zs)))
theorem mt_extend : MtM X "list.extend" rExtend := by
  intro pins s σ H x vs v us Q I rx rv h
  obtain ⟨l, b, xs, zs, rfl, rfl, hH, hB, hz, q⟩ := h
  cases rx
  obtain ⟨u, rfl, ru⟩ := rv.one
  cases ru
  obtain ⟨z, its, n, r, hl, e⟩ := I.lstM hH
  obtain ⟨z2, its2, n2, r2, hl2, e2⟩ := I.lstM hB
  have hsz : its.toArray.size + its2.toArray.size ≤ sizeLine := by rw [List.size_toArray, List.size_toArray]; omega
  have hlong : ¬ (!its.toArray.isEmpty && Builtin.List.listTooLong (its.toArray.size + its2.toArray.size)) = true := by
    rw [notLongL hsz, Bool.and_false]
    exact Bool.false_ne_true
  refine call_meets F.slot_list_extend ⟨_, e, rfl⟩ F.entry_list_extend (F.args_list_extend_2 _ _)
    (AutoSeq1.list_extend_list_list_0 l its.toArray n b its2.toArray n2 hlong (by rw [List.size_toArray]; omega) (by omega)) ⟨e, e2, ?_⟩
  refine ⟨.non, _, I.lset (its' := its ++ its2) hH e (by simp) (r.append r2) ?_, rfl, q⟩
  rw [List.length_append]
  omega

/-! ### list + list, list += list, list * int -/
def rCat : R2 := fun x y H Q => ∃ l b xs zs, x = .ref l ∧ y = .ref b ∧ H l = some (.lst xs) ∧ H b = some (.lst zs) ∧ xs.length + zs.length ≤ sizeLine ∧ ∀ p, H p = none → Q (.ref p) (upd H p (.lst (xs ++ zs)))
theorem op_cat : OpR X (binaryOp .Add) rCat := by
  intro pins s σ H x y v u Q I rx ry h
  obtain ⟨l, b, xs, zs, rfl, rfl, hH, hB, hz, q⟩ := h
  cases rx
  cases ry
  obtain ⟨z, its, n, r, hl, e⟩ := I.lstM hH
  obtain ⟨z2, its2, n2, r2, hl2, e2⟩ := I.lstM hB
  refine PySem.P.add_list e e2 ?_ (by rw [List.size_toArray, List.size_toArray]; omega)
  have ea : its.toArray ++ its2.toArray = (its ++ its2).toArray := by simp
  rw [ea]
  exact ⟨.ref _, _, I.lnew (t' := s.toks) (r.append r2) (by rw [List.length_append]; omega), rfl, q _ I.fresh⟩
/-- a list times an int (a negative one is nothing) -/
def rRep : R2 := fun x y H Q => ∃ l k xs, x = .ref l ∧ y = .int k ∧ H l = some (.lst xs) ∧ -(2 ^ 63) ≤ k ∧ k < 2 ^ 63 ∧ xs.length * k.toNat ≤ sizeLine ∧
  ∀ p, H p = none → Q (.ref p) (upd H p (.lst (List.replicate k.toNat xs).flatten))
theorem len_rep {α : Type} (xs : List α) (k : Nat) : (List.replicate k xs).flatten.length = k * xs.length := by
  induction k with
  | zero => simp
  | succ k ih => rw [List.replicate_succ, List.flatten_cons, List.length_append, ih, Nat.succ_mul, Nat.add_comm]
theorem op_rep : OpR X (binaryOp .Mult) rRep := by
  intro pins s σ H x y v u Q I rx ry h
  obtain ⟨l, k, xs, rfl, rfl, hH, h1, h2, hz, q⟩ := h
  cases rx
  obtain ⟨t, rfl⟩ := ry
  obtain ⟨z, its, n, r, hl, e⟩ := I.lstM hH
  have hlen : its.toArray.size * k.toNat ≤ sizeLine := by rw [List.size_toArray, ← hl]; exact hz
  have hcap : ¬ its.toArray.size * k.toNat > (2 ^ 63 - 1) / 8 := by
    have : (sizeLine : Nat) ≤ (2 ^ 63 - 1) / 8 := by decide
    omega
  have hfit : ¬ (!Builtin.List.listFitsIndex k) = true := by
    rw [fitsIndex_both h1 h2]
    exact Bool.false_ne_true
  have hlong : ¬ Builtin.List.listTooLong (its.toArray.size * k.toNat) = true := by
    rw [notLongL hlen]
    exact Bool.false_ne_true
  have hnew : List.foldl (fun x1 x2 => x1 ++ x2) #[] (List.replicate (if its.toArray.isEmpty = true then 0 else k.toNat) its.toArray) = (List.replicate k.toNat its).flatten.toArray := by
    have f0 : ∀ m : Nat, List.foldl (fun x1 x2 => x1 ++ x2) #[] (List.replicate m its.toArray) = (List.replicate m its).flatten.toArray := fun m => by
      have := foldl_rep its m []
      rw [List.nil_append] at this
      exact this
    rw [f0]
    cases its with
    | nil => simp
    | cons a r' => rw [if_neg (by simp)]
  refine wpAny_binaryOp_repeat_ref (T := "list") (U := "int") (by decide) ⟨_, e, rfl⟩ (fun s' => typeIs_int s' k t) noFill_list_mul F.fills_int_mul F.slot_int_rmul repeat_list F.slot_int_index.lookup
    (call_meets F.slot_int_rmul (typeIs_int s k t) F.entry_int_rmul (F.args_int_rmul_2 _ _) (int___rmul___int_list k t l its.toArray n)
      ⟨e, rfl, ⟨_, e, rfl⟩, call_meets F.slot_list_mul ⟨_, e, rfl⟩ F.entry_list_mul (F.args_list_mul_2 _ _) (AutoListH.list___mul___list_int_3 l its.toArray n k t hfit hcap hlong) ⟨e, ?_⟩⟩)
  rw [hnew]
  exact ⟨.ref _, _, I.lnew (t' := s.toks) (r.rep k.toNat) (by rw [len_rep, Nat.mul_comm]; exact hz), rfl, q _ I.fresh⟩

/-! ### del xs[i] -/
end

/-! ### xs[a:b] = ys -/
section
variable {prog : Program} {w : World} {A : Around} {E : Value → Shared → Prop} {s : Shared}
end

section
variable {X : Cx}
end
end L2
namespace L2
open PySem PySem.Spec PyProof.Rows

/-! ### lists of pairs as tables -/
section
variable {κ : Type} [DecidableEq κ]
def valV (kvs : List (κ × V)) (k : κ) : Option V := (kvs.find? fun kv => decide (kv.1 = k)).map (·.2)
/-- in its place, or at the end -/
def putK (kvs : List (κ × V)) (k : κ) (v : V) : List (κ × V) :=
  if (kvs.any fun kv => decide (kv.1 = k)) = true then kvs.map (fun kv => if kv.1 = k then (kv.1, v) else kv) else kvs ++ [(k, v)]
theorem valV_pos {p : κ × V} {r : List (κ × V)} {k : κ} (e : p.1 = k) : valV (p :: r) k = some p.2 := by simp [valV, List.find?_cons, e]
theorem valV_neg {p : κ × V} {r : List (κ × V)} {k : κ} (e : ¬ p.1 = k) : valV (p :: r) k = valV r k := by simp [valV, List.find?_cons, e]
theorem valV_any (k : κ) : ∀ kvs : List (κ × V), (kvs.any fun kv => decide (kv.1 = k)) = (valV kvs k).isSome
  | [] => rfl
  | p :: r => by
    rw [List.any_cons]
    by_cases e : p.1 = k
    · simp only [valV_pos e, decide_eq_true e, Bool.true_or, Option.isSome_some]
    · rw [valV_neg e, decide_eq_false e, Bool.false_or]; exact valV_any k r
theorem length_putK (kvs : List (κ × V)) (k : κ) (v : V) : (putK kvs k v).length ≤ kvs.length + 1 := by
  unfold putK
  split
  · rw [List.length_map]; omega
  · rw [List.length_append, List.length_cons, List.length_nil]; omega
theorem RelO.isSome_eq {o : Option V} {u : Option Value} (r : RelO o u) : o.isSome = u.isSome := by
  cases o with
  | none => cases u with
    | none => rfl
    | some _ => exact (show False from r).elim
  | some _ => cases u with
    | none => exact (show False from r).elim
    | some _ => rfl
/-- raw tables of the same keys -/
theorem KV.val {kvs : List (κ × V)} {vs : List (κ × Value)} (r : KV kvs vs) (k : κ) : RelO (valV kvs k) (valueAt vs k) := by
  unfold KV at r
  induction r with
  | nil => exact True.intro
  | @cons p q ps qs h t ih =>
    obtain ⟨h1, h2⟩ := h
    by_cases e : p.1 = k
    · have e' : q.1 = k := h1.symm.trans e
      have b : valueAt (q :: qs) k = some q.2 := by simp [valueAt, List.find?_cons, e']
      rw [valV_pos e, b]; exact h2
    · have e' : ¬ q.1 = k := fun z => e (h1.trans z)
      have b : valueAt (q :: qs) k = valueAt qs k := by simp [valueAt, List.find?_cons, e']
      rw [valV_neg e, b]; exact ih
theorem KV.any {kvs : List (κ × V)} {vs : List (κ × Value)} (r : KV kvs vs) (k : κ) : (kvs.any fun kv => decide (kv.1 = k)) = vs.any fun kv => decide (kv.1 = k) := by
  unfold KV at r
  induction r with
  | nil => rfl
  | cons h t ih => rw [List.any_cons, List.any_cons, ih, h.1]
theorem KV.repl {kvs : List (κ × V)} {vs : List (κ × Value)} (r : KV kvs vs) (k : κ) {y : V} {u : Value} (ry : RelV y u) :
    KV (kvs.map fun kv => if kv.1 = k then (kv.1, y) else kv) (vs.map fun kv => if kv.1 = k then (kv.1, u) else kv) := by
  unfold KV at r ⊢
  induction r with
  | nil => exact .nil
  | @cons p q ps qs h t ih =>
    rw [List.map_cons, List.map_cons]
    refine .cons ?_ ih
    obtain ⟨h1, h2⟩ := h
    by_cases e : p.1 = k
    · rw [if_pos e, if_pos (h1.symm.trans e)]; exact ⟨h1, ry⟩
    · rw [if_neg e, if_neg (fun z => e (h1.trans z))]; exact ⟨h1, h2⟩
theorem KV.put {kvs : List (κ × V)} {vs : List (κ × Value)} (r : KV kvs vs) (k : κ) {y : V} {u : Value} (ry : RelV y u) : KV (putK kvs k y) (stored vs k u) := by
  unfold putK stored
  rw [r.any k]
  by_cases e : (vs.any fun kv => decide (kv.1 = k)) = true
  · rw [if_pos e, if_pos e]; exact r.repl k ry
  · rw [if_neg e, if_neg e]; exact Paired.snoc r ⟨rfl, ry⟩
theorem KV.length {kvs : List (κ × V)} {vs : List (κ × Value)} (r : KV kvs vs) : kvs.length = vs.length := Paired.length r
end


/-! ### a tracked dict, its keys ints and texts or tuples of these -/
theorem kV_is {P : Program} {w : World} {k : Key} {u : Value} (r : RelV (kV k) u) : (mixKind P w).is k u = true := by
  cases k with
  | inl i => obtain ⟨t, e⟩ := (show ∃ t, u = Value.int i t from r); subst e; exact mixKind_int P w i t
  | inr x => obtain ⟨t, e⟩ := (show ∃ t, u = Value.str x t from r); subst e; exact mixKind_str P w x t
theorem items_are {P : Program} {w : World} : ∀ {ks : List Key} {us : List Value}, Vals (ks.map kV) us → ItemsAre (mixKind P w) ks us
  | [], _, r => by rw [List.map_nil] at r; cases r; exact .nil
  | k :: ks, _, r => by
    rw [List.map_cons] at r
    cases r with
    | cons h t => exact .cons (kV_is h) (items_are t)

/-- raw entries of a dict with tuple keys -/
abbrev KT (H : Hp) : List (List Key × V) → List (List Key × Addr × Value) → Prop := Paired fun p q => p.1 = q.1 ∧ H q.2.1 = some (.tup (p.1.map kV)) ∧ RelV p.2 q.2.2
theorem KT.val {H : Hp} {kvs : List (List Key × V)} {xs : List (List Key × Addr × Value)} (r : KT H kvs xs) (k : List Key) : RelO (valV kvs k) ((atKey xs k).map (·.2)) := by
  induction r with
  | nil => exact True.intro
  | @cons p q ps qs h t ih =>
    obtain ⟨h1, _, h2⟩ := h
    by_cases e : p.1 = k
    · have e' : q.1 = k := h1.symm.trans e
      have b : atKey (q :: qs) k = some q.2 := by simp [atKey, List.find?_cons, e']
      rw [valV_pos e, b]; exact h2
    · have e' : ¬ q.1 = k := fun z => e (h1.trans z)
      have b : atKey (q :: qs) k = atKey qs k := by simp [atKey, List.find?_cons, e']
      rw [valV_neg e, b]; exact ih
theorem KT.repl {H : Hp} {kvs : List (List Key × V)} {xs : List (List Key × Addr × Value)} (r : KT H kvs xs) (k : List Key) {y : V} {u : Value} (ry : RelV y u) :
    KT H (kvs.map fun kv => if kv.1 = k then (kv.1, y) else kv) (xs.map (putAt k u)) := by
  induction r with
  | nil => exact .nil
  | @cons p q ps qs h t ih =>
    rw [List.map_cons, List.map_cons]
    refine .cons ?_ ih
    obtain ⟨h1, h2, h3⟩ := h
    unfold putAt
    by_cases e : p.1 = k
    · rw [if_pos e, if_pos (h1.symm.trans e)]; exact ⟨h1, h2, ry⟩
    · rw [if_neg e, if_neg (fun z => e (h1.trans z))]; exact ⟨h1, h2, h3⟩
theorem KT.put {H : Hp} {kvs : List (List Key × V)} {xs : List (List Key × Addr × Value)} (r : KT H kvs xs) (k : List Key) {b : Addr} {y : V} {u : Value} (hb : H b = some (.tup (k.map kV))) (ry : RelV y u) :
    KT H (putK kvs k y) (storedH xs k b u) := by
  have e : (kvs.any fun kv => decide (kv.1 = k)) = (atKey xs k).isSome := by
    rw [valV_any, (r.val k).isSome_eq, Option.isSome_map]
  unfold putK storedH
  rw [e]
  by_cases q : (atKey xs k).isSome = true
  · rw [if_pos q, if_pos q]; exact r.repl k ry
  · rw [if_neg q, if_neg q]; exact Paired.snoc r ⟨rfl, hb, ry⟩
theorem KT.keeps {H H' : Hp} {kvs : List (List Key × V)} {xs : List (List Key × Addr × Value)} (r : KT H kvs xs) (ht : ∀ b ys, H b = some (.tup ys) → H' b = some (.tup ys)) : KT H' kvs xs :=
  Paired.mapP r fun _ _ z => ⟨z.1, ht _ _ z.2.1, z.2.2⟩

section
variable {P : Program} {w : World} {H : Hp} {h : Heap} {a : Addr}
theorem rd_of {u : HO} (ok : HOk P w H h) (e : Rd H a u) : ObjOk P w H h a u := e.ok ok
theorem dk_rd {kvs : List (Key × V)} (ok : HOk P w H h) (e : Rd H a (.dK kvs)) : kvs.length ≤ sizeLine ∧ (a == sysModules) = false ∧ ∃ vs, KV kvs vs ∧ h.DictOf (mixKind P w) a vs :=
  show ObjOk P w H h a (.dK kvs) from rd_of ok e
theorem dk_of {kvs : List (Key × V)} (ok : HOk P w H h) (e : H a = some (.dK kvs)) : kvs.length ≤ sizeLine ∧ (a == sysModules) = false ∧ ∃ vs, KV kvs vs ∧ h.DictOf (mixKind P w) a vs := dk_rd ok (.inl e)
/-- a tracked tuple of ints and texts is a key -/
theorem key_of {ks : List Key} (ok : HOk P w H h) (e : H a = some (.tup (ks.map kV))) : (tupleKind (mixKind P w)).is h ks a := by
  obtain ⟨_, its, r, o, h1, h2, n, h3⟩ := (show ObjOk P w H h a (.tup (ks.map kV)) from ok a _ e)
  exact ⟨o, its.toArray, n, h1, h2, h3, by simpa using items_are r⟩
theorem dt_rd {kvs : List (List Key × V)} (ok : HOk P w H h) (e : Rd H a (.dT kvs)) : kvs.length ≤ sizeLine ∧ (a == sysModules) = false ∧
    ∃ xs, KT H kvs xs ∧ h.DictOfH (tupleKind (mixKind P w)) a xs := by
  obtain ⟨z, y, xs, r, o, es, ep, h1, h2, h3, h4, h5⟩ := (show ObjOk P w H h a (.dT kvs) from rd_of ok e)
  refine ⟨z, y, xs, r, o, es, ep, h1, h2, h3, h4, fun x hx => ?_, h5⟩
  have all : ∀ {l : List (List Key × V)} {m : List (List Key × Addr × Value)}, KT H l m → ∀ x ∈ m, (tupleKind (mixKind P w)).is h x.1 x.2.1 := by
    intro l m q
    induction q with
    | nil => intro x hx; exact nomatch hx
    | @cons p q ps qs hq t ih =>
      intro x hx
      rcases List.mem_cons.mp hx with e | hx
      · subst e
        exact key_of ok (by rw [← hq.1]; exact hq.2.1)
      · exact ih x hx
  exact all r x hx
theorem dt_of {kvs : List (List Key × V)} (ok : HOk P w H h) (e : H a = some (.dT kvs)) : kvs.length ≤ sizeLine ∧ (a == sysModules) = false ∧
    ∃ xs, KT H kvs xs ∧ h.DictOfH (tupleKind (mixKind P w)) a xs := dt_rd ok (.inl e)
end

/-- what the dict at a holds at the key y -/
def DGet (H : Hp) (a : Addr) (y : V) (r : Option V) : Prop :=
  (∃ kvs k, Rd H a (.dK kvs) ∧ y = kV k ∧ r = valV kvs k) ∨ ∃ kvs k b, Rd H a (.dT kvs) ∧ y = .ref b ∧ H b = some (.tup (k.map kV)) ∧ r = valV kvs k
/-- the heap behind a[y] = v -/
def DPut (H : Hp) (a : Addr) (y v : V) (H' : Hp) : Prop :=
  (∃ kvs k, H a = some (.dK kvs) ∧ y = kV k ∧ kvs.length < sizeLine ∧ H' = upd H a (.dK (putK kvs k v))) ∨
  ∃ kvs k b, H a = some (.dT kvs) ∧ y = .ref b ∧ H b = some (.tup (k.map kV)) ∧ kvs.length < sizeLine ∧ H' = upd H a (.dT (putK kvs k v))
theorem DGet.k {H : Hp} {a : Addr} {kvs : List (Key × V)} {k : Key} (e : H a = some (.dK kvs)) : DGet H a (kV k) (valV kvs k) := .inl ⟨kvs, k, .inl e, rfl, rfl⟩
theorem DPut.k {H : Hp} {a : Addr} {kvs : List (Key × V)} {k : Key} {v : V} (e : H a = some (.dK kvs)) (hl : kvs.length < sizeLine) : DPut H a (kV k) v (upd H a (.dK (putK kvs k v))) := .inl ⟨kvs, k, e, rfl, hl, rfl⟩
section
variable {X : Cx} {pins : List (Addr × Obj)} {σ : St} {H : Hp} {s : Shared} {a : Addr} {y v : V} {u r : Value} {o : Option V} {A : Around} {E : Value → Shared → Prop}

theorem Inv.big (I : Inv X pins σ H s) : sysModules < s.heap.objs.size := by
  have h : mainGlobals < s.heap.objs.size := (I.mod.glob.keeps I.bk).lt
  exact Nat.lt_trans (by decide) h

/-- d[y], there -/
theorem d_getItem {Q : Value → Shared → Prop} (hu : A.units + 1 < cLine) (I : Inv X pins σ H s) (g : DGet H a y (some v)) (ry : RelV y u) (h : ∀ w' s', Inv X pins σ H s' → RelV v w' → Q w' s') :
    wpAny (model X.prog X.w) A (getItem (.ref a) u) Q E s := by
  rcases g with ⟨kvs, k, e, ey, l⟩ | ⟨kvs, k, b, e, ey, eb, l⟩
  · subst ey
    obtain ⟨z, hd, vs, rel, dd⟩ := dk_rd I.hok e
    obtain ⟨w', hw, rw'⟩ := RelO.some_of (v := v) (o := valueAt vs k) (by rw [l]; exact rel.val k)
    exact wpAny_getItem_of (kV_is ry) dd.mapOf hw (h w' _ (I.tok _) rw')
  · subst ey
    cases (show u = Value.ref b from ry)
    obtain ⟨z, hd, xs, rel, dd⟩ := dt_rd I.hok e
    obtain ⟨w', hw, rw'⟩ := RelO.some_of (v := v) (o := (atKey xs k).map (·.2)) (by rw [l]; exact rel.val k)
    obtain ⟨p, hp, hp2⟩ := Option.map_eq_some_iff.mp hw
    refine wpAny_getItem_heap (tupleKind_room_in1 hu) (key_of I.hok eb) dd hp ?_
    rw [hp2]
    exact h w' _ (I.tok _) rw'
/-- a dict's object is replaced -/
theorem d_write {h' : Heap} {t' : Nat} {ob : HO} (I : Inv X pins σ H s) (mu : Mut (H a)) (hs : Heap.SameBut a s.heap h') (he : ∃ q, h'.get? a = some q) (new : ObjOk X.prog X.w (upd H a ob) h' a ob) :
    Inv X pins σ (upd H a ob) { s with heap := h', toks := t' } :=
  I.write (x := a) (e := a) mu (.inl rfl) (fun b q hb z => (hs.2 b hb).trans z) he new
theorem dk_new {P : Program} {w : World} {H' : Hp} {h' : Heap} {kvs : List (Key × V)} {vs : List (Key × Value)} (z : kvs.length ≤ sizeLine) (hd : (a == sysModules) = false) (rel : KV kvs vs) (dd : h'.DictOf (mixKind P w) a vs) :
    ObjOk P w H' h' a (.dK kvs) := ⟨z, hd, vs, rel, dd⟩
/-- d[y] = v -/
theorem d_setItem {H' : Hp} {Q : Unit → Shared → Prop} (hu : A.units + 1 < cLine) (I : Inv X pins σ H s) (g : DPut H a y v H') (ry : RelV y u) (rv : RelV v r) (h : ∀ s', Inv X pins σ H' s' → Q () s') :
    wpAny (model X.prog X.w) A (setItem (.ref a) u r) Q E s := by
  rcases g with ⟨kvs, k, e, ey, l, eH⟩ | ⟨kvs, k, b, e, ey, eb, l, eH⟩
  · subst ey eH
    obtain ⟨z, hd, vs, rel, dd⟩ := dk_of I.hok e
    have hz : vs.length ≤ sizeLine := by rw [← rel.length]; exact z
    have hl : (putK kvs k v).length ≤ sizeLine := by have := length_putK kvs k v; omega
    refine wpAny_setItem_pairs (hsz := hz) (kV_is ry) dd fun h' dd' hs => h _ ?_
    have he : ∃ q, h'.get? a = some q := let ⟨q, _, _, hq, _⟩ := dd'; ⟨q, hq⟩
    exact d_write I (by rw [e]; exact True.intro) hs he (dk_new hl hd (rel.put k rv) dd')
  · subst ey eH
    cases (show u = Value.ref b from ry)
    obtain ⟨z, hd, xs, rel, dd⟩ := dt_of I.hok e
    have hz : xs.length ≤ sizeLine := by rw [← Paired.length rel]; exact z
    have hl : (putK kvs k v).length ≤ sizeLine := by have := length_putK kvs k v; omega
    refine wpAny_setItem_heap (hsz := hz) (tupleKind_room_in1 hu) (key_of I.hok eb) dd fun h' dd' hs => h _ ?_
    obtain ⟨q, es, ep, hq, h2, h3, h4, _, h5⟩ := dd'
    refine d_write I (by rw [e]; exact True.intro) hs ⟨q, hq⟩ ⟨hl, hd, _, (rel.put k eb rv).keeps fun c ys ec => ?_, q, es, ep, hq, h2, h3, h4, h5⟩
    rw [upd_ne (ne_of ec e (fun z => nomatch z))]
    exact ec
end

section
variable {X : Cx} {pins : List (Addr × Obj)} {σ : St} {H : Hp} {s : Shared} {a : Addr} {kvs : List (Key × V)} {k : Key} {u : Value} {A : Around} {E : Value → Shared → Prop}
end


/-! ### readings and rules -/
/-- the element of a subscription, not a slice -/
def NoSl (i : Expr) : Prop := ∀ ov iv, subscripted i false ov iv = operate [ov, iv] (getItem ov iv)
theorem subD_of {prog : Program} {w : World} {A : Around} {E : Value → Shared → Prop} {s : Shared} {env : Env} {value slice : Expr} {pos : Pos} {T id : String} {Q : Value → Shared → Prop}
    (hl : typeLookup (.type T) "__getitem__" = pure (some (.builtin id))) (hs : NoSl slice)
    (h : wpAny (model prog w) A (eval value env) (fun o s₁ => wpAny (model prog w) A (eval slice env) (fun i s₂ => s₂.TypeIs o T ∧ wpAny (model prog w) A (getItem o i) Q E s₂) E s₁) E s) :
    wpAny (model prog w) A (eval (.Subscript value slice pos) env) Q E s := by
  refine Subscript_ (wpAny_mono h (fun o s₁ h₁ => wpAny_mono h₁ (fun i s₂ h₂ => ?_) fun _ _ x => x) fun _ _ x => x)
  obtain ⟨hT, h₂⟩ := h₂
  unfold subscriptTail
  refine wpAny_bind ?_
  rw [getitemInPython_of_ne hT.not_modules]
  refine wpAny_bind (wpAny_specialOf hT hl ?_)
  have fin : wpAny (model prog w) A (subscripted slice false o i) (fun r s₃ => wpAny (model prog w) A (letTemporaryGo value o r >>= fun _ => pure r) Q E s₃) E s₂ := by
    rw [hs o i]
    exact wpAny_operating (wpAny_mono h₂ (fun r s₃ h₃ => wpAny_bind (wpAny_letTemporaryGo (wpAny_pure h₃))) fun _ _ x => x)
  first
    | exact wpAny_pure (wpAny_bind fin)
    | exact wpAny_bind (wpAny_pure (wpAny_bind fin))
    | exact wpAny_bind fin

theorem dict_typeIs {X : Cx} {pins : List (Addr × Obj)} {σ : St} {H : Hp} {s : Shared} {a : Addr} {y : V} {o : Option V} (I : Inv X pins σ H s) (g : DGet H a y o) : s.TypeIs (.ref a) "dict" := by
  rcases g with ⟨kvs, k, e, _, _⟩ | ⟨kvs, k, b, e, _, _, _⟩
  · obtain ⟨_, _, vs, _, dd⟩ := dk_rd I.hok e
    exact dd.typeIs
  · obtain ⟨_, _, xs, _, dd⟩ := dt_rd I.hok e
    exact dd.typeIs
/-- d[y] -/
def tDGet (td ty : TE) : TE := fun σ H Q => td σ H fun x H1 => ty σ H1 fun y H2 => ∃ a v, x = .ref a ∧ DGet H2 a y (some v) ∧ Q v H2
/-- d[y] = v -/
def sDPut (td ty tv : TE) : TS := fun D σ H => tv σ H fun v H1 => td σ H1 fun x H2 => ty σ H2 fun y H3 => ∃ a H4, x = .ref a ∧ DPut H3 a y v H4 ∧ D.nx σ H4
section
variable {X : Cx} {o i e value : Expr} {pos pos' tpos : Pos} {td ty tv : TE}
theorem pe_dget (hu : X.A.units + 1 < cLine) (ho : PE X o td) (hi : PE X i ty) (hs : NoSl i) : PE X (.Subscript o i pos) (tDGet td ty) := by
  intro pins s σ H Q I h
  refine subD_of PySem.F.slot_dict_getitem.lookup hs (thn (ho pins s σ H _ I h) fun u s1 ⟨x, H1, I1, rx, q1⟩ => thn (hi pins s1 σ H1 _ I1 q1) fun iv s2 ⟨y, H2, I2, ry, a, v, ex, g, q2⟩ => ?_)
  subst ex
  obtain rfl : u = Value.ref a := rx
  exact ⟨dict_typeIs I2 g, d_getItem hu I2 g ry fun w' s3 I3 rw' => ⟨v, H2, I3, rw', q2⟩⟩
theorem ps_dput (hu : X.A.units + 1 < cLine) (ho : PE X o td) (hi : PE X i ty) (hv : PE X value tv) (hs : swapsWith value (some (.Subscript o i pos')) pos.line X.env = pure false) :
    PS X (.Assign [.Subscript o i pos'] value pos) (sDPut td ty tv) := by
  intro pins s σ H D I h
  refine wpAny_Assign_Subscript (thn (hv pins s σ H _ I h) fun r s1 ⟨v, H1, I1, rv, q1⟩ => thn (ho pins s1 σ H1 _ I1 q1) fun u s2 ⟨x, H2, I2, rx, q2⟩ => thn (hi pins s2 σ H2 _ I2 q2) fun iv s3 ⟨y, H3, I3, ry, a, H4, ex, g, q3⟩ => ?_) hs
  subst ex
  obtain rfl : u = Value.ref a := rx
  exact d_setItem hu I3 g ry rv fun s4 I4 => ⟨σ, H4, I4, q3⟩
end


/-! ### displays -/
theorem dk_empty {P : Program} {w : World} {H : Hp} (h : Heap) (hb : sysModules < h.objs.size) : ObjOk P w H (h.push { cls := .type "dict", data := .dict #[] }) h.objs.size (.dK []) :=
  ⟨Nat.zero_le _, beq_eq_false_iff_ne.mpr (Ne.symm (Nat.ne_of_lt hb)), [], .nil, Heap.DictOf.new h⟩
section
variable {X : Cx} {pos : Pos}
end

/-- the pairs of a display, from the left -/
def tPairs : List (TE × TE) → St → Hp → (List (V × V) → Hp → Prop) → Prop
  | [], _, H, Q => Q [] H
  | (tk, tv) :: r, σ, H, Q => tk σ H fun x H1 => tv σ H1 fun y H2 => tPairs r σ H2 fun ps H3 => Q ((x, y) :: ps) H3
abbrev VV : List (V × V) → List (Value × Value) → Prop := Paired fun p q => RelV p.1 q.1 ∧ RelV p.2 q.2
def PPs (X : Cx) (pos : Pos) (keys : List (Option Expr)) (values : List Expr) (trs : List (TE × TE)) : Prop :=
  ∀ (pins : List (Addr × Obj)) (s : Shared) (σ : St) (H : Hp) (Q : List (V × V) → Hp → Prop), Inv X pins σ H s → tPairs trs σ H Q →
    wpAny (model X.prog X.w) X.A (evalPairs (pairTrees keys values X.env pos)) (fun vs s' => ∃ ps H', Inv X pins σ H' s' ∧ VV ps vs ∧ Q ps H') X.xe s
theorem pps_nil {X : Cx} {pos : Pos} : PPs X pos [] [] [] := fun pins s σ H Q I h => pairTrees_nil_walk ⟨[], H, I, .nil, h⟩
theorem pps_cons {X : Cx} {pos : Pos} {k v : Expr} {ks : List (Option Expr)} {vs : List Expr} {tk tv : TE} {trs : List (TE × TE)} (hk : PE X k tk) (hv : PE X v tv) (hr : PPs X pos ks vs trs) :
    PPs X pos (some k :: ks) (v :: vs) ((tk, tv) :: trs) := fun pins s σ H Q I h =>
  pairTrees_cons_walk (thn (hk pins s σ H _ I h) fun u s1 ⟨x, H1, I1, rx, q1⟩ => thn (hv pins s1 σ H1 _ I1 q1) fun w2 s2 ⟨y, H2, I2, ry, q2⟩ =>
    thn (hr pins s2 σ H2 _ I2 q2) fun ws s3 ⟨ps, H3, I3, rel, q3⟩ => ⟨(x, y) :: ps, H3, I3, .cons ⟨rx, ry⟩ rel, q3⟩)

def mergeK (kvs more : List (Key × V)) : List (Key × V) := more.foldl (fun acc kv => putK acc kv.1 kv.2) kvs
theorem KV.merge : ∀ {more : List (Key × V)} {rs : List (Key × Value)} {kvs : List (Key × V)} {vs : List (Key × Value)}, KV more rs → KV kvs vs → KV (mergeK kvs more) (merged vs rs) := by
  intro more rs kvs vs r
  unfold KV at r
  induction r generalizing kvs vs with
  | nil => intro q; exact q
  | @cons p q ps qs h t ih =>
    intro r0
    have e : KV (putK kvs p.1 p.2) (stored vs q.1 q.2) := by
      have := r0.put p.1 h.2
      rw [← h.1]; exact this
    exact ih e
theorem length_mergeK : ∀ (more kvs : List (Key × V)), (mergeK kvs more).length ≤ kvs.length + more.length
  | [], kvs => by show kvs.length ≤ kvs.length + 0; omega
  | p :: r, kvs => by
    have h1 := length_mergeK r (putK kvs p.1 p.2)
    have h2 := length_putK kvs p.1 p.2
    show (mergeK (putK kvs p.1 p.2) r).length ≤ _
    rw [List.length_cons]; omega
theorem carries_of {P : Program} {w : World} : ∀ {kvs : List (Key × V)} {ws : List (Value × Value)}, VV (kvs.map fun kv => (kV kv.1, kv.2)) ws → ∃ rs, Carries (mixKind P w) ws rs ∧ KV kvs rs
  | [], _, r => by rw [List.map_nil] at r; cases r; exact ⟨[], True.intro, .nil⟩
  | p :: kvs, _, r => by
    rw [List.map_cons] at r
    cases r with
    | @cons a b as bs h t =>
      obtain ⟨rs, c, q⟩ := carries_of (P := P) (w := w) t
      obtain ⟨b1, b2⟩ := b
      exact ⟨(p.1, b2) :: rs, ⟨kV_is h.1, rfl, c⟩, .cons ⟨rfl, h.2⟩ q⟩
/-- {k: v, ..} with keys ints and texts; the new dict stands empty while the pairs are made -/
def tDisp (trs : List (TE × TE)) : TE := fun σ H Q => ∀ p, H p = none → tPairs trs σ (upd H p (.dK [])) fun ps H2 => H2 p = some (.dK []) ∧ ∃ kvs : List (Key × V), ps = kvs.map (fun kv => (kV kv.1, kv.2)) ∧ kvs.length ≤ 15 ∧ Q (.ref p) (upd H2 p (.dK (mergeK [] kvs)))
theorem pe_disp {X : Cx} {pos : Pos} {keys : List (Option Expr)} {values : List Expr} {trs : List (TE × TE)} (h : PPs X pos keys values trs) (hall : keys.all (·.isSome) = true) (hl : keys.length = values.length) (h0 : keys ≠ [])
    (h15 : keys.length ≤ 15) : PE X (.Dict keys values pos) (tDisp trs) := by
  intro pins s σ H Q I q
  have hn := I.hok.fresh (Nat.le_refl s.heap.objs.size)
  have I1 := I.laid (a := s.heap.objs.size) (o := .dK []) (h' := s.heap.push { cls := .type "dict", data := .dict #[] }) (t' := s.toks) (fun _ _ q => Heap.get?_push_of_some _ q) (Nat.le_refl _) (dk_empty s.heap I.big)
  refine wpAny_Dict_walk (knd := mixKind X.prog X.w) hall hl h0 h15 (thn (h pins _ σ _ _ I1 (q _ hn)) fun ws s2 ⟨ps, H2, I2, rel, e, kvs, ep, lk, q2⟩ => ?_)
  subst ep
  obtain ⟨rs, c, rk⟩ := carries_of (P := X.prog) (w := X.w) rel
  obtain ⟨z, hd, vs0, r0, dd⟩ := dk_of I2.hok e
  cases r0
  refine ⟨rs, c, dd, fun h' dd' hs => ⟨.ref s.heap.objs.size, _, ?_, rfl, q2⟩⟩
  have hz : (mergeK [] kvs).length ≤ sizeLine := by
    have h1 := length_mergeK kvs []
    rw [List.length_nil] at h1
    rw [sizeLine_eq]; omega
  have he : ∃ q, h'.get? s.heap.objs.size = some q := let ⟨q, _, _, hq, _⟩ := dd'; ⟨q, hq⟩
  exact d_write I2 (by rw [e]; exact True.intro) hs he (dk_new hz hd (rk.merge .nil) dd')


/-! ### methods -/
section
variable {X : Cx} {pins : List (Addr × Obj)} {σ : St} {H : Hp} {s : Shared} {a : Addr} {y d : V} {u r : Value} {o : Option V} {A : Around} {E : Value → Shared → Prop}
end

section
variable {X : Cx} {o e f : Expr} {apos cpos : Pos} {td ty tx : TE}
end

/-! ### dict(d): a copy -/
section
variable {X : Cx} {pins : List (Addr × Obj)} {σ : St} {H : Hp} {s : Shared} {a : Addr} {kvs : List (Key × V)} {A : Around} {E : Value → Shared → Prop}
end


section
variable {X : Cx} {pins : List (Addr × Obj)} {σ : St} {H : Hp} {s : Shared} {a : Addr} {y : V} {u : Value} {A : Around} {E : Value → Shared → Prop}
end
end L2

namespace Att
open PySem PySem.W PySem.Calls PyProof.Rows

/-! ### the script -/
theorem ints_of_wellAll {P : Params} {h : Heap} : ∀ (ns : List Int) (vs : List Value), WellAll P h vs (ns.map WData.int) → IntsAre vs ns := by
  intro ns
  induction ns with
  | nil =>
    intro vs w
    rw [List.map_nil] at w
    cases w
    exact .nil
  | cons n ns ih =>
    intro vs w
    rw [List.map_cons] at w
    cases w with
    | cons a b =>
      cases a
      exact .cons _ _ (ih _ b)

theorem script_of {l : OpenLaw} {n : Nat} (hn : l.most = some n) {P : Params} {h : Heap} {args : List WData} {vals : List Value}
    (hpre : l.row.toRowW.claim.pre args = true) (hwl : WellAll P h vals args) :
    ∃ a vs ns, vals = [Value.ref a] ∧ args = [WData.list (ns.map WData.int)] ∧ h.get? a = some { cls := .type "list", data := .seq vs.toArray } ∧ IntsAre vs ns ∧ ns.length ≤ n := by
  have hsh : WShape.hasAll [] args [.list .int] = true := (pre_splitW hpre).1
  have hc : l.pre.holds [] { args := args } = true := (pre_splitW hpre).2
  obtain ⟨d, r, rfl, h1, h2⟩ := hasAllW_cons hsh
  obtain rfl := hasAllW_nil h2
  obtain ⟨xs, rfl, h3⟩ := hasW_list h1
  obtain ⟨ns, rfl⟩ := items_int h3
  have hlen : ns.length ≤ n := by
    unfold OpenLaw.pre at hc
    have h4 : (WTm.not (.lt (.lit (.int (n : Int))) (.len (.arg 0)))).holds [] { args := [.list (ns.map .int)] } = true := by
      have h4 := (holds_andW hc).1
      rw [hn] at h4
      exact h4
    have h5 := condW_of h4 (w_not (w_lt w_lit (w_len_list (w_arg rfl))))
    rw [List.length_map] at h5
    refine Nat.le_of_not_lt fun q => ?_
    have q' : (n : Int) < ((ns.length : Nat) : Int) := by omega
    first
      | (rw [decide_eq_true q'] at h5; exact absurd h5 (by decide))
      | (simp at h5; omega)
  cases hwl with
  | cons w1 w2 =>
    cases w2
    cases w1 with
    | list ho hall => exact ⟨_, _, ns, rfl, rfl, ho, ints_of_wellAll ns _ hall, hlen⟩

theorem post_true (l : OpenLaw) (args : List WData) : l.row.toRowW.claim.post args (.bool true) args = true :=
  postW_of (r := l.row.toRowW) (X := (true == true))
    (show WShape.has [] (.bool true) .bool = true by first | rfl | decide | simp [WShape.has, WShape.arms, WShape.armsAll])
    (show (WTm.eq .res (.lit (.bool true))).value [] { args := args, res := some (.bool true), after := args } = some (.bool (true == true)) from w_eq_bool (w_res rfl) w_lit) rfl

/-! ### the attachment: holds_open's last premise (the goal 'hc' behind k_head) from a wpAny of the law's body -/
/-- the same from a codeAny of the CALL (for a layer whose function contracts speak of calls) -/
theorem attach_call {l : OpenLaw} {n : Nat} {q : Program} {loose : List Str} {XP : (Str → Option Value) → Heap → Prop} {YP : World → Heap → Prop} {d : DefRec}
    (hn : l.most = some n) (hdf : d.params.defaults = [])
    (call : ∀ (w : World) (s₀ s₁ : Shared) (mg mb : Str → Option Value) (fa : Addr) (o : Obj) (pm cd doc : Value) (a : Addr) (vs : List Value) (ns : List Int),
      Ground q loose [] XP w s₀ mg mb s₁.heap → YP w s₁.heap →
      s₁.heap.get? fa = some o → o.data = .func (docDef d.name d.params d.body d.scope pm cd doc) → s₁.heap.CodeRec cd d.name → mg d.name = some (.ref fa) →
      s₁.heap.get? a = some { cls := .type "list", data := .seq vs.toArray } → IntsAre vs ns → ns.length ≤ n → s₁.gens = #[] →
      codeAny (model l.prog w) callerA (.call (.ref fa) ⟨[.ref a], []⟩) (fun r s' => r = .ok (.ret (.bool true)) ∧ OldK s₁.heap s'.heap ∧ s'.os = s₁.os ∧ AllBare s'.gens) s₁) :
    WalkO q loose XP YP l.row.toRowW d [] (fun f vs => PySem.call f vs) := by
  intro w s₀ s₁ mg mb G Y fa o pm cd doc dV kV ho hd hcd hD hmg hg args vals as hpre hlay hrd hwl hlo
  obtain rfl : dV = .none := Dflts.none hD hdf
  obtain rfl : kV = .none := Dflts.noKw hD
  obtain ⟨a, vs, ns, rfl, rfl, hobj, hints, hlen⟩ := script_of hn hpre hwl
  refine enter_call (codeAny_mono (call w s₀ s₁ mg mb fa o pm cd doc a vs ns G Y ho (fd_plain hd) hcd hmg hobj hints hlen hg) fun r s' hq => ?_)
  obtain ⟨rfl, h2, h3, h4⟩ := hq
  exact ⟨.inl ⟨.bool true, .bool true, [], rfl, fun _ => rfl, .bool true, post_true l _, fun _ => ⟨List.Pairwise.nil, fun _ hm => (nomatch hm)⟩⟩, h2, h3, h4⟩

/-! ### rules over ANY heap (no ledger) from facts about the written part K: the library's own take a ledger (News) for what they write -/
section
variable {prog : Program} {w : World} {A : Around} {E : Value → Shared → Prop} {s : Shared} {K : Frag}

/-! the whole heap as the ledger: makes every rule that writes through a ledger a rule over any heap -/
end
end Att

namespace L2
open PySem PySem.Spec PyProof.Rows

theorem vals_ints : ∀ {vs : List Value} {ns : List Int}, IntsAre vs ns → Vals (ns.map V.int) vs
  | _, _, .nil => .nil
  | _, _, .cons n t h => .cons ⟨t, rfl⟩ (vals_ints h)

/-- nothing is tracked but the script, known to the object (or it is an object of the module) -/
def Only (H : Hp) : Prop := ∀ b, H b = none ∨ ∃ o xs, H b = some (.frz o (.lst xs))

/-- THE HEAD: the law's promise, at the heap behind the top. F, the promise of the law's def, may use that base is part of the heap (so K.In base, base.Ns mainGlobals mg stand in Mod) -/
theorem law_call {P : Program} {w : World} {K : PySem.W.Frag} {mg mb : Str → Option Value} {CX : CXT} {k : Nat} {fa a : Addr} {fd : FuncData} {x : Str} {sp : Sp} {s₁ : Shared} {vs : List Value} {ns : List Int}
    (KX : K.In s₁.heap) (hns : s₁.heap.Ns mainGlobals mg) (hb : s₁.heap.Ns builtinsNs mb) (hbb : ∀ x : Str, x ≠ "__name__" → mb x = bootBuiltins x) (hlim : s₁.heap.NoLimit) (hg : s₁.gens = #[])
    (ha : s₁.heap.get? a = some { cls := .type "list", data := .seq vs.toArray }) (hi : IntsAre vs ns) (hl : ns.length ≤ sizeLine) (hr : Room k callerA)
    (F : ∀ base : Heap, K.In base → base.Ns mainGlobals mg → FnOk P w K mg base CX k fa fd [x] sp) (hbind : ∀ (s : Shared) (u : Value), BindsTo s fd ⟨[u], []⟩ [(x, u)])
    (hsp : ∀ H : Hp, Only H → SqL K H a (ns.map V.int) → sp [.ref a] H (fun v _ => v = .bl true) fun _ _ _ => False)
    (hCX : ∀ H e s', CX [] H s₁ (fun _ _ _ => False) e s' → False) :
    codeAny (model P w) callerA (.call (.ref fa) ⟨[.ref a], []⟩) (fun r s' => r = .ok (.ret (.bool true)) ∧ OldK s₁.heap s'.heap ∧ s'.os = s₁.os ∧ AllBare s'.gens) s₁ := by
  have rv := vals_ints hi
  have lenV := hi.length
  -- from an abstract heap in which nothing but the script may be tracked
  have core : ∀ H : Hp, Only H → SqL K H a (ns.map V.int) → HOk P w H s₁.heap → (∀ b, H b ≠ none → b = a) → (H a ≠ none → K.lookup a = none) →
      codeAny (model P w) callerA (.call (.ref fa) ⟨[.ref a], []⟩) (fun r s' => r = .ok (.ret (.bool true)) ∧ OldK s₁.heap s'.heap ∧ s'.os = s₁.os ∧ AllBare s'.gens) s₁ := by
    intro H hO hS hok hA hK
    have base_of : ∀ {b : Addr} {o : Obj}, s₁.heap.get? b = some o → H b = none → (hidT s₁.heap H).get? b = some o := fun e n => hidT_get e n
    have noA : ∀ {b : Addr} {o : Obj} {es : Array DictEntry} {ep : Nat}, s₁.heap.get? b = some o → o.data = .dict es ep → H b = none := fun {b o es ep} e d => by
      cases q : H b with
      | none => rfl
      | some u =>
        have e' : b = a := hA b (by rw [q]; simp)
        subst e'
        rw [ha] at e; cases e
        have d' : Data.seq vs.toArray _ = Data.dict es ep := d
        cases d'
    have nsK : ∀ {b : Addr} {m : Str → Option Value}, s₁.heap.Ns b m → (hidT s₁.heap H).Ns b m := fun {b m} ⟨o, es, ep, e, d, r⟩ => ⟨o, es, ep, base_of e (noA e d), d, r⟩
    have hKb : K.In (hidT s₁.heap H) := fun b o e => base_of (KX b o e) (by
      cases q : H b with
      | none => rfl
      | some u =>
        have e' : b = a := hA b (by rw [q]; simp)
        subst e'
        rw [hK (by rw [q]; simp)] at e; cases e)
    have hM : Mod K mg (hidT s₁.heap H) := ⟨hKb, nsK hns, ⟨mb, nsK hb, hbb⟩, let ⟨mc, h1, h2⟩ := hlim; ⟨mc, nsK h1, h2⟩⟩
    have e0 : Env0 P w K mg (hidT s₁.heap H) callerA [] s₁ H := ⟨rfl, hM, fun b o e => of_hidT e, Nat.le_of_eq (hidT_size _ _), trivial, fun b hb => absurd (show b ∈ ([] : List Addr) from hb) (by simp), hok, .of_eq hg⟩
    refine codeAny_mono ((F _ hKb (nsK hns)).run callerA [] s₁ H ⟨[.ref a], []⟩ [.ref a] [.ref a] _ _ hr e0 (hbind s₁ (.ref a)) (.cons rfl .nil) (hsp H hO hS)) fun r s' h => ?_
    cases r with
    | error e => exact (hCX H e s' h).elim
    | ok fl =>
      cases fl with
      | next => exact False.elim h
      | brk => exact False.elim h
      | cont => exact False.elim h
      | ret u =>
        obtain ⟨v, H', os, bare, un, hok', r', q⟩ := h
        have q' : v = .bl true := q
        subst q'
        obtain rfl : u = Value.bool true := r'
        refine ⟨rfl, OldK.of_keep fun b o e => ?_, os, bare⟩
        cases q : H b with
        | none => exact un.keep b o e q (by intro z; exact absurd (show b ∈ ([] : List Addr) from z) (by simp)) (by simp)
        | some u =>
          rcases hO b with z | ⟨ob, xs, z⟩
          · rw [q] at z; cases z
          · have z2 := un.frzs b ob _ z
            obtain ⟨e1, _⟩ := hok b _ z
            obtain ⟨e2, _⟩ := hok' b _ z2
            rw [e] at e1; cases e1
            exact e2
  cases hk : K.lookup a with
  | some o =>
    -- the script is one of the module's own objects
    have e := KX a o hk
    rw [ha] at e
    cases e
    refine core (fun _ => none) (fun _ => .inl rfl) (.inr ⟨_, vs.toArray, _, hk, rfl, rfl, rfl, by rw [List.size_toArray, lenV]; exact hl, by simpa using rv⟩) (fun b u z => by have z' : (none : Option HO) = some u := z; cases z') (fun b z => absurd rfl z) fun z => absurd rfl z
  | none =>
    refine core (fun b => if b = a then some (.frz { cls := .type "list", data := .seq vs.toArray } (.lst (ns.map V.int))) else none) (fun b => ?_) (.inl (.inr ⟨{ cls := .type "list", data := .seq vs.toArray }, if_pos rfl⟩)) (fun b u z => ?_) (fun b z => ?_) fun _ => hk
    · by_cases hb : b = a
      · exact .inr ⟨_, _, if_pos hb⟩
      · exact .inl (if_neg hb)
    · by_cases hb : b = a
      · have z' := (if_pos hb).symm.trans z
        cases z'
        subst hb
        exact ⟨ha, by rw [List.length_map]; exact hl, vs, _, rv, ha⟩
      · have z' := (if_neg hb).symm.trans z
        cases z'
    · by_cases hb : b = a
      · exact hb
      · exact absurd (if_neg hb) z
end L2

namespace L2
open PySem PySem.Spec PyProof.Rows

abbrev KOf {K : PySem.W.Frag} {h : Heap} (_ : K.In h) : PySem.W.Frag := K

/-- the goal that k_head leaves (case hc), from the law's promise. F gives the function object fd (K's own) once, then the promise over every base -/
theorem walk_of {l : PySem.W.OpenLaw} {n k : Nat} {q : Program} {loose : List Str} {XP : (Str → Option Value) → Heap → Prop} {YP : World → Heap → Prop} {d : DefRec} {K : Params → PySem.W.Frag} {CX : World → CXT} {sp : World → Sp} {x : Str}
    (hn : l.most = some n) (hn2 : n ≤ sizeLine) (hdf : d.params.defaults = []) (hr : Room k callerA)
    (hY : ∀ (w : World) (h : Heap), YP w h → (K w.params).In h)
    (F : ∀ (w : World) (mg : Str → Option Value) (fa : Addr) (h : Heap), (K w.params).In h → h.Ns mainGlobals mg → mg d.name = some (.ref fa) →
      ∃ fd : FuncData, (∀ (s : Shared) (u : Value), BindsTo s fd ⟨[u], []⟩ [(x, u)]) ∧
        ∀ base : Heap, (K w.params).In base → base.Ns mainGlobals mg → FnOk l.prog w (K w.params) mg base (CX w) k fa fd [x] (sp w))
    (hsp : ∀ (w : World) (H : Hp) (a : Addr) (ns : List Int), ns.length ≤ n → Only H → SqL (K w.params) H a (ns.map V.int) → sp w [.ref a] H (fun v _ => v = .bl true) fun _ _ _ => False)
    (hCX : ∀ (w : World) (H : Hp) (s : Shared) (e : Value) (s' : Shared), CX w [] H s (fun _ _ _ => False) e s' → False) :
    PySem.W.WalkO q loose XP YP l.row.toRowW d [] (fun f vs => PySem.call f vs) := by
  refine Att.attach_call hn hdf fun w s₀ s₁ mg mb fa o pm cd doc a vs ns G Y ho hd hcd hmg hobj hints hlen hg => ?_
  have KX := hY w _ Y
  obtain ⟨fd, hb, hF⟩ := F w mg fa _ KX G.T.g hmg
  exact law_call KX G.T.g G.T.b G.T.builtins G.T.nolimit hg hobj hints (Nat.le_trans hlen hn2) hr hF hb (fun H hO hS => hsp w H a ns hlen hO hS) fun H e s' => hCX w H s₁ e s'
end L2

/- THE LAST THEOREM (shape; LID, My.* are yours):
   My.Adr: a structure of the addresses that your layer names (classes, functions); My.Txt K t: a structure (Prop) of the equations over K;
   My.txt_mk : {K} {implicit addresses ..} (e1 : nsIn K mainGlobals "law" = some (some (.ref f))) (e2 : K.lookup f = some ⟨oc, od, .func (fnOf "law" "law" params body scope dV kV doc pm an cdv ct), sl⟩) (e3 : codeIn K cdv "law" = true) .. : ∃ t, My.Txt K t

(the tactic k_is has no namespace: write k_is) -/

/-! SHORT WORDS over the layer: a def of the text, its body, what a loop and a test want. -/
namespace L2
open PySem PySem.Spec PyProof.Rows

/-! ### the text by places -/
def defArgs (s : Stmt) : Arguments := match s with
  | .FunctionDef _ a _ _ _ _ _ _ _ _ => a
  | _ => { posonlyargs := [], args := [], vararg := none, kwonlyargs := [], kw_defaults := [], kwarg := none, defaults := [] }
def defBody (s : Stmt) : List Stmt := match s with
  | .FunctionDef _ _ b _ _ _ _ _ _ _ => b
  | _ => []
def defScope (s : Stmt) : Scope := match s with
  | .FunctionDef _ _ _ _ _ _ sc _ _ _ => sc
  | _ => { kind := .function, names := [], isGenerator := false, isCoroutine := false }

/-! ### no exception leaves a def -/
abbrev CX0 : CXT := fun _ _ _ _ _ _ => False
abbrev E0 : XK := fun _ _ _ => False
theorem pass0 {X : Cx} : Passes CX0 X E0 := fun _ _ _ _ _ _ _ h => h.elim

/-! ### a def (or method) of the text as it stands behind the top -/
structure Fun (K : PySem.W.Frag) (x qual : Str) (st : Stmt) (f : Addr) (fd : FuncData) : Prop where
  ex : ∃ (oc : Value) (od : Option Addr) (kV doc pm : Value) (an : Option Addr) (cdv ct : Value) (osl : Array (Option Value)),
    fd = PySem.W.fnOf x qual (defArgs st) (defBody st) (defScope st) .none kV doc pm an cdv ct ∧ K.lookup f = some ⟨oc, od, .func fd, osl⟩ ∧ PySem.W.codeIn K cdv qual = true
  kp : PySem.W.keepIn K (.ref f) = true
section
variable {P : Program} {w : World} {K : PySem.W.Frag} {mg : Str → Option Value} {base : Heap}
/-- THE RULE for a def: its body as a term of rules, and the reading of that term -/
theorem Fun.ok {x qual : Str} {st : Stmt} {f : Addr} {fd : FuncData} {N ps : List Str} {k : Nat} {sp : Sp} (F : Fun K x qual st f fd) (S : FnScope N ps (defScope st)) (len : ∀ vs H Q E, sp vs H Q E → vs.length = ps.length)
    (hbody : ∀ (cdv : Value) (A : Around) (outer : List Env) (s : Shared) (H : Hp) (vs : List V) (Q : VK) (E : XK), Room k (A.deeper (envOfC qual (defScope st) s.heap.objs.size f cdv)) → sp vs H Q E →
      ∃ t, PSs (cxOf CX0 P w K mg base N qual (defScope st) f cdv A outer s H E).nox (defBody st) t ∧ t { nx := fun _ H' => Q .non H', rt := Q } (start N vs) H) : FnOk P w K mg base CX0 (k + 1) f fd ps sp := by
  obtain ⟨oc, od, kV, doc, pm, an, cdv, ct, osl, rfl, lk, hcd⟩ := F.ex
  refine fn_of lk hcd S len fun A outer s H vs Q E hr hsp => ?_
  obtain ⟨t, h, q⟩ := hbody cdv A outer s H vs Q E hr hsp
  exact ⟨t, h.nox, q⟩
/-- how its arguments bind (no defaults): h is «fun _ _ _ _ _ _ us hl => match us, hl with | [_, _], _ => rfl», one _ a parameter -/
theorem Fun.binds {x qual : Str} {st : Stmt} {f : Addr} {fd : FuncData} {ps : List Str} (F : Fun K x qual st f fd)
    (h : ∀ (kV doc pm : Value) (an : Option Addr) (cdv ct : Value) (us : List Value), us.length = ps.length → bindArgs (PySem.W.fnOf x qual (defArgs st) (defBody st) (defScope st) .none kV doc pm an cdv ct) ⟨us, []⟩ = pure (ps.zip us)) : Binds K fd ps [] := by
  obtain ⟨oc, od, kV, doc, pm, an, cdv, ct, osl, rfl, lk, hcd⟩ := F.ex
  exact .all (h kV doc pm an cdv ct)
theorem fun_mk {x qual : Str} {st : Stmt} {f : Addr} {oc : Value} {od an : Option Addr} {osl : Array (Option Value)} {kV doc pm cdv ct : Value} (l : K.lookup f = some ⟨oc, od, .func (PySem.W.fnOf x qual (defArgs st) (defBody st) (defScope st) .none kV doc pm an cdv ct), osl⟩)
    (c : PySem.W.codeIn K cdv qual = true) (k : PySem.W.keepIn K (.ref f) = true) : Fun K x qual st f (PySem.W.fnOf x qual (defArgs st) (defBody st) (defScope st) .none kV doc pm an cdv ct) := ⟨⟨oc, od, kV, doc, pm, an, cdv, ct, osl, rfl, l, c⟩, k⟩
end
theorem hu_of {A : Around} {k : Nat} (hr : Room k A) : A.units + 1 < cLine := Nat.lt_of_le_of_lt (Nat.add_le_add_left (by decide : 1 ≤ 64) _) hr.units
/-! ### expressions in short: the name that stands in the i-th slot -/
section
variable {X : Cx}
theorem pv (i : Nat) {x : Str} {pos : Pos} (hN : X.N[i]? = some x := by rfl) (hv : Vis X.env.scope x := by first | exact Or.inl rfl | exact Or.inr (Or.inl rfl) | exact Or.inr (Or.inr rfl)) (hd : (x == ("__debug__" : Str)) = false := by decide)
    (hcd : (x == ("__classdict__" : Str)) = false := by decide) : PE X (.Name x pos) (tVar i) := pe_var hN hv hd hcd
end

/-! ### tests -/
theorem iteF {A B : Prop} (h : B) : if false = true then A else B := by
  rw [if_neg Bool.false_ne_true]
  exact h
theorem iteT {A B : Prop} (h : A) : if true = true then A else B := by
  rw [if_pos rfl]
  exact h
theorem ite2 {c A B : Prop} [Decidable c] (h1 : c → A) (h2 : ¬ c → B) : if c then A else B := by
  by_cases h : c
  · rw [if_pos h]
    exact h1 h
  · rw [if_neg h]
    exact h2 h
theorem iteNS {c A B : Prop} [Decidable c] (hc : c) (h : B) : if (!decide c) = true then A else B := by
  rw [decide_eq_true hc]
  exact iteF h

/-! ### heaps -/
/-- all that was tracked is as it was -/
def Same (H H' : Hp) : Prop := ∀ b o, H b = some o → H' b = some o
theorem Same.refl (H : Hp) : Same H H := fun _ _ h => h
theorem Same.trans {H H1 H2 : Hp} (a : Same H H1) (b : Same H1 H2) : Same H H2 := fun c o h => b c o (a c o h)
theorem Same.seq {K : PySem.W.Frag} {H H' : Hp} {a : Addr} {xs : List V} (e : Same H H') (h : SqL K H a xs) : SqL K H' a xs := by
  rcases h with (h | ⟨o, h⟩) | h
  · exact .inl (.inl (e _ _ h))
  · exact .inl (.inr ⟨o, e _ _ h⟩)
  · exact .inr h

end L2

namespace L2
open PySem PySem.Spec PyProof.Rows
section
variable {X : Cx}
end
/-! ### a dict's pairs: keys that differ -/
section
variable {κ : Type} [DecidableEq κ]
end

end L2

set_option Elab.async false
set_option linter.all false
set_option maxRecDepth 100000
set_option maxHeartbeats 4000000
namespace L2
open PySem PySem.Spec PyProof.Rows
section
variable {X : Cx}
/-- is True, is not True: two bools -/
theorem op_isB : OpR X (compareOp .Is) (fun x y H Q => ∃ b c, x = .bl b ∧ y = .bl c ∧ Q (.bl (b == c)) H) := by
  intro pins s σ H x y v u Q I rx ry h
  obtain ⟨b, c, rfl, rfl, q⟩ := h
  cases rx
  cases ry
  exact is_bool (fin_bl I q rfl)
theorem op_isnotB : OpR X (compareOp .IsNot) (fun x y H Q => ∃ b c, x = .bl b ∧ y = .bl c ∧ Q (.bl (b != c)) H) := by
  intro pins s σ H x y v u Q I rx ry h
  obtain ⟨b, c, rfl, rfl, q⟩ := h
  cases rx
  cases ry
  exact isnot_bool (fin_bl I q rfl)
/-- == of two tuples of flat values -/
def eqSeq (xs ys : List V) : Bool := (List.range (min xs.length ys.length)).all (fun j => eqV (xs.getD j .non) (ys.getD j .non)) && xs.length == ys.length
theorem getD_of {α : Type} {xs : List α} {d : α} {j : Nat} (h : j < xs.length) : xs.getD j d = xs[j] := by
  rw [List.getD_eq_getElem?_getD, List.getElem?_eq_getElem h]; rfl
theorem all_at {f : V → Bool} {xs : List V} (h : xs.all f = true) {j : Nat} (hj : j < xs.length) : f (xs.getD j .non) = true := by
  rw [getD_of hj]
  exact List.all_eq_true.mp h _ (List.getElem_mem hj)
theorem rel_at {xs : List V} {us : List Value} (r : Vals xs us) {j : Nat} (hj : j < us.toArray.size) : RelV (xs.getD j .non) (us.toArray[j]) := by
  have hl := r.length
  have hj' : j < us.length := by simpa using hj
  have hx : j < xs.length := by omega
  obtain ⟨u, h1, h2⟩ := r.get (i := j) (x := xs[j]) (List.getElem?_eq_getElem hx)
  rw [getD_of hx]
  have : us.toArray[j] = us[j] := by simp
  rw [this]
  rw [List.getElem?_eq_getElem hj'] at h1
  cases h1
  exact h2
def rEqT (K : PySem.W.Frag) : R2 := fun x y H Q => ∃ p q xs ys, x = .ref p ∧ y = .ref q ∧ SqT K H p xs ∧ SqT K H q ys ∧ xs.all flatV = true ∧ ys.all flatV = true ∧ Q (.bl (eqSeq xs ys)) H
def rNeT (K : PySem.W.Frag) : R2 := fun x y H Q => ∃ p q xs ys, x = .ref p ∧ y = .ref q ∧ SqT K H p xs ∧ SqT K H q ys ∧ xs.all flatV = true ∧ ys.all flatV = true ∧ Q (.bl (!eqSeq xs ys)) H
theorem op_eqT (hu : X.A.units < cLine) : OpR X (compareOp .Eq) (rEqT X.K) := by
  intro pins s σ H x y v u Q I rx ry h
  obtain ⟨p, q, xs, ys, rfl, rfl, h1, h2, f1, f2, k⟩ := h
  cases rx
  cases ry
  obtain ⟨us, r1, t1, z1⟩ := I.tuple h1
  obtain ⟨ws, r2, t2, z2⟩ := I.tuple h2
  refine SeqAt.eq_tupleAt (show s.heap.IsTuple p us.toArray from t1) (show s.heap.IsTuple q ws.toArray from t2) hu (fun j a b => ?_) (fin_bl I k ?_) (e := fun j => eqV (xs.getD j .non) (ys.getD j .non))
  · exact eqAt_V (rel_at r1 a) (rel_at r2 b) (all_at f1 (by have := r1.length; have := a; simp at this; omega)) (all_at f2 (by have := r2.length; have := b; simp at this; omega))
  · unfold eqSeq
    rw [List.size_toArray, List.size_toArray, r1.length, r2.length]
theorem op_neT (hu : X.A.units < cLine) : OpR X (compareOp .NotEq) (rNeT X.K) := by
  intro pins s σ H x y v u Q I rx ry h
  obtain ⟨p, q, xs, ys, rfl, rfl, h1, h2, f1, f2, k⟩ := h
  cases rx
  cases ry
  obtain ⟨us, r1, t1, z1⟩ := I.tuple h1
  obtain ⟨ws, r2, t2, z2⟩ := I.tuple h2
  refine PySem.W.cmp_ofNotEq (SeqAt.RcNeAt.tuples (e := fun j => eqV (xs.getD j .non) (ys.getD j .non)) (show s.heap.IsTuple p us.toArray from t1) (show s.heap.IsTuple q ws.toArray from t2) hu (fun j a b => ?_) X.prog X.w X.xe _ (fin_bl I k ?_))
  · exact eqAt_V (rel_at r1 a) (rel_at r2 b) (all_at f1 (by have := r1.length; have := a; simp at this; omega)) (all_at f2 (by have := r2.length; have := b; simp at this; omega))
  · unfold eqSeq
    rw [List.size_toArray, List.size_toArray, r1.length, r2.length]
end
end L2

set_option Elab.async false
set_option linter.all false
set_option maxRecDepth 100000
set_option maxHeartbeats 4000000
namespace L2
open PySem PySem.Spec PyProof.Rows
section
variable {X : Cx}
/-- isinstance(x, T), T a built-in -/
def rIsi (K : PySem.W.Frag) : List V → Hp → VK → Prop := fun xs H Q => ∃ x t T b, xs = [x, .ty T] ∧ TyOf K H x t ∧ PySem.W.kitOne K t (.type T) = some b ∧ Q (.bl b) H
theorem call_isi : CallR X (.builtin "isinstance") (rIsi X.K) := by
  intro pins s σ H xs us Q I r h
  obtain ⟨x, t, T, b, rfl, ty, e, q⟩ := h
  obtain ⟨u, w', rfl, rx, rt⟩ := vals2 r
  obtain rfl : w' = Value.type T := rt
  exact isinst_ok I rx ty e fun tk => ⟨.bl b, H, I.tok _, rfl, q⟩
example (K : PySem.W.Frag) : PySem.W.kitOne K (.type "int") (.type "bool") = some false := by rfl
example (K : PySem.W.Frag) : PySem.W.kitOne K (.type "tuple") (.type "tuple") = some true := by rfl
example (K : PySem.W.Frag) : PySem.W.kitOne K (.type "int") (.type "int") = some true := by rfl
end
/-- a def that may be called by its name -/
structure Cal (P : Program) (w : World) (K : PySem.W.Frag) (mg : Str → Option Value) (base : Heap) (x : Str) (ps : List Str) (k : Nat) (sp : Sp) : Prop where
  ex : ∃ f fd, FnOk P w K mg base CX0 k f fd ps sp ∧ mg x = some (.ref f) ∧ PySem.W.keepIn K (.ref f) = true ∧ Binds K fd ps []
structure FunAt (K : PySem.W.Frag) (mg : Str → Option Value) (x : Str) (ps : List Str) (st : Stmt) : Prop where
  ex : ∃ f fd, Fun K x x st f fd ∧ mg x = some (.ref f) ∧ Binds K fd ps []
theorem FunAt.cal {P : Program} {w : World} {K : PySem.W.Frag} {mg : Str → Option Value} {base : Heap} {x : Str} {ps N : List Str} {st : Stmt} {k : Nat} {sp : Sp} (F : FunAt K mg x ps st) (S : FnScope N ps (defScope st)) (len : ∀ vs H Q E, sp vs H Q E → vs.length = ps.length)
    (hbody : ∀ (f : Addr) (cdv : Value) (A : Around) (outer : List Env) (s : Shared) (H : Hp) (vs : List V) (Q : VK) (E : XK), Room k (A.deeper (envOfC x (defScope st) s.heap.objs.size f cdv)) → sp vs H Q E →
      ∃ t, PSs (cxOf CX0 P w K mg base N x (defScope st) f cdv A outer s H E).nox (defBody st) t ∧ t { nx := fun _ H' => Q .non H', rt := Q } (start N vs) H) : Cal P w K mg base x ps (k + 1) sp := by
  obtain ⟨f, fd, F1, m, b⟩ := F.ex
  exact ⟨f, fd, F1.ok S len (hbody f), m, F1.kp, b⟩
section
variable {X : Cx} {x : Str} {ps : List Str} {k : Nat} {sp : Sp} {e : Expr} {es : List Expr} {t : TA} {p pos : Pos}
theorem cc (c : Cal X.prog X.w X.K X.mg X.base x ps k sp) (hr : Room k X.A) (ha : PA X (e :: es) t) (hg : Gl X x := by rfl) (hd : (x == ("__debug__" : Str)) = false := by decide)
    (hs : starEach (e :: es) X.env = (false, eval e X.env) :: starEach es X.env := by rfl) (hp : (backTo pos (starEach es X.env)).any (·.1) = false := by rfl) : PE X (.Call (.Name x p) (e :: es) [] pos) (tCall sp [] E0 t) := by
  obtain ⟨f, fd, F, m, kp, b⟩ := c.ex
  exact pe_call F hr hg m kp b .nil pass0 ha hd hs hp
end
theorem funAt_mk {K : PySem.W.Frag} {h : Heap} {mg : Str → Option Value} {x : Str} {ps : List Str} {st : Stmt} {f : Addr} {oc : Value} {od an : Option Addr} {osl : Array (Option Value)} {kV doc pm cdv ct : Value} (X : K.In h) (G : h.Ns mainGlobals mg)
    (hb : ∀ (kV doc pm : Value) (an : Option Addr) (cdv ct : Value) (us : List Value), us.length = ps.length → bindArgs (PySem.W.fnOf x x (defArgs st) (defBody st) (defScope st) .none kV doc pm an cdv ct) ⟨us, []⟩ = pure (ps.zip us))
    (a : PySem.W.nsIn K mainGlobals x = some (some (.ref f))) (l : K.lookup f = some ⟨oc, od, .func (PySem.W.fnOf x x (defArgs st) (defBody st) (defScope st) .none kV doc pm an cdv ct), osl⟩)
    (c : PySem.W.codeIn K cdv x = true) (k : PySem.W.keepIn K (.ref f) = true) : FunAt K mg x ps st :=
  let F := fun_mk (st := st) l c k
  ⟨f, _, F, PySem.W.mg_of X G a, F.binds hb⟩

theorem bt_abs : bootBuiltins "abs" = some (.builtin "abs") := by decide +kernel
theorem bt_len : bootBuiltins "len" = some (.builtin "len") := by decide +kernel
theorem bt_isinstance : bootBuiltins "isinstance" = some (.builtin "isinstance") := by decide +kernel
theorem bt_int : bootBuiltins "int" = some (.type "int") := by decide +kernel
theorem bt_bool : bootBuiltins "bool" = some (.type "bool") := by decide +kernel
theorem bt_tuple : bootBuiltins "tuple" = some (.type "tuple") := by decide +kernel
theorem bt_list : bootBuiltins "list" = some (.type "list") := by decide +kernel
/-! ### shares in the heap -/
open MA
theorem same_new {H : Hp} {p : Addr} (h : H p = none) (o : HO) : Same H (upd H p o) := fun b u q => by rw [upd_ne (ne_of_none q h)]; exact q
/-- all but the thing at p is as it was -/
def penL (c : Addr) (a l : Int) : List (Key × V) := [(.inr "cells", .ref c), (.inr "at", .int a), (.inr "left", .int l)]
/-- .. and that thing is a pen that keeps its cells -/
structure SameX (p : Addr) (H H' : Hp) : Prop where
  all : ∀ b o, H b = some o → b ≠ p → H' b = some o
  pen : ∀ c a l, H p = some (.dK (penL c a l)) → ∃ a' l', H' p = some (.dK (penL c a' l'))
theorem SameX.refl (p : Addr) (H : Hp) : SameX p H H := ⟨fun _ _ h _ => h, fun _ a l h => ⟨a, l, h⟩⟩
theorem SameX.trans {p : Addr} {H H1 H2 : Hp} (a : SameX p H H1) (b : SameX p H1 H2) : SameX p H H2 :=
  ⟨fun c o h n => b.all c o (a.all c o h n) n, fun c x l h => let ⟨x', l', h'⟩ := a.pen c x l h; b.pen c x' l' h'⟩
theorem Same.x {p : Addr} {H H' : Hp} (a : Same H H') : SameX p H H' := ⟨fun b o h _ => a b o h, fun _ x l h => ⟨x, l, a _ _ h⟩⟩
theorem SameX.upd {p c : Addr} {H : Hp} {a l a' l' : Int} (h : H p = some (.dK (penL c a l))) : SameX p H (upd H p (.dK (penL c a' l'))) :=
  ⟨fun b o e hb => by rw [upd_ne hb]; exact e, fun c' x y e => by rw [h] at e; cases e; exact ⟨a', l', upd_same⟩⟩
end L2

set_option Elab.async false
set_option linter.all false
set_option maxRecDepth 100000
set_option maxHeartbeats 4000000
namespace L2
open PySem PySem.Spec PyProof.Rows
/-! ### a list comprehension of one clause -/
theorem closure_go {env : Env} : ∀ (ns : List (Str × NameKind)) (cs : List (Str × Addr)), (∀ x ∈ ns, x.2 = .free → ∃ c, env.cells.lookup x.1 = some c) → (∀ x c, cs.lookup x = some c → env.cells.lookup x = some c) →
    ∃ cl, (forIn ns cs (fun (p : Str × NameKind) (r : List (Str × Addr)) => if (p.2 == NameKind.free) = true then (do let c ← cellOf env p.1; pure (ForInStep.yield ((p.1, c) :: r))) else pure (ForInStep.yield r)) : Sem (List (Str × Addr))) = pure cl ∧
      (∀ x c, cl.lookup x = some c → env.cells.lookup x = some c) ∧ (∀ x, (x, NameKind.free) ∈ ns → ∃ c, cl.lookup x = some c) ∧ (∀ x c, cs.lookup x = some c → ∃ c', cl.lookup x = some c')
  | [], cs, _, hcs => ⟨cs, rfl, hcs, fun _ h => (by simp at h), fun x c h => ⟨c, h⟩⟩
  | (n, k) :: r, cs, hall, hcs => by
    by_cases hk : k = .free
    · subst hk
      obtain ⟨c, hc⟩ := hall (n, .free) (by simp) rfl
      have hce : cellOf env n = pure c := by unfold cellOf; rw [hc]
      have hcs' : ∀ x d, ((n, c) :: cs).lookup x = some d → env.cells.lookup x = some d := fun x d h => by
        rw [List.lookup_cons] at h
        cases e : x == n with
        | true => rw [e] at h; cases h; rw [eq_of_beq e]; exact hc
        | false => rw [e] at h; exact hcs x d h
      obtain ⟨cl, e, h1, h2, h3⟩ := closure_go r ((n, c) :: cs) (fun x hx => hall x (by simp [hx])) hcs'
      refine ⟨cl, ?_, h1, fun x hx => ?_, fun x d hd => ?_⟩
      · rw [List.forIn_cons, ← e]
        show (cellOf env n >>= _) >>= _ = _
        rw [hce]
        rfl
      · rcases List.mem_cons.mp hx with z | z
        · cases z
          exact h3 n c (by simp)
        · exact h2 x z
      · cases q : x == n with
        | true => exact h3 x c (by rw [List.lookup_cons, q])
        | false => exact h3 x d (by rw [List.lookup_cons, q]; exact hd)
    · obtain ⟨cl, e, h1, h2, h3⟩ := closure_go r cs (fun x hx => hall x (by simp [hx])) hcs
      refine ⟨cl, ?_, h1, fun x hx => ?_, h3⟩
      · rw [List.forIn_cons, ← e]
        have : (k == NameKind.free) = false := by simpa using hk
        simp only [this, Bool.false_eq_true, if_false]
        rfl
      · rcases List.mem_cons.mp hx with z | z
        · cases z
          exact absurd rfl hk
        · exact h2 x z
theorem closure_of {env : Env} {scope : Scope} (hall : ∀ x ∈ scope.names, x.2 = .free → ∃ c, env.cells.lookup x.1 = some c) :
    ∃ cl, closureFor scope env = pure cl ∧ (∀ x c, cl.lookup x = some c → env.cells.lookup x = some c) ∧ (∀ x, (x, NameKind.free) ∈ scope.names → ∃ c, cl.lookup x = some c) := by
  obtain ⟨cl, e, h1, h2, _⟩ := closure_go (env := env) scope.names [] hall (fun x c h => by simp at h)
  refine ⟨cl, ?_, h1, h2⟩
  simp only [closureFor]
  rw [e]
  rfl
/-- the block of a comprehension -/
def cxComp (X : Cx) (scope : Scope) (N : List Str) (cl : List (Str × Addr)) (C : Addr) (s : Shared) (H : Hp) (ex : List Addr) : Cx :=
  { X with N := N, s₀ := s, H₀ := H, env := compEnvC scope cl C X.env, outer := X.stack, stack := X.stack, ex := ex, fn := fun _ => false, pn := [] }
def PTs (X : Cx) (ifs : List Expr) (t : TT) : Prop :=
  ∀ (pins : List (Addr × Obj)) (s : Shared) (σ : St) (H : Hp) (Q : Bool → Hp → Prop), Inv X pins σ H s → t σ H Q →
    wpAny (model X.prog X.w) X.A (forIn ifs true fun c r => if r = true then do let ok ← isTrue c X.env (eval c X.env); pure (ForInStep.yield ok) else pure (ForInStep.yield r)) (TP X pins σ Q) X.xe s
def tTT : TT := fun _ H Q => Q true H
theorem pts_nil {X : Cx} : PTs X [] tTT := fun pins s σ H Q I h => wpAny_tests_nil ⟨H, I, h⟩
theorem pts_one {X : Cx} {c : Expr} {t : TT} (h : PT X c t) : PTs X [c] t := fun pins s σ H Q I hw => wpAny_tests_one (h pins s σ H Q I hw)
def tComp (σ0 : St → St) (wi : TI) (g : TG) (tc : TT) (te : TE) : TE := fun σ H Q => wi σ H fun J H1 => ∀ p, H1 p = none → ∃ W : Nat → Nat → List V → St → Hp → Prop, (∃ m, W 0 m [] (σ0 σ) (upd H1 p (.lst []))) ∧ ∀ i m ys σ' H', W i m ys σ' H' →
  (J.stop i H' ∧ Q (.ref p) H') ∨ (J.go i H' ∧ ∀ x H2, J.yld i H' x H2 → g x σ' H2 fun σ2 H3 => tc σ2 H3 fun b H4 => if b = true then te σ2 H4 fun v H5 => ys.length < sizeLine ∧ H5 p = some (.lst ys) ∧ (∃ m', m' < m ∧ W (i + 1) m' (ys ++ [v]) σ2 (upd H5 p (.lst (ys ++ [v]))))
    else ∃ m', m' < m ∧ W (i + 1) m' ys σ2 H4)
/-- which of the def's values the block sees -/
def Sees (X : Cx) (scope : Scope) (N : List Str) (σ0 : St → St) : Prop :=
  ∀ σ : St, (σ0 σ).length = N.length ∧ ∀ (i : Nat) (x : Str) (v : V), N[i]? = some x → (σ0 σ)[i]? = some (some v) → scope.names.lookup x = some .free ∧ ∃ j : Nat, X.N[j]? = some x ∧ σ[j]? = some (some v)
theorem lookup_relabel_mem {env : Env} {names : List (Str × NameKind)} {x : Str} : ∀ {k}, (names.map fun (n, k) => if (k == NameKind.free && env.scope.kind == .function && env.kindOf n == some .cell) = true then (n, NameKind.cell) else (n, k)).lookup x = some k → (x, k) ∈ names ∨ (k = .cell ∧ (x, NameKind.free) ∈ names) := by
  induction names with
  | nil => intro k h; simp at h
  | cons a r ih =>
    intro k h
    obtain ⟨n, k0⟩ := a
    rw [List.map_cons] at h
    dsimp only at h
    by_cases hc : (k0 == NameKind.free && env.scope.kind == .function && env.kindOf n == some .cell) = true
    · rw [if_pos hc] at h
      have hk0 : k0 = .free := by
        simp only [Bool.and_eq_true, beq_iff_eq] at hc
        exact hc.1.1
      rw [List.lookup_cons] at h
      cases e : x == n with
      | true =>
        rw [e] at h
        cases h
        exact .inr ⟨rfl, by rw [eq_of_beq e, hk0]; simp⟩
      | false =>
        rw [e] at h
        rcases ih h with z | ⟨z1, z2⟩
        · exact .inl (List.mem_cons_of_mem _ z)
        · exact .inr ⟨z1, List.mem_cons_of_mem _ z2⟩
    · rw [if_neg hc] at h
      rw [List.lookup_cons] at h
      cases e : x == n with
      | true =>
        rw [e] at h
        cases h
        exact .inl (by rw [eq_of_beq e]; simp)
      | false =>
        rw [e] at h
        rcases ih h with z | ⟨z1, z2⟩
        · exact .inl (List.mem_cons_of_mem _ z)
        · exact .inr ⟨z1, List.mem_cons_of_mem _ z2⟩
theorem lookup_relabel_free {env : Env} {x : Str} : ∀ {names : List (Str × NameKind)}, names.lookup x = some .free →
    (names.map fun (n, k) => if (k == NameKind.free && env.scope.kind == .function && env.kindOf n == some .cell) = true then (n, NameKind.cell) else (n, k)).lookup x = some .cell ∨ (names.map fun (n, k) => if (k == NameKind.free && env.scope.kind == .function && env.kindOf n == some .cell) = true then (n, NameKind.cell) else (n, k)).lookup x = some .free
  | [], h => by simp at h
  | (n, k0) :: r, h => by
    rw [List.lookup_cons] at h
    rw [List.map_cons]
    dsimp only
    cases e : x == n with
    | true =>
      rw [e] at h
      cases h
      by_cases hc : (NameKind.free == NameKind.free && env.scope.kind == .function && env.kindOf n == some .cell) = true
      · rw [if_pos hc]; left; rw [List.lookup_cons, e]
      · rw [if_neg hc]; right; rw [List.lookup_cons, e]
    | false =>
      rw [e] at h
      have ih := lookup_relabel_free (env := env) h
      by_cases hc : (k0 == NameKind.free && env.scope.kind == .function && env.kindOf n == some .cell) = true
      · rw [if_pos hc, List.lookup_cons, e]; exact ih
      · rw [if_neg hc, List.lookup_cons, e]; exact ih
theorem mem_of_lookupF {x : Str} {k : NameKind} : ∀ {names : List (Str × NameKind)}, names.lookup x = some k → (x, k) ∈ names := fun h => PySem.mem_of_lookup h
theorem pe_comp {X : Cx} {elt tg iter : Expr} {ifs : List Expr} {scope : Scope} {pos : Pos} {wi : TI} {g : TG} {tc : TT} {te : TE} {N : List Str} {σ0 : St → St}
    (hc : X.calm = true) (hxe : ∀ e s, X.xe e s → False) (hcell : ∀ y ∈ scope.names, y.2 ≠ .cell) (hkind : scope.kind = .function) (hnames : ∀ y ∈ scope.names, y.2 = .local → scope.names.lookup y.1 = some .local)
    (hfr : ∀ y ∈ scope.names, y.2 = .free → X.env.kindOf y.1 = some .cell ∨ X.env.kindOf y.1 = some .free) (hσ : Sees X scope N σ0)
    (hi : PI X tg iter wi)
    (hg : ∀ cl C s H ex, PG (cxComp X scope N cl C s H ex) tg g) (ht : ∀ cl C s H ex, PTs (cxComp X scope N cl C s H ex) ifs tc) (he : ∀ cl C s H ex, PE (cxComp X scope N cl C s H ex) elt te)
    (hs : ∀ x, foldedSetIterable iter X.env x = pure x := by intro _; rfl) : PE X (.ListComp elt [⟨tg, iter, ifs, 0⟩] scope pos) (tComp σ0 wi g tc te) := by
  intro pins s σ H Q I h
  obtain ⟨cl, hclos, hcl1, hcl2⟩ := closure_of (env := X.env) (scope := scope) fun y hy hf => I.ok.has y.1 (hfr y hy hf)
  rw [eval_ListComp]
  refine wpAny_comprehension_free (use := none) rfl hs hclos hkind hnames (thn (hi pins s σ H _ I h) fun v s1 h1 => thn h1 fun itv s2 h2 => ?_)
  obtain ⟨it, fp, tn, J, H2, e, I2, T, st2, f2, h3⟩ := h2
  subst e
  have hpn : H2 s2.heap.objs.size = none := I2.hok.fresh (Nat.le_refl _)
  obtain ⟨W, ⟨m0, w0⟩, turn⟩ := h3 _ hpn
  refine wpAny_newObj_type ?_
  generalize hp : s2.heap.objs.size = p at *
  have I3 : Inv X pins σ (upd H2 p (.lst [])) { s2 with heap := s2.heap.push { cls := .type "list", dict := none, data := .seq ([] : List Value).toArray } } := by
    refine I2.laid (a := p) (o := .lst []) (t' := s2.toks) (fun b u q => Heap.get?_push_of_some _ q) (Nat.le_of_eq hp) ⟨Nat.zero_le _, [], 0, .nil, ?_⟩
    rw [← hp]
    exact Heap.get?_push_size _ rfl
  have hf3 : ∀ b ∈ fp, FpOk X pins (upd H2 p (.lst [])) b := fun b hb => by
    obtain ⟨o, ho, _⟩ := T.obj _ _ st2 b hb
    have : b ≠ p := by rw [← hp]; exact Nat.ne_of_lt (Heap.lt_size ho)
    exact ⟨by rw [upd_ne this]; exact (f2 b hb).1, (f2 b hb).2⟩
  generalize hs3 : ({ s2 with heap := s2.heap.push { cls := .type "list", dict := none, data := .seq ([] : List Value).toArray } } : Shared) = s3 at *
  have st3 : tn 0 s3.heap := by rw [← hs3]; exact T.keep _ _ _ st2 fun b _ o e => Heap.get?_push_of_some _ e
  generalize hH3 : upd H2 p (.lst []) = H3 at *
  refine wpAny_newFunctionEnv hcell (by intro y hy; simp at hy) (fun h1 hns1 hsb1 => ?_) hkind
  generalize hC : s3.heap.objs.size = C at *
  have keep : ∀ b u, s3.heap.get? b = some u → h1.get? b = some u := fun b u q =>
    hsb1.extBut b u (by rw [← hC]; exact Nat.ne_of_lt (Heap.lt_size q)) (Heap.get?_push_of_some _ q)
  have fpC : ∀ b ∈ fp, b ≠ C := fun b hb => by
    obtain ⟨o, ho, _⟩ := T.obj _ _ st3 b hb
    rw [← hC]; exact Nat.ne_of_lt (Heap.lt_size ho)
  have hCn : H3 C = none := I3.hok.fresh (Nat.le_of_eq hC)
  -- the block's own invariant, at its entry
  have ok' : (cxComp X scope N cl C s3 H3 fp).Ok := by
    refine ⟨I3.mod, hkind, I3.ok.glob, I3.ok.blt, Nat.le_of_eq hC, fun x y c a b => I3.ok.inj x y c (hcl1 x c a) (hcl1 y c b), fun x hx => ?_, fun _ _ z => Bool.noConfusion (show false = true from z), I3.ok.hd, I3.ok.frames, .inl rfl, fun b hb => ⟨fpC b hb, fun x c q => (hf3 b hb).2.2.2.2.1 x c (hcl1 x c q)⟩,
      I3.bs, Nat.le_trans I3.ok.bsz I3.sz, fun b o e hb => ?_, fun b hb z => ?_, I3.stack, I3.stkFree⟩
    · have hx' : (relabel scope X.env).names.lookup x = some .cell ∨ (relabel scope X.env).names.lookup x = some .free := hx
      rcases hx' with z | z
      · rcases lookup_relabel_mem z with y | ⟨_, y⟩
        · exact absurd rfl (hcell _ y)
        · exact hcl2 x y
      · rcases lookup_relabel_mem z with y | ⟨y, _⟩
        · exact hcl2 x y
        · cases y
    · rcases (hf3 b hb).2.2.2.1 with z | z
      · exact I3.ok.noex b o e z
      · exact absurd (Nat.lt_of_lt_of_le (Heap.lt_size e) (Nat.le_trans I3.ok.bsz z)) (Nat.lt_irrefl _)
    · rcases List.mem_cons.mp (I3.stkSub b z) with q | q
      · exact (hf3 b hb).2.1 q
      · exact (hf3 b hb).2.2.1 q
  have J0 : Inv (cxComp X scope N cl C s3 H3 fp) [] (σ0 σ) H3 { s3 with heap := h1, toks := s3.toks + ([] : List (Str × Value)).length } := by
    refine ⟨ok', rfl, I3.bare, Un.kept keep, ⟨_, hns1, fun i x v a b c => ?_⟩, fun x c q => ?_, hCn, fun x c q => I3.freeC x c (hcl1 x c q), fun q hq => absurd (show q ∈ ([] : List (Addr × Obj)) from hq) (by simp), I3.hok.kept keep, (hσ σ).1⟩
    · obtain ⟨hf, j, hj, hv⟩ := (hσ σ).2 i x v a b
      have hm := mem_of_lookupF hf
      obtain ⟨m, hn, hl⟩ := id I3.loc
      have hk := hfr _ hm rfl
      have hvis : Vis X.env.scope x := hk.elim (fun z => .inr (.inl z)) fun z => .inr (.inr z)
      obtain ⟨u, r, lk⟩ := hl j x v hj hv hvis
      refine ⟨u, r, .inr ⟨lookup_relabel_free hf, ?_⟩⟩
      obtain ⟨c', hc'⟩ := hcl2 x hm
      refine ⟨c', hc', ?_⟩
      have hx := hcl1 x c' hc'
      rcases lk with ⟨kl, _⟩ | ⟨_, c2, e2, o2, ho2, hd2⟩
      · rcases hk with z | z <;> rw [kl] at z <;> cases z
      · rw [hx] at e2
        cases e2
        exact ⟨o2, keep _ _ ho2, hd2⟩
    · obtain ⟨v, o, ho, hd⟩ := I3.cell x c (hcl1 x c q)
      exact ⟨v, o, keep _ _ ho, hd⟩
  have st4 : tn 0 h1 := T.keep _ _ _ st3 fun b _ o e => keep b o e
  have stat : ∀ {H' : Hp}, (∀ b ∈ fp, H' b = none) → ∀ b ∈ fp, FpOk (cxComp X scope N cl C s3 H3 fp) [] H' b := fun hn b hb =>
    ⟨hn b hb, fpC b hb, fun z => ok'.exfs b hb z, .inl hb, fun x c q => (hf3 b hb).2.2.2.2.1 x c (hcl1 x c q), fun q hq => absurd (show q ∈ ([] : List (Addr × Obj)) from hq) (by simp)⟩
  -- back to the def
  have back : ∀ {σ' : St} {H' : Hp} {s' : Shared} {pl : List (Addr × Obj)}, Inv (cxComp X scope N cl C s3 H3 fp) pl σ' H' s' → ∀ h', Heap.SameBut C s'.heap h' → Inv X pins σ H' { s' with heap := h' } := fun {σ' H' s' pl} J h' hsb => by
    have I5 : Inv X pins σ H' s' := Inv.call' (ch := fp) I3 J.os J.base J.hok J.bare fun b hb => ⟨(hf3 b hb).2.2.2.1, (hf3 b hb).2.1, (hf3 b hb).2.2.2.2.1, (hf3 b hb).2.2.2.2.2⟩
    refine Inv.turned (it := C) (t' := s'.toks) I5 (fun b o hb e => hsb.extBut b o hb e) J.free (fun z => ?_) (.inr ?_) (fun x c q z => ?_) fun q hq z => ?_
    · exact absurd (show X.env.locals < C by rw [← hC]; exact I3.lt) (by rw [z]; exact Nat.lt_irrefl _)
    · rw [← hC]; exact I3.sz
    · obtain ⟨v, o, ho, _⟩ := I3.cell x c q
      have := Heap.lt_size ho
      rw [z, hC] at this
      exact Nat.lt_irrefl _ this
    · have := Heap.lt_size (I3.pin q hq).1
      rw [z, hC] at this
      exact Nat.lt_irrefl _ this
  have loop : codeAny (model X.prog X.w) X.A (.compLoop (.ListComp elt [⟨tg, iter, ifs, 0⟩] scope pos) 0 (.ref it) (.ref p) (compEnvC scope cl C X.env)) (compPost (model X.prog X.w) X.A X.xe none (EP X pins σ Q) (.ref p) C) { s3 with heap := h1, toks := s3.toks + ([] : List (Str × Value)).length } := by
    refine codeAny_loop rfl (fun n s' => ∃ i ys σ' H', Inv (cxComp X scope N cl C s3 H3 fp) [] σ' H' s' ∧ tn i s'.heap ∧ (∀ b ∈ fp, H' b = none) ∧ W i n ys σ' H') (fun n s' hI => ?_) m0 ⟨0, [], σ0 σ, H3, J0, st4, fun b hb => (hf3 b hb).1, w0⟩
    obtain ⟨i, ys, σ', H', J', st', fr', w'⟩ := hI
    show wpAny _ X.A ((compTurn (.ListComp elt [⟨tg, iter, ifs, 0⟩] scope pos) 0 (.ref it) (.ref p) (compEnvC scope cl C X.env)).onRaise (fun x => do noteFrame x (compEnvC scope cl C X.env); theTreesLotGoes x)) _ _ s'
    refine wpAny_noted ?_
    rw [compTurn_list]
    rcases turn i n ys σ' H' w' with ⟨stop, q⟩ | ⟨go, step⟩
    · refine wpAny_bind (wpAny_standAt (wpAny_bind (wpAny_mono (T.done (cxComp X scope N cl C s3 H3 fp) rfl rfl rfl hc i [] s' σ' H' X.xe J' (stat fr') st' stop) (fun r s4 h4 => ?_) fun _ _ x => (hxe _ _ x).elim)))
      obtain ⟨hr, I4⟩ := h4
      subst hr
      refine wpAny_pure ?_
      obtain ⟨m, hn, _⟩ := id I4.loc
      exact ⟨m, hn, fun h' hsb => ⟨.ref p, H', back I4 h' hsb, rfl, q⟩⟩
    · refine wpAny_bind (wpAny_standAt (wpAny_bind (wpAny_mono (T.item (cxComp X scope N cl C s3 H3 fp) rfl rfl rfl hc i [] s' σ' H' X.xe J' (stat fr') st' go) (fun r s4 h4 => ?_) fun _ _ x => (hxe _ _ x).elim)))
      obtain ⟨u, hr, h4⟩ := h4
      subst hr
      refine wpAny_bind (wpAny_mono h4 (fun _ s5 h5 => ?_) fun _ _ x => (hxe _ _ x).elim)
      obtain ⟨x, H5, I5, r5, y5, st5, fr5⟩ := h5
      have I5' := I5.pinned (stat fr5) (T.obj _ _ st5)
      refine wpAny_bind (wpAny_mono (hg cl C s3 H3 fp _ s5 σ' H5 x u _ I5' r5 (step x H5 y5)) (fun _ s6 h6 => ?_) fun _ _ x => (hxe _ _ x).elim)
      obtain ⟨σ6, H6, I6, q6⟩ := h6
      have again : ∀ {σ7 : St} {H7 : Hp} {s7 : Shared} {ys7 : List V}, Inv (cxComp X scope N cl C s3 H3 fp) ([] ++ pinsAt fp s5.heap) σ7 H7 s7 → (∃ m', m' < n ∧ W (i + 1) m' ys7 σ7 H7) →
          ∃ m, m < n ∧ ∃ i ys σ' H', Inv (cxComp X scope N cl C s3 H3 fp) [] σ' H' s7 ∧ tn i s7.heap ∧ (∀ b ∈ fp, H' b = none) ∧ W i m ys σ' H' := fun {σ7 H7 s7 ys7} I7 n7 => by
        obtain ⟨m', hm, w7⟩ := n7
        refine ⟨m', hm, i + 1, ys7, σ7, H7, I7.unpinned, T.keep _ _ _ st5 fun b hb o e => (I7.pin (b, o) (List.mem_append_right _ (List.mem_append_right _ (mem_pinsAt hb e)))).1, fun b hb => ?_, w7⟩
        obtain ⟨o, e, d⟩ := T.obj _ _ st5 b hb
        exact (I7.pin (b, o) (List.mem_append_right _ (List.mem_append_right _ (mem_pinsAt hb e)))).2.1
      refine wpAny_bind (wpAny_mono (ht cl C s3 H3 fp _ s6 σ6 H6 _ I6 q6) (fun ok s7 h7 => ?_) fun _ _ x => (hxe _ _ x).elim)
      obtain ⟨H7, I7, q7⟩ := h7
      cases ok with
      | false =>
        rw [if_neg Bool.false_ne_true] at q7
        exact wpAny_pure ⟨rfl, again I7 q7⟩
      | true =>
        rw [if_pos rfl] at q7
        refine wpAny_bind (wpAny_bind (wpAny_mono (he cl C s3 H3 fp _ s7 σ6 H7 _ I7 q7) (fun y s8 h8 => ?_) fun _ _ x => (hxe _ _ x).elim))
        obtain ⟨v, H8, I8, r8, hz, hH8, w8⟩ := h8
        refine wpAny_bind (wpAny_mono (mt_append (X := cxComp X scope N cl C s3 H3 fp) _ s8 σ6 H8 (.ref p) [v] (.ref p) [y] (fun x H9 => x = .non ∧ H9 = upd H8 p (.lst (ys ++ [v]))) I8 rfl (.cons r8 .nil) ⟨p, ys, v, rfl, rfl, hH8, hz, rfl, rfl⟩) (fun _ s9 h9 => ?_) fun _ _ x => (hxe _ _ x).elim)
        obtain ⟨z, H9, I9, _, _, e9⟩ := h9
        subst e9
        exact wpAny_pure (wpAny_pure ⟨rfl, again I9 w8⟩)
  exact codeAny_compStart_list loop (T.self X.A 0 _ _ _ st4 loop)
end L2
namespace L2
open PySem PySem.Spec PyProof.Rows
theorem bt_all : bootBuiltins "all" = some (.builtin "all") := by decide +kernel
theorem range_all (bs : List Bool) (n : Nat) (h : bs.length = n) : (List.range n).all (fun i => bs.getD i false) = bs.all id := by
  subst h
  rw [Bool.eq_iff_iff, List.all_eq_true, List.all_eq_true]
  constructor
  · intro h x hx
    obtain ⟨i, hi, e⟩ := List.mem_iff_getElem.mp hx
    have := h i (by simpa using hi)
    rw [getD_of hi, e] at this
    exact this
  · intro h i hi
    have hi' : i < bs.length := by simpa using hi
    rw [getD_of hi']
    exact h _ (List.getElem_mem hi')
section
variable {X : Cx}
/-- all(xs), xs a list of truths -/
def rAll : List V → Hp → VK → Prop := fun xs H Q => ∃ (l : Addr) (bs : List Bool), xs = [.ref l] ∧ H l = some (.lst (bs.map V.bl)) ∧ Q (.bl (bs.all id)) H
theorem call_all (hc : X.calm = true) : CallR X (.builtin "all") rAll := by
  intro pins s σ H xs us Q I r h
  obtain ⟨l, bs, rfl, hl, q⟩ := h
  obtain ⟨u, rfl, ru⟩ := vals1 r
  cases ru
  obtain ⟨its, rv, p, hz⟩ := I.list (SqL.of hl)
  have hlt : l < s.heap.objs.size := I.hok.lt hl
  have hlen : bs.length = its.length := by have := rv.length; rwa [List.length_map] at this
  refine call_all_walk (wpAny_pyIter_list p.isList ?_)
  refine ⟨s.heap.objs.size, _, _, _, _, _, fun i => bs.getD i false, rfl, Walks.list (A := X.A.in1) (show X.A.in1.handled = none from I.ok.hd hc) s.heap.objs.size l (Nat.ne_of_lt hlt) its.toArray, ⟨⟨_, Heap.get?_push_size _ rfl, rfl, rfl⟩, ?_⟩, ?_, fun h' tk hk => ?_⟩
  · exact p.isList.at fun o e => Heap.get?_push_of_some _ e
  · intro i v s' Q' E' hv hQ
    have hi : i < its.length := by
      have := (Array.getElem?_eq_some_iff.mp hv).1
      simpa using this
    have hb : (bs.map V.bl)[i]? = some (.bl (bs.getD i false)) := by
      rw [List.getElem?_map, List.getElem?_eq_getElem (by omega), getD_of (by omega)]; rfl
    obtain ⟨u, hu, ru⟩ := rv.get hb
    have : v = u := by
      rw [List.getElem?_toArray, hu] at hv
      exact (Option.some.inj hv).symm
    subst this
    obtain rfl : v = Value.bool (bs.getD i false) := ru
    exact wpAny_pure hQ
  · refine ⟨.bl (bs.all id), H, I.kept (t' := tk) fun b o e => hk b o ?_ (Heap.get?_push_of_some _ e), ?_, q⟩
    · intro z
      have : b = s.heap.objs.size := by simpa using z
      subst this
      exact Nat.lt_irrefl _ (Heap.lt_size e)
    · show Value.bool _ = Value.bool _
      rw [range_all bs its.toArray.size (by simpa using hlen)]
end
end L2

set_option Elab.async false
set_option linter.all false
set_option maxRecDepth 100000
set_option maxHeartbeats 4000000
namespace L2
open PySem PySem.Spec PyProof.Rows
section
variable {X : Cx}
end
end L2
namespace L2
open MA
end L2
namespace My
open PySem L2 MA
section
variable {P : Program} {w : World} {K : PySem.W.Frag} {mg : Str → Option Value} {base : Heap}
structure Txt (mg : Str → Option Value) : Prop where
  z_abs : mg "abs" = none
  z_len : mg "len" = none
  z_isinstance : mg "isinstance" = none
  z_range : mg "range" = none
  z_int : mg "int" = none
  z_bool : mg "bool" = none
  z_tuple : mg "tuple" = none
  z_list : mg "list" = none
  z_all : mg "all" = none
/-- of a whole number -/
def spWhole : Sp := fun vs H Q _ => ∃ a : Int, vs = [.int a] ∧ Q (.bl true) H
/-- the pen: where it stands in the script, n draws at most so far -/
def Pen (H : Hp) (p : Addr) (n : Nat) : Prop := ∃ (c : Addr) (ns : List Int) (a l : Int), H p = some (.dK (penL c a l)) ∧ H c = some (.lst (ns.map V.int)) ∧ 0 ≤ a ∧ a ≤ n
theorem Pen.mono {H : Hp} {p : Addr} {m n : Nat} (h : Pen H p m) (l : m ≤ n) : Pen H p n := let ⟨c, ns, a, x, h1, h2, h3, h4⟩ := h; ⟨c, ns, a, x, h1, h2, h3, by omega⟩
theorem Pen.same {H H' : Hp} {p : Addr} {n : Nat} (h : Pen H p n) (s : Same H H') : Pen H' p n := let ⟨c, ns, a, x, h1, h2, h3, h4⟩ := h; ⟨c, ns, a, x, s _ _ h1, s _ _ h2, h3, h4⟩
theorem Pen.dk {H : Hp} {p : Addr} {n : Nat} (h : Pen H p n) : ∃ kvs, H p = some (.dK kvs) := let ⟨c, ns, a, x, h1, _⟩ := h; ⟨_, h1⟩
theorem pen_cells (c : Addr) (a l : Int) : valV (penL c a l) (.inr "cells" : Key) = some (.ref c) := by rfl

theorem pen_at (c : Addr) (a l : Int) : valV (penL c a l) (.inr "at" : Key) = some (.int a) := by rfl
theorem pen_left (c : Addr) (a l : Int) : valV (penL c a l) (.inr "left" : Key) = some (.int l) := by rfl
theorem put_at (c : Addr) (a l b : Int) : putK (penL c a l) (.inr "at" : Key) (.int b) = penL c b l := by rfl
theorem put_left (c : Addr) (a l b : Int) : putK (penL c a l) (.inr "left" : Key) (.int b) = penL c a b := by rfl
theorem get_cells {H : Hp} {p c : Addr} {a l : Int} (h : H p = some (.dK (penL c a l))) : DGet H p (.str "cells") (some (.ref c)) := by
  have := DGet.k (k := (.inr "cells" : Key)) h; rw [pen_cells] at this; exact this
theorem get_at {H : Hp} {p c : Addr} {a l : Int} (h : H p = some (.dK (penL c a l))) : DGet H p (.str "at") (some (.int a)) := by
  have := DGet.k (k := (.inr "at" : Key)) h; rw [pen_at] at this; exact this
theorem get_left {H : Hp} {p c : Addr} {a l : Int} (h : H p = some (.dK (penL c a l))) : DGet H p (.str "left") (some (.int l)) := by
  have := DGet.k (k := (.inr "left" : Key)) h; rw [pen_left] at this; exact this
theorem dput_at {H : Hp} {p c : Addr} {a l b : Int} (h : H p = some (.dK (penL c a l))) : DPut H p (.str "at") (.int b) (upd H p (.dK (penL c b l))) := by
  have := DPut.k (k := (.inr "at" : Key)) (v := .int b) h (by show 3 < sizeLine; decide); rw [put_at] at this; exact this
theorem dput_left {H : Hp} {p c : Addr} {a l b : Int} (h : H p = some (.dK (penL c a l))) : DPut H p (.str "left") (.int b) (upd H p (.dK (penL c a b))) := by
  have := DPut.k (k := (.inr "left" : Key)) (v := .int b) h (by show 3 < sizeLine; decide); rw [put_left] at this; exact this
theorem prime_at (a : Int) : ∃ pr : Int, 0 < pr ∧ pr < 2147483648 ∧ atI ([.int 2147483647, .int 2147483629, .int 2147483587, .int 2147483579, .int 2147483563, .int 2147483549, .int 2147483543] : List V) (a % 7) = some (.int pr) := by
  have h : a % 7 = 0 ∨ a % 7 = 1 ∨ a % 7 = 2 ∨ a % 7 = 3 ∨ a % 7 = 4 ∨ a % 7 = 5 ∨ a % 7 = 6 := by omega
  rcases h with e | e | e | e | e | e | e <;> rw [e] <;> exact ⟨_, by decide, by decide, rfl⟩
theorem sq_bound {a : Int} (h0 : 0 ≤ a) (h1 : a ≤ 100000) : 0 ≤ 75329 * a * a ∧ 75329 * a * a ≤ 753290000000000 := by
  have h2 : 0 ≤ 75329 * a := by omega
  refine ⟨Int.mul_nonneg h2 h0, ?_⟩
  have := Int.mul_le_mul (show 75329 * a ≤ 7532900000 by omega) h1 h0 (by decide)
  omega
theorem cell_at {ns : List Int} (a : Int) (h : 0 < ns.length) : ∃ z : Int, atI (ns.map V.int) (a % (((ns.map V.int).length : Nat) : Int)) = some (.int z) := by
  rw [List.length_map]
  have h0 := Int.emod_nonneg a (show ((ns.length : Nat) : Int) ≠ 0 by omega)
  have h1 := Int.emod_lt_of_pos a (show 0 < ((ns.length : Nat) : Int) by omega)
  have hk : (a % (ns.length : Int)).toNat < ns.length := by omega
  have ek : a % (ns.length : Int) = (((a % (ns.length : Int)).toNat : Nat) : Int) := by omega
  refine ⟨ns[(a % (ns.length : Int)).toNat], ?_⟩
  have q : atI (ns.map V.int) (((a % (ns.length : Int)).toNat : Nat) : Int) = some (.int ns[(a % (ns.length : Int)).toNat]) := atI_nat (by rw [List.getElem?_map, List.getElem?_eq_getElem hk] <;> rfl)
  rw [← ek] at q
  exact q
/-- the last rows of a draw, as they are read -/
abbrev tTail (K : PySem.W.Frag) : TS := tSeq (tAsg (tOp (rIxT K) (tTup (tCons (tC (.int 2147483647)) (tCons (tC (.int 2147483629)) (tCons (tC (.int 2147483587)) (tCons (tC (.int 2147483579)) (tCons (tC (.int 2147483563)) (tCons (tC (.int 2147483549)) (tCons (tC (.int 2147483543)) tNil))))))))
    (tOp (rI (fun _ j => 0 < j) fun i j => .int (i % j)) (tVar 2) (tC (.int 7)))) (gName 4))
  (tSeq (tAsg (tOp (rI (fun _ j => 0 < j) fun i j => .int (i % j)) (tOp (rI CPow fun i j => .int (i ^ j.toNat)) (tOp (rI0 fun i j => .int (i + j)) (tOp (rI0 fun i j => .int (i + j)) (tOp (rI0 fun i j => .int (i + j)) (tOp (rI (fun _ j => 0 < j) fun i j => .int (i % j)) (tVar 3) (tC (.int 2147483497)))
      (tOp (rI CMul fun i j => .int (i * j)) (tOp (rI CMul fun i j => .int (i * j)) (tC (.int 75329)) (tVar 2)) (tVar 2))) (tOp (rI CMul fun i j => .int (i * j)) (tC (.int 30011)) (tVar 2))) (tC (.int 271))) (tC (.int 3))) (tVar 4)) (gName 5))
  (tSeq (tAsg (tOp (rI (fun _ j => 0 < j) fun i j => .int (i % j)) (tOp (rI CPow fun i j => .int (i ^ j.toNat)) (tOp (rI0 fun i j => .int (i + j)) (tOp (rI0 fun i j => .int (i + j)) (tVar 5) (tOp (rI CMul fun i j => .int (i * j)) (tC (.int 11)) (tVar 2))) (tC (.int 5))) (tC (.int 2))) (tC (.int 2147483489))) (gName 5))
  (tRet (tOp (rI (fun _ j => 0 < j) fun i j => .int (i % j)) (tOp (rI CDiv fun i j => .int (i / j)) (tOp (rI (fun _ j => 0 < j) fun i j => .int (i % j)) (tOp (rI CMul fun i j => .int (i * j)) (tVar 5) (tC (.int 69621))) (tC (.int 2147483477))) (tC (.int 1013))) (tVar 1)))))
theorem draw_tail {D : Ends} {H : Hp} {p : Addr} {m a x pr : Int} {u v y : Option V} (hm : 0 < m) (pr0 : 0 < pr) (pr1 : pr < 2147483648)
    (hpr : atI ([.int 2147483647, .int 2147483629, .int 2147483587, .int 2147483579, .int 2147483563, .int 2147483549, .int 2147483543] : List V) (a % 7) = some (.int pr)) (ha0 : 0 ≤ a) (ha : a ≤ 100000) (sq0 : 0 ≤ 75329 * a * a) (sq1 : 75329 * a * a ≤ 753290000000000)
    (k : ∀ (r : Int) (t : Addr), H t = none → 0 ≤ r → r < m → D.rt (.int r) (upd H t (.tup [.int 2147483647, .int 2147483629, .int 2147483587, .int 2147483579, .int 2147483563, .int 2147483549, .int 2147483543]))) :
    tTail K D [some (.ref p), some (.int m), some (.int a), some (.int x), u, v, y] H := by
  refine ⟨(by show 7 ≤ sizeLine; decide), fun t ht => ?_⟩
  refine ⟨_, rfl, _, _, rfl, rfl, (show (0 : Int) < 7 by decide), t, _, _, _, rfl, rfl, SqT.of upd_same, hpr, ?_⟩
  have e0 := Int.emod_nonneg x (show (2147483497 : Int) ≠ 0 by decide)
  have e1 := Int.emod_lt_of_pos x (show (0 : Int) < 2147483497 by decide)
  refine ⟨_, rfl, _, _, rfl, rfl, (show (0 : Int) < 2147483497 by decide), _, rfl, _, _, rfl, rfl, .inl ⟨by decide, by decide⟩, _, rfl, _, _, rfl, rfl, .inr ⟨by omega, by omega⟩, _, _, rfl, rfl, _, rfl, _, _, rfl, rfl, .inl ⟨by decide, by decide⟩, _, _, rfl, rfl, _, _, rfl, rfl, _, _, rfl, rfl, ⟨by decide, by decide, ?_⟩, _, rfl, _, _, rfl, rfl, pr0, ?_⟩
  · show (x % 2147483497 + 75329 * a * a + 30011 * a + 271).natAbs < 2 ^ 64
    omega
  have w0 := Int.emod_nonneg ((x % 2147483497 + 75329 * a * a + 30011 * a + 271) ^ Int.toNat 3) (show pr ≠ 0 by omega)
  have w2 := Int.emod_lt_of_pos ((x % 2147483497 + 75329 * a * a + 30011 * a + 271) ^ Int.toNat 3) pr0
  refine ⟨_, rfl, _, rfl, _, _, rfl, rfl, .inl ⟨by decide, by decide⟩, _, _, rfl, rfl, _, _, rfl, rfl, _, _, rfl, rfl, ⟨by decide, by decide, ?_⟩, _, _, rfl, rfl, (show (0 : Int) < 2147483489 by decide), ?_⟩
  · show ((x % 2147483497 + 75329 * a * a + 30011 * a + 271) ^ Int.toNat 3 % pr + 11 * a + 5).natAbs < 2 ^ 64
    generalize (x % 2147483497 + 75329 * a * a + 30011 * a + 271) ^ Int.toNat 3 % pr = w1 at w0 w2 ⊢
    omega
  refine ⟨_, rfl, _, _, rfl, rfl, .inr ⟨by decide, by decide⟩, _, _, rfl, rfl, (show (0 : Int) < 2147483477 by decide), _, _, rfl, rfl, ⟨by decide, by decide⟩, _, rfl, _, _, rfl, rfl, hm, ?_⟩
  exact k _ t ht (Int.emod_nonneg _ (by omega)) (Int.emod_lt_of_pos _ hm)
def spDraw : Sp := fun vs H Q _ => ∃ (p : Addr) (m : Int) (n : Nat), vs = [.ref p, .int m] ∧ Pen H p n ∧ n < 100000 ∧ 0 < m ∧ m < 1073741824 ∧ ∀ (r : Int) (H' : Hp), 0 ≤ r → r < m → Pen H' p (n + 1) → SameX p H H' → Q (.int r) H'
def spPen (K : PySem.W.Frag) : Sp := fun vs H Q _ => ∃ (a : Addr) (ns : List Int), vs = [.ref a] ∧ SqL K H a (ns.map V.int) ∧ ∀ (p : Addr) (H' : Hp), Same H H' → Pen H' p 0 → Q (.ref p) H'
theorem cut_ints (ns : List Int) (lo hi : Option Int) : ∃ ms : List Int, cutV (ns.map V.int) lo hi = ms.map V.int := by
  unfold cutV
  rw [← List.map_drop, ← List.map_take]
  exact ⟨_, rfl⟩
def spLaw (K : PySem.W.Frag) : Sp := fun vs H Q _ => ∃ (a : Addr) (ns : List Int), vs = [.ref a] ∧ SqL K H a (ns.map V.int) ∧ ns.length ≤ 63 ∧ ∀ H', Q (.bl true) H'
end
end My
namespace L2
open PySem PySem.Spec PyProof.Rows
end L2

set_option Elab.async false
set_option linter.all false
set_option maxRecDepth 100000
set_option maxHeartbeats 4000000
namespace L2
open PySem PySem.Spec PyProof.Rows
/-! ### repr: what a value is, as plain data -/
section
variable {X : Cx}
end
end L2

set_option Elab.async false
set_option linter.all false
set_option maxRecDepth 100000
set_option maxHeartbeats 4000000
namespace L2
open PySem PySem.Spec PyProof.Rows MA
end L2
namespace L2
open PySem
theorem bt_sum : bootBuiltins "sum" = some (.builtin "sum") := by decide +kernel
theorem bt_sorted : bootBuiltins "sorted" = some (.builtin "sorted") := by decide +kernel
theorem bt_max : bootBuiltins "max" = some (.builtin "max") := by decide +kernel
theorem bt_min : bootBuiltins "min" = some (.builtin "min") := by decide +kernel
end L2
namespace My
open PySem L2 MA
structure Txt2 (mg : Str → Option Value) : Prop extends Txt mg where
  z_str : mg "str" = none
  z_repr : mg "repr" = none
  z_dict : mg "dict" = none
  z_sum : mg "sum" = none
  z_sorted : mg "sorted" = none
  z_max : mg "max" = none
  z_min : mg "min" = none
  z_any : mg "any" = none
  z_enumerate : mg "enumerate" = none
  z_zip : mg "zip" = none
  z_set : mg "set" = none
  z_reversed : mg "reversed" = none
  z_ValueError : mg "ValueError" = none
end My

set_option Elab.async false
set_option linter.all false
set_option maxRecDepth 100000
set_option maxHeartbeats 4000000
namespace L2
open PySem PySem.Spec PyProof.Rows
def notStar : Expr → Bool
  | .Starred _ _ => false
  | _ => true
theorem star_cons {e : Expr} {es : List Expr} {env : Env} (h : notStar e = true) : starEach (e :: es) env = (false, eval e env) :: starEach es env := by
  cases e <;> first | rfl | exact absurd h (by simp [notStar])
section
variable {X : Cx} {e : Expr} {es : List Expr} {te : TE} {t : TA} {pos : Pos}
/-- an item of a row, whose rest may be long -/
theorem pa_consN (ha : PE X e te) (hr : PA X es t) (hn : notStar e = true := by rfl) : PA X (e :: es) (tCons te t) := pa_cons ha hr (star_cons hn)
end
end L2
namespace L2
end L2
namespace L2
end L2

set_option Elab.async false
set_option linter.all false
set_option maxRecDepth 100000
set_option maxHeartbeats 4000000
namespace L2
open PySem PySem.Spec PyProof.Rows
theorem comp_core {X : Cx} {elt tg iter : Expr} {ifs : List Expr} {scope : Scope} {pos pos2 : Pos} {wi : TI} {g : TG} {tc : TT} {te : TE} {N : List Str} {σ0 : St → St} {pins : List (Addr × Obj)} {s : Shared} {σ : St} {H : Hp} {Q : VK} {use : Option (Value → Sem Unit)} {QQ : Value → Shared → Prop}
    (hc : X.calm = true) (hxe : ∀ e s, X.xe e s → False) (hcell : ∀ y ∈ scope.names, y.2 ≠ .cell) (hkind : scope.kind = .function) (hnames : ∀ y ∈ scope.names, y.2 = .local → scope.names.lookup y.1 = some .local)
    (hfr : ∀ y ∈ scope.names, y.2 = .free → X.env.kindOf y.1 = some .cell ∨ X.env.kindOf y.1 = some .free) (hσ : Sees X scope N σ0)
    (hi : PI X tg iter wi)
    (hg : ∀ cl C s H ex, PG (cxComp X scope N cl C s H ex) tg g) (ht : ∀ cl C s H ex, PTs (cxComp X scope N cl C s H ex) ifs tc) (he : ∀ cl C s H ex, PE (cxComp X scope N cl C s H ex) elt te)
    (hs : ∀ x, foldedSetIterable iter X.env x = pure x) (I : Inv X pins σ H s) (h : tComp σ0 wi g tc te σ H Q)
    (hend : ∀ (p C : Addr) (H' : Hp) (s' : Shared) (m : Str → Option Value) (f : Flow), Inv X pins σ H' s' → FpOk X pins H' C → s'.heap.Ns C m → (∀ h', Heap.SameBut C s'.heap h' → Inv X pins σ H' { s' with heap := h' }) → Q (.ref p) H' →
      compPost (model X.prog X.w) X.A X.xe use QQ (.ref p) C (.ok f) s') :
    wpAny (model X.prog X.w) X.A (comprehension (.ListComp elt [⟨tg, iter, ifs, 0⟩] scope pos) scope X.env pos2 (newList []) false (eval iter X.env) use) QQ X.xe s := by
  obtain ⟨cl, hclos, hcl1, hcl2⟩ := closure_of (env := X.env) (scope := scope) fun y hy hf => I.ok.has y.1 (hfr y hy hf)
  refine wpAny_comprehension_free (use := use) rfl hs hclos hkind hnames (thn (hi pins s σ H _ I h) fun v s1 h1 => thn h1 fun itv s2 h2 => ?_)
  obtain ⟨it, fp, tn, J, H2, e, I2, T, st2, f2, h3⟩ := h2
  subst e
  have hpn : H2 s2.heap.objs.size = none := I2.hok.fresh (Nat.le_refl _)
  obtain ⟨W, ⟨m0, w0⟩, turn⟩ := h3 _ hpn
  refine wpAny_newObj_type ?_
  generalize hp : s2.heap.objs.size = p at *
  have I3 : Inv X pins σ (upd H2 p (.lst [])) { s2 with heap := s2.heap.push { cls := .type "list", dict := none, data := .seq ([] : List Value).toArray } } := by
    refine I2.laid (a := p) (o := .lst []) (t' := s2.toks) (fun b u q => Heap.get?_push_of_some _ q) (Nat.le_of_eq hp) ⟨Nat.zero_le _, [], 0, .nil, ?_⟩
    rw [← hp]
    exact Heap.get?_push_size _ rfl
  have hf3 : ∀ b ∈ fp, FpOk X pins (upd H2 p (.lst [])) b := fun b hb => by
    obtain ⟨o, ho, _⟩ := T.obj _ _ st2 b hb
    have : b ≠ p := by rw [← hp]; exact Nat.ne_of_lt (Heap.lt_size ho)
    exact ⟨by rw [upd_ne this]; exact (f2 b hb).1, (f2 b hb).2⟩
  generalize hs3 : ({ s2 with heap := s2.heap.push { cls := .type "list", dict := none, data := .seq ([] : List Value).toArray } } : Shared) = s3 at *
  have st3 : tn 0 s3.heap := by rw [← hs3]; exact T.keep _ _ _ st2 fun b _ o e => Heap.get?_push_of_some _ e
  generalize hH3 : upd H2 p (.lst []) = H3 at *
  refine wpAny_newFunctionEnv hcell (by intro y hy; simp at hy) (fun h1 hns1 hsb1 => ?_) hkind
  generalize hC : s3.heap.objs.size = C at *
  have keep : ∀ b u, s3.heap.get? b = some u → h1.get? b = some u := fun b u q =>
    hsb1.extBut b u (by rw [← hC]; exact Nat.ne_of_lt (Heap.lt_size q)) (Heap.get?_push_of_some _ q)
  have fpC : ∀ b ∈ fp, b ≠ C := fun b hb => by
    obtain ⟨o, ho, _⟩ := T.obj _ _ st3 b hb
    rw [← hC]; exact Nat.ne_of_lt (Heap.lt_size ho)
  have hCn : H3 C = none := I3.hok.fresh (Nat.le_of_eq hC)
  -- the block's own invariant, at its entry
  have ok' : (cxComp X scope N cl C s3 H3 fp).Ok := by
    refine ⟨I3.mod, hkind, I3.ok.glob, I3.ok.blt, Nat.le_of_eq hC, fun x y c a b => I3.ok.inj x y c (hcl1 x c a) (hcl1 y c b), fun x hx => ?_, fun _ _ z => Bool.noConfusion (show false = true from z), I3.ok.hd, I3.ok.frames, .inl rfl, fun b hb => ⟨fpC b hb, fun x c q => (hf3 b hb).2.2.2.2.1 x c (hcl1 x c q)⟩,
      I3.bs, Nat.le_trans I3.ok.bsz I3.sz, fun b o e hb => ?_, fun b hb z => ?_, I3.stack, I3.stkFree⟩
    · have hx' : (relabel scope X.env).names.lookup x = some .cell ∨ (relabel scope X.env).names.lookup x = some .free := hx
      rcases hx' with z | z
      · rcases lookup_relabel_mem z with y | ⟨_, y⟩
        · exact absurd rfl (hcell _ y)
        · exact hcl2 x y
      · rcases lookup_relabel_mem z with y | ⟨y, _⟩
        · exact hcl2 x y
        · cases y
    · rcases (hf3 b hb).2.2.2.1 with z | z
      · exact I3.ok.noex b o e z
      · exact absurd (Nat.lt_of_lt_of_le (Heap.lt_size e) (Nat.le_trans I3.ok.bsz z)) (Nat.lt_irrefl _)
    · rcases List.mem_cons.mp (I3.stkSub b z) with q | q
      · exact (hf3 b hb).2.1 q
      · exact (hf3 b hb).2.2.1 q
  have J0 : Inv (cxComp X scope N cl C s3 H3 fp) [] (σ0 σ) H3 { s3 with heap := h1, toks := s3.toks + ([] : List (Str × Value)).length } := by
    refine ⟨ok', rfl, I3.bare, Un.kept keep, ⟨_, hns1, fun i x v a b c => ?_⟩, fun x c q => ?_, hCn, fun x c q => I3.freeC x c (hcl1 x c q), fun q hq => absurd (show q ∈ ([] : List (Addr × Obj)) from hq) (by simp), I3.hok.kept keep, (hσ σ).1⟩
    · obtain ⟨hf, j, hj, hv⟩ := (hσ σ).2 i x v a b
      have hm := mem_of_lookupF hf
      obtain ⟨m, hn, hl⟩ := id I3.loc
      have hk := hfr _ hm rfl
      have hvis : Vis X.env.scope x := hk.elim (fun z => .inr (.inl z)) fun z => .inr (.inr z)
      obtain ⟨u, r, lk⟩ := hl j x v hj hv hvis
      refine ⟨u, r, .inr ⟨lookup_relabel_free hf, ?_⟩⟩
      obtain ⟨c', hc'⟩ := hcl2 x hm
      refine ⟨c', hc', ?_⟩
      have hx := hcl1 x c' hc'
      rcases lk with ⟨kl, _⟩ | ⟨_, c2, e2, o2, ho2, hd2⟩
      · rcases hk with z | z <;> rw [kl] at z <;> cases z
      · rw [hx] at e2
        cases e2
        exact ⟨o2, keep _ _ ho2, hd2⟩
    · obtain ⟨v, o, ho, hd⟩ := I3.cell x c (hcl1 x c q)
      exact ⟨v, o, keep _ _ ho, hd⟩
  have st4 : tn 0 h1 := T.keep _ _ _ st3 fun b _ o e => keep b o e
  have stat : ∀ {H' : Hp}, (∀ b ∈ fp, H' b = none) → ∀ b ∈ fp, FpOk (cxComp X scope N cl C s3 H3 fp) [] H' b := fun hn b hb =>
    ⟨hn b hb, fpC b hb, fun z => ok'.exfs b hb z, .inl hb, fun x c q => (hf3 b hb).2.2.2.2.1 x c (hcl1 x c q), fun q hq => absurd (show q ∈ ([] : List (Addr × Obj)) from hq) (by simp)⟩
  -- back to the def
  have back : ∀ {σ' : St} {H' : Hp} {s' : Shared} {pl : List (Addr × Obj)}, Inv (cxComp X scope N cl C s3 H3 fp) pl σ' H' s' → ∀ h', Heap.SameBut C s'.heap h' → Inv X pins σ H' { s' with heap := h' } := fun {σ' H' s' pl} J h' hsb => by
    have I5 : Inv X pins σ H' s' := Inv.call' (ch := fp) I3 J.os J.base J.hok J.bare fun b hb => ⟨(hf3 b hb).2.2.2.1, (hf3 b hb).2.1, (hf3 b hb).2.2.2.2.1, (hf3 b hb).2.2.2.2.2⟩
    refine Inv.turned (it := C) (t' := s'.toks) I5 (fun b o hb e => hsb.extBut b o hb e) J.free (fun z => ?_) (.inr ?_) (fun x c q z => ?_) fun q hq z => ?_
    · exact absurd (show X.env.locals < C by rw [← hC]; exact I3.lt) (by rw [z]; exact Nat.lt_irrefl _)
    · rw [← hC]; exact I3.sz
    · obtain ⟨v, o, ho, _⟩ := I3.cell x c q
      have := Heap.lt_size ho
      rw [z, hC] at this
      exact Nat.lt_irrefl _ this
    · have := Heap.lt_size (I3.pin q hq).1
      rw [z, hC] at this
      exact Nat.lt_irrefl _ this
  have loop : codeAny (model X.prog X.w) X.A (.compLoop (.ListComp elt [⟨tg, iter, ifs, 0⟩] scope pos) 0 (.ref it) (.ref p) (compEnvC scope cl C X.env)) (compPost (model X.prog X.w) X.A X.xe use QQ (.ref p) C) { s3 with heap := h1, toks := s3.toks + ([] : List (Str × Value)).length } := by
    refine codeAny_loop rfl (fun n s' => ∃ i ys σ' H', Inv (cxComp X scope N cl C s3 H3 fp) [] σ' H' s' ∧ tn i s'.heap ∧ (∀ b ∈ fp, H' b = none) ∧ W i n ys σ' H') (fun n s' hI => ?_) m0 ⟨0, [], σ0 σ, H3, J0, st4, fun b hb => (hf3 b hb).1, w0⟩
    obtain ⟨i, ys, σ', H', J', st', fr', w'⟩ := hI
    show wpAny _ X.A ((compTurn (.ListComp elt [⟨tg, iter, ifs, 0⟩] scope pos) 0 (.ref it) (.ref p) (compEnvC scope cl C X.env)).onRaise (fun x => do noteFrame x (compEnvC scope cl C X.env); theTreesLotGoes x)) _ _ s'
    refine wpAny_noted ?_
    rw [compTurn_list]
    rcases turn i n ys σ' H' w' with ⟨stop, q⟩ | ⟨go, step⟩
    · refine wpAny_bind (wpAny_standAt (wpAny_bind (wpAny_mono (T.done (cxComp X scope N cl C s3 H3 fp) rfl rfl rfl hc i [] s' σ' H' X.xe J' (stat fr') st' stop) (fun r s4 h4 => ?_) fun _ _ x => (hxe _ _ x).elim)))
      obtain ⟨hr, I4⟩ := h4
      subst hr
      refine wpAny_pure ?_
      obtain ⟨m, hn, _⟩ := id I4.loc
      have I5 : Inv X pins σ H' s4 := Inv.call' (ch := fp) I3 I4.os I4.base I4.hok I4.bare fun b hb => ⟨(hf3 b hb).2.2.2.1, (hf3 b hb).2.1, (hf3 b hb).2.2.2.2.1, (hf3 b hb).2.2.2.2.2⟩
      exact hend p C H' s4 m _ I5 (I3.fpOk (Nat.le_of_eq hC) I4.free) hn (fun h' hsb => back I4 h' hsb) q
    · refine wpAny_bind (wpAny_standAt (wpAny_bind (wpAny_mono (T.item (cxComp X scope N cl C s3 H3 fp) rfl rfl rfl hc i [] s' σ' H' X.xe J' (stat fr') st' go) (fun r s4 h4 => ?_) fun _ _ x => (hxe _ _ x).elim)))
      obtain ⟨u, hr, h4⟩ := h4
      subst hr
      refine wpAny_bind (wpAny_mono h4 (fun _ s5 h5 => ?_) fun _ _ x => (hxe _ _ x).elim)
      obtain ⟨x, H5, I5, r5, y5, st5, fr5⟩ := h5
      have I5' := I5.pinned (stat fr5) (T.obj _ _ st5)
      refine wpAny_bind (wpAny_mono (hg cl C s3 H3 fp _ s5 σ' H5 x u _ I5' r5 (step x H5 y5)) (fun _ s6 h6 => ?_) fun _ _ x => (hxe _ _ x).elim)
      obtain ⟨σ6, H6, I6, q6⟩ := h6
      have again : ∀ {σ7 : St} {H7 : Hp} {s7 : Shared} {ys7 : List V}, Inv (cxComp X scope N cl C s3 H3 fp) ([] ++ pinsAt fp s5.heap) σ7 H7 s7 → (∃ m', m' < n ∧ W (i + 1) m' ys7 σ7 H7) →
          ∃ m, m < n ∧ ∃ i ys σ' H', Inv (cxComp X scope N cl C s3 H3 fp) [] σ' H' s7 ∧ tn i s7.heap ∧ (∀ b ∈ fp, H' b = none) ∧ W i m ys σ' H' := fun {σ7 H7 s7 ys7} I7 n7 => by
        obtain ⟨m', hm, w7⟩ := n7
        refine ⟨m', hm, i + 1, ys7, σ7, H7, I7.unpinned, T.keep _ _ _ st5 fun b hb o e => (I7.pin (b, o) (List.mem_append_right _ (List.mem_append_right _ (mem_pinsAt hb e)))).1, fun b hb => ?_, w7⟩
        obtain ⟨o, e, d⟩ := T.obj _ _ st5 b hb
        exact (I7.pin (b, o) (List.mem_append_right _ (List.mem_append_right _ (mem_pinsAt hb e)))).2.1
      refine wpAny_bind (wpAny_mono (ht cl C s3 H3 fp _ s6 σ6 H6 _ I6 q6) (fun ok s7 h7 => ?_) fun _ _ x => (hxe _ _ x).elim)
      obtain ⟨H7, I7, q7⟩ := h7
      cases ok with
      | false =>
        rw [if_neg Bool.false_ne_true] at q7
        exact wpAny_pure ⟨rfl, again I7 q7⟩
      | true =>
        rw [if_pos rfl] at q7
        refine wpAny_bind (wpAny_bind (wpAny_mono (he cl C s3 H3 fp _ s7 σ6 H7 _ I7 q7) (fun y s8 h8 => ?_) fun _ _ x => (hxe _ _ x).elim))
        obtain ⟨v, H8, I8, r8, hz, hH8, w8⟩ := h8
        refine wpAny_bind (wpAny_mono (mt_append (X := cxComp X scope N cl C s3 H3 fp) _ s8 σ6 H8 (.ref p) [v] (.ref p) [y] (fun x H9 => x = .non ∧ H9 = upd H8 p (.lst (ys ++ [v]))) I8 rfl (.cons r8 .nil) ⟨p, ys, v, rfl, rfl, hH8, hz, rfl, rfl⟩) (fun _ s9 h9 => ?_) fun _ _ x => (hxe _ _ x).elim)
        obtain ⟨z, H9, I9, _, _, e9⟩ := h9
        subst e9
        exact wpAny_pure (wpAny_pure ⟨rfl, again I9 w8⟩)
  exact codeAny_compStart_list loop (T.self X.A 0 _ _ _ st4 loop)
theorem ps_comp {X : Cx} {elt tg iter : Expr} {ifs : List Expr} {scope : Scope} {pos spos py : Pos} {wi : TI} {g : TG} {tc : TT} {te : TE} {N : List Str} {σ0 : St → St} {i : Nat} {y : Str}
    (hN : X.N.Nodup) (hiy : X.N[i]? = some y) (hy : Loc X.env.scope y)
    (hc : X.calm = true) (hxe : ∀ e s, X.xe e s → False) (hcell : ∀ y ∈ scope.names, y.2 ≠ .cell) (hkind : scope.kind = .function) (hnames : ∀ y ∈ scope.names, y.2 = .local → scope.names.lookup y.1 = some .local)
    (hfr : ∀ y ∈ scope.names, y.2 = .free → X.env.kindOf y.1 = some .cell ∨ X.env.kindOf y.1 = some .free) (hσ : Sees X scope N σ0)
    (hi : PI X tg iter wi)
    (hg : ∀ cl C s H ex, PG (cxComp X scope N cl C s H ex) tg g) (ht : ∀ cl C s H ex, PTs (cxComp X scope N cl C s H ex) ifs tc) (he : ∀ cl C s H ex, PE (cxComp X scope N cl C s H ex) elt te)
    (hs : ∀ x, foldedSetIterable iter X.env x = pure x := by intro _; rfl) (hsw : swapsWith (.ListComp elt [⟨tg, iter, ifs, 0⟩] scope pos) (some (.Name y py)) spos.line X.env = pure true := by rfl)
    (hf : X.fn y = true ∨ X.env.scope.names.lookup y = some .local := by first | exact .inl rfl | exact .inr rfl | assumption) :
    PS X (.Assign [.Name y py] (.ListComp elt [⟨tg, iter, ifs, 0⟩] scope pos) spos) (tAsg (tComp σ0 wi g tc te) (gName i)) := by
  intro pins s σ H D I h
  rw [exec_Assign_Name_used _ _ _ _ hsw]
  refine wpAny_bind (wpAny_standAt (wpAny_bind ?_))
  show wpAny _ X.A (do let _ ← comprehension (.ListComp elt [⟨tg, iter, ifs, 0⟩] scope pos) scope X.env _ (newList []) false (eval iter X.env) (some (assign (.Name y py) X.env))) _ _ s
  refine wpAny_bind (wpAny_mono (comp_core (use := some (assign (.Name y py) X.env)) (QQ := fun _ s' => SP X pins D .next s') hc hxe hcell hkind hnames hfr hσ hi hg ht he hs I h ?_) (fun _ s' hq => wpAny_pure (wpAny_pure hq)) fun _ _ e => e)
  intro p C H' s' m f I5 fC hn back q
  show wpAny _ X.A (assign (.Name y py) X.env (.ref p)) _ _ _
  have hnC := id hn
  obtain ⟨o, es, ep, ho, hd, _⟩ := hnC
  have Ip := I5.pinned (fp := [C]) (fun b hb => by rw [List.mem_singleton.mp hb]; exact fC) (fun b hb => ⟨o, by rw [List.mem_singleton.mp hb]; exact ho, fun v z => by rw [hd] at z; cases z⟩)
  refine wpAny_mono (pg_name (pos := py) hN hiy hy hf (pins ++ pinsAt [C] s'.heap) s' σ H' (.ref p) (.ref p) _ Ip rfl q) (fun _ s2 h2 => ?_) fun _ _ e => e
  obtain ⟨σ2, H2, I2, q2⟩ := h2
  have hp2 := I2.pin (C, o) (List.mem_append_right _ (List.mem_append_right _ (mem_pinsAt (by simp) ho)))
  refine ⟨m, hn.at' (fun o' e => ?_), fun h' hsb => ⟨σ2, H2, ?_, q2⟩⟩
  · rw [ho] at e; cases e; exact hp2.1
  · exact Inv.turned (it := C) (t' := s2.toks) I2.unpinned (fun b o hb e => hsb.extBut b o hb e) hp2.2.1 hp2.2.2.1 fC.2.2.2.1 fC.2.2.2.2.1 fC.2.2.2.2.2
end L2
namespace L2
open PySem PySem.Spec PyProof.Rows
section
variable {X : Cx} {e : Expr} {te : TE} {p2 p3 p4 pos : Pos} {k1 : Nat}
end
end L2

set_option Elab.async false
set_option linter.all false
set_option maxRecDepth 100000
set_option maxHeartbeats 4000000
namespace L2
open PySem PySem.Spec PyProof.Rows MA
/-- a comprehension's names: its own, then the def's that it reads -/
theorem Sees.frees {X : Cx} {scope : Scope} (ks : List Str) (fs : List (Str × Nat)) (h : ∀ p ∈ fs, scope.names.lookup p.1 = some .free ∧ X.N[p.2]? = some p.1) :
    Sees X scope (ks ++ fs.map (·.1)) (fun σ => ks.map (fun _ => none) ++ fs.map fun p => σ.getD p.2 none) := by
  intro σ
  refine ⟨by simp, fun i x v h1 h2 => ?_⟩
  by_cases hi : i < ks.length
  · rw [List.getElem?_append_left (by simpa using hi), List.getElem?_map] at h2
    cases e : ks[i]? with
    | none => rw [e] at h2; cases h2
    | some y => rw [e] at h2; cases h2
  · rw [List.getElem?_append_right (by omega), List.getElem?_map] at h1
    rw [List.getElem?_append_right (by simp; omega), List.getElem?_map, List.length_map] at h2
    cases e : fs[i - ks.length]? with
    | none => rw [e] at h1; cases h1
    | some p =>
      rw [e] at h1 h2
      cases h1
      obtain ⟨a, b⟩ := h p (List.mem_of_getElem? e)
      refine ⟨a, p.2, b, ?_⟩
      have h3 : σ.getD p.2 none = some v := by simpa using h2
      rw [List.getD_eq_getElem?_getD] at h3
      cases z : σ[p.2]? with
      | none => rw [z] at h3; cases h3
      | some u => rw [z] at h3; exact congrArg some h3
/-- [.. for k in range(n)], no test -/
theorem comp_rng {n : Nat} {lo : Int} {te : TE} {H : Hp} {R : Addr → Hp → Prop} {fs : St} (Pv : Addr → Nat → List V → Hp → Prop) (hn : n ≤ 100000) (hp0 : ∀ p, H p = none → Pv p 0 [] (upd H p (.lst [])))
    (hte : ∀ p i ys H', H p = none → i < n → ys.length = i → Pv p i ys H' → H' p = some (.lst ys) → ∀ Q' : VK, (∀ v H'', H'' p = some (.lst ys) → Pv p (i + 1) (ys ++ [v]) (upd H'' p (.lst (ys ++ [v]))) → Q' v H'') → te (some (.int (lo + i)) :: fs) H' Q')
    (q : ∀ p ys H', H p = none → Pv p n ys H' → H' p = some (.lst ys) → ys.length = n → R p H') :
    ∀ p, H p = none → ∃ W : Nat → Nat → List V → St → Hp → Prop, (∃ m, W 0 m [] (none :: fs) (upd H p (.lst []))) ∧ ∀ i m ys σ' H', W i m ys σ' H' →
      ((Itr lo n).stop i H' ∧ R p H') ∨ ((Itr lo n).go i H' ∧ ∀ x H2, (Itr lo n).yld i H' x H2 → gName 0 x σ' H2 fun σ2 H3 => tTT σ2 H3 fun b H4 => if b = true then te σ2 H4 fun v H5 => ys.length < sizeLine ∧ H5 p = some (.lst ys) ∧ (∃ m', m' < m ∧ W (i + 1) m' (ys ++ [v]) σ2 (upd H5 p (.lst (ys ++ [v]))))
        else ∃ m', m' < m ∧ W (i + 1) m' ys σ2 H4) := by
  intro p hp
  refine ⟨fun i m ys σ' H' => m = n - i ∧ i ≤ n ∧ ys.length = i ∧ Pv p i ys H' ∧ H' p = some (.lst ys) ∧ ∃ o, σ' = o :: fs, ⟨n, by simp, Nat.zero_le _, rfl, hp0 p hp, upd_same, _, rfl⟩, ?_⟩
  rintro i m ys σ' H' ⟨rfl, hi, hl, pv, hp', o, rfl⟩
  by_cases hlt : i < n
  · refine .inr ⟨hlt, fun x H2 hy => ?_⟩
    obtain ⟨rfl, rfl⟩ := hy
    change te (some (.int (lo + i)) :: fs) H2 _
    refine hte p i ys H2 hp hlt hl pv hp' _ fun v H5 h5 pv5 => ⟨?_, h5, n - (i + 1), by omega, rfl, hlt, by simp [hl], pv5, upd_same, _, rfl⟩
    rw [hl, sizeLine_eq]; omega
  · have e : i = n := by omega
    subst e
    exact .inl ⟨Nat.le_refl _, q p ys H' hp pv hp' hl⟩
/-! ### sums over one common bottom -/
end L2
namespace L2
open PySem
theorem fr_nil {C : Str × Nat → Prop} : ∀ p ∈ ([] : List (Str × Nat)), C p := fun _ h => nomatch h
theorem fr_cons {C : Str × Nat → Prop} {a : Str × Nat} {l : List (Str × Nat)} (h : C a) (t : ∀ p ∈ l, C p) : ∀ p ∈ a :: l, C p := fun p hp => (List.mem_cons.mp hp).elim (fun e => e ▸ h) (t p)
theorem hfr_of {scope : Scope} {env : Env} (h : scope.names.all (fun y => y.2 != .free || env.kindOf y.1 == some .cell || env.kindOf y.1 == some .free) = true) : ∀ y ∈ scope.names, y.2 = .free → env.kindOf y.1 = some .cell ∨ env.kindOf y.1 = some .free := by
  intro y hy hf
  have := List.all_eq_true.mp h y hy
  rw [hf] at this
  simpa using this
end L2

set_option Elab.async false
set_option linter.all false
set_option maxRecDepth 100000
set_option maxHeartbeats 4000000
namespace L2
open PySem PySem.Spec PyProof.Rows
section
variable {X : Cx}
end
end L2
namespace L2
open PySem PySem.Spec PyProof.Rows MA
section
variable {X : Cx}
end
/-- [.. for x in xs], xs a list, no test -/
theorem comp_lst {K : PySem.W.Frag} {a : Addr} {xs : List V} {te : TE} {H : Hp} {R : Addr → Hp → Prop} {fs : St} (Pv : Addr → Nat → List V → Hp → Prop) (hn : xs.length ≤ 100000) (hp0 : ∀ p, H p = none → Pv p 0 [] (upd H p (.lst [])))
    (hl : ∀ p i ys H', H p = none → Pv p i ys H' → H' a = some (.lst xs))
    (hte : ∀ p i ys H' x, H p = none → xs[i]? = some x → ys.length = i → Pv p i ys H' → H' p = some (.lst ys) → ∀ Q' : VK, (∀ v H'', H'' p = some (.lst ys) → Pv p (i + 1) (ys ++ [v]) (upd H'' p (.lst (ys ++ [v]))) → Q' v H'') → te (some x :: fs) H' Q')
    (q : ∀ p ys H', H p = none → Pv p xs.length ys H' → H' p = some (.lst ys) → ys.length = xs.length → R p H') :
    ∀ p, H p = none → ∃ W : Nat → Nat → List V → St → Hp → Prop, (∃ m, W 0 m [] (none :: fs) (upd H p (.lst []))) ∧ ∀ i m ys σ' H', W i m ys σ' H' →
      ((Itl K a).stop i H' ∧ R p H') ∨ ((Itl K a).go i H' ∧ ∀ x H2, (Itl K a).yld i H' x H2 → gName 0 x σ' H2 fun σ2 H3 => tTT σ2 H3 fun b H4 => if b = true then te σ2 H4 fun v H5 => ys.length < sizeLine ∧ H5 p = some (.lst ys) ∧ (∃ m', m' < m ∧ W (i + 1) m' (ys ++ [v]) σ2 (upd H5 p (.lst (ys ++ [v]))))
        else ∃ m', m' < m ∧ W (i + 1) m' ys σ2 H4) := by
  intro p hp
  refine ⟨fun i m ys σ' H' => m = xs.length - i ∧ i ≤ xs.length ∧ ys.length = i ∧ Pv p i ys H' ∧ H' p = some (.lst ys) ∧ ∃ o, σ' = o :: fs, ⟨xs.length, by simp, Nat.zero_le _, rfl, hp0 p hp, upd_same, _, rfl⟩, ?_⟩
  rintro i m ys σ' H' ⟨rfl, hi, hlen, pv, hp', o, rfl⟩
  have hla := hl p i ys H' hp pv
  by_cases hlt : i < xs.length
  · refine .inr ⟨⟨xs, xs[i], SqL.of hla, List.getElem?_eq_getElem hlt⟩, fun x H2 hy => ?_⟩
    obtain ⟨rfl, hx⟩ := hy
    have hx' := hx xs (SqL.of hla)
    change te (some x :: fs) H2 _
    refine hte p i ys H2 x hp hx' hlen pv hp' _ fun v H5 h5 pv5 => ⟨?_, h5, xs.length - (i + 1), by omega, rfl, hlt, by simp [hlen], pv5, upd_same, _, rfl⟩
    rw [hlen, sizeLine_eq]; omega
  · have e : i = xs.length := by omega
    subst e
    exact .inl ⟨⟨xs, SqL.of hla, Nat.le_refl _⟩, q p ys H' hp pv hp' hlen⟩
end L2

set_option Elab.async false
set_option linter.all false
set_option maxRecDepth 100000
set_option maxHeartbeats 4000000
namespace L2
open PySem PySem.Spec PyProof.Rows
section
variable {X : Cx} {e : Expr} {t : TA} {p p3 p4 pos : Pos}
/-- sorted(xs, reverse=b), xs a list of ints -/
def tSortR (b : Bool) (t : TA) : TE := fun σ H Q => t σ H fun vs H1 => ∃ (l : Addr) (ns : List Int), vs = [.ref l] ∧ H1 l = some (.lst (ns.map V.int)) ∧ ns.length < 64 ∧ ∀ (q : Addr) (ms : List Int), H1 q = none → ms.Perm ns → Ordered b ms → Q (.ref q) (upd H1 q (.lst (ms.map V.int)))
theorem pe_sortedR {b : Bool} {kk : _} (hg : Gl X "sorted") (hm : X.mg "sorted" = none) (ha : PA X [e] t)
    (he : backTo pos (starEach [e] X.env) = (false, eval e X.env) :: backTo pos (starEach [] X.env) := by rfl) (hpl : (backTo pos (starEach [e] X.env)).any (·.1) = false := by rfl) :
    PE X (.Call (.Name "sorted" p) [e] [⟨some "reverse", .Constant (.bool b) kk p3, p4⟩] pos) (tSortR b t) := by
  intro pins s σ H Q I h
  refine wpAny_Call_Name_kw (ld_blt I hg hm bt_sorted ?_ (by decide) (by decide))
  refine callWith_kw (thn (ha pos pins s σ H _ I h) fun us s1 ⟨vs, H1, I1, r1, q1⟩ => ?_) he hpl
  obtain ⟨l, ns, rfl, hl, h64, q⟩ := q1
  obtain ⟨u, rfl, ru⟩ := vals1 r1
  cases ru
  show wpAny _ X.A (evalAll [(do let v ← eval (.Constant (.bool b) kk p3) X.env; standAt pos; pure v)]) _ _ s1
  refine wpAny_evalAll_cons (wpAny_bind (Constant_bool (wpAny_bind (wpAny_standAt (wpAny_pure (wpAny_evalAll_nil ?_))))))
  show wpAny _ X.A (call (.builtin "sorted") [.ref l] [(Str.ofString "reverse", .bool b)]) _ _ _
  obtain ⟨its, rv, pl, hz⟩ := I1.list (SqL.of (K := X.K) hl)
  have hlen := rv.length
  rw [List.length_map] at hlen
  refine sorted_ints_rev pl.isList (intsAre_of rv) (by omega) fun out ms a1 a2 a3 => ?_
  obtain ⟨ee, he'⟩ := sortedAll_at s1.heap its out
  have hml : ms.length = ns.length := a2.length_eq
  refine ⟨.ref (s1.heap.objs.size + 1), _, I1.laid (t' := s1.toks) (a := s1.heap.objs.size + 1) (o := .lst (ms.map V.int)) (fun b o q => sortedAll_old q) (Nat.le_succ _) ⟨?_, out.toList, ee, vals_ints a1, ?_⟩, rfl, q _ ms (I1.hok.fresh (Nat.le_succ _)) a2 a3⟩
  · rw [List.length_map, hml, sizeLine_eq]; omega
  · rw [he']
end
end L2
namespace L2
open PySem PySem.Spec PyProof.Rows MA
section
variable {X : Cx}
theorem ix_tup0 : IxR X (fun x y H Q => ∃ p xs i v, x = .ref p ∧ y = .int i ∧ H p = some (.tup xs) ∧ atI xs i = some v ∧ Q v H) := by
  intro value slice pins s σ H x y v u Q I rx ry h hs
  obtain ⟨p, xs, i, w', e1, e2, hp, ha, q⟩ := h
  exact ix_tup value slice pins s σ H x y v u Q I rx ry ⟨p, xs, i, w', e1, e2, SqT.of hp, ha, q⟩ hs
end
/-- [.. for x in t], t a tuple, no test -/
theorem comp_tp {K : PySem.W.Frag} {a : Addr} {xs : List V} {te : TE} {H : Hp} {R : Addr → Hp → Prop} {fs : St} (Pv : Addr → Nat → List V → Hp → Prop) (hn : xs.length ≤ 100000) (hp0 : ∀ p, H p = none → Pv p 0 [] (upd H p (.lst [])))
    (hl : ∀ p i ys H', H p = none → Pv p i ys H' → H' a = some (.tup xs))
    (hte : ∀ p i ys H' x, H p = none → xs[i]? = some x → ys.length = i → Pv p i ys H' → H' p = some (.lst ys) → ∀ Q' : VK, (∀ v H'', H'' p = some (.lst ys) → Pv p (i + 1) (ys ++ [v]) (upd H'' p (.lst (ys ++ [v]))) → Q' v H'') → te (some x :: fs) H' Q')
    (q : ∀ p ys H', H p = none → Pv p xs.length ys H' → H' p = some (.lst ys) → ys.length = xs.length → R p H') :
    ∀ p, H p = none → ∃ W : Nat → Nat → List V → St → Hp → Prop, (∃ m, W 0 m [] (none :: fs) (upd H p (.lst []))) ∧ ∀ i m ys σ' H', W i m ys σ' H' →
      ((Itt K a).stop i H' ∧ R p H') ∨ ((Itt K a).go i H' ∧ ∀ x H2, (Itt K a).yld i H' x H2 → gName 0 x σ' H2 fun σ2 H3 => tTT σ2 H3 fun b H4 => if b = true then te σ2 H4 fun v H5 => ys.length < sizeLine ∧ H5 p = some (.lst ys) ∧ (∃ m', m' < m ∧ W (i + 1) m' (ys ++ [v]) σ2 (upd H5 p (.lst (ys ++ [v]))))
        else ∃ m', m' < m ∧ W (i + 1) m' ys σ2 H4) := by
  intro p hp
  refine ⟨fun i m ys σ' H' => m = xs.length - i ∧ i ≤ xs.length ∧ ys.length = i ∧ Pv p i ys H' ∧ H' p = some (.lst ys) ∧ ∃ o, σ' = o :: fs, ⟨xs.length, by simp, Nat.zero_le _, rfl, hp0 p hp, upd_same, _, rfl⟩, ?_⟩
  rintro i m ys σ' H' ⟨rfl, hi, hlen, pv, hp', o, rfl⟩
  have hla := hl p i ys H' hp pv
  by_cases hlt : i < xs.length
  · refine .inr ⟨⟨xs, xs[i], SqT.of hla, List.getElem?_eq_getElem hlt⟩, fun x H2 hy => ?_⟩
    obtain ⟨rfl, hx⟩ := hy
    have hx' := hx xs (SqT.of hla)
    change te (some x :: fs) H2 _
    refine hte p i ys H2 x hp hx' hlen pv hp' _ fun v H5 h5 pv5 => ⟨?_, h5, xs.length - (i + 1), by omega, rfl, hlt, by simp [hlen], pv5, upd_same, _, rfl⟩
    rw [hlen, sizeLine_eq]; omega
  · have e : i = xs.length := by omega
    subst e
    exact .inl ⟨⟨xs, SqT.of hla, Nat.le_refl _⟩, q p ys H' hp pv hp' hlen⟩
end L2
namespace L2
open PySem PySem.Spec PyProof.Rows MA
section
variable {X : Cx}
/-- t + u of tuples, also of empty ones -/
def rCatT' (K : PySem.W.Frag) : R2 := fun x y H Q => ∃ a b xs ys, x = .ref a ∧ y = .ref b ∧ SqT K H a xs ∧ SqT K H b ys ∧ xs.length + ys.length ≤ sizeLine ∧
  (xs = [] → Q (.ref b) H) ∧ (xs ≠ [] → ys = [] → Q (.ref a) H) ∧ (xs ≠ [] → ys ≠ [] → ∀ p, H p = none → Q (.ref p) (upd H p (.tup (xs ++ ys))))
theorem op_catT' : OpR X (binaryOp .Add) (rCatT' X.K) := by
  intro pins s σ H x y v u Q I rx ry h
  obtain ⟨a, b, xs, ys, e1, e2, ha, hb, hz, q0, q1, q2⟩ := h
  by_cases e : xs = []
  · subst e1 e2
    subst e
    cases rx
    cases ry
    obtain ⟨its, r1, p1, _⟩ := I.tuple ha
    obtain ⟨its2, r2, p2, _⟩ := I.tuple hb
    cases r1
    obtain ⟨⟨cls, dd, data, sl⟩, ho, hc, n, hd⟩ := id p1
    obtain ⟨⟨cls2, dd2, data2, sl2⟩, ho2, hc2, n2, hd2⟩ := id p2
    simp only at hc hd hc2 hd2
    subst hc hd hc2 hd2
    exact concat_meets ⟨_, ho, rfl⟩ ⟨_, ho2, rfl⟩ noFill_tuple_add seq_tuple_add PySem.F.slot_tuple_add PySem.F.entry_tuple_add (PySem.F.args_tuple_add_2 _ _)
      (tuple_addW0 a b [].toArray its2.toArray n n2 dd dd2 sl sl2 (by simp)) ⟨ho, ho2, ⟨.ref b, H, I, rfl, q0 rfl⟩⟩
  · exact op_catT pins s σ H x y v u Q I rx ry ⟨a, b, xs, ys, e1, e2, ha, hb, e, hz, q1 e, q2 e⟩
end
end L2

set_option Elab.async false
set_option linter.all false
set_option maxRecDepth 100000
set_option maxHeartbeats 1000000
namespace L2
open PySem PySem.Spec PyProof.Rows MA
theorem tuple_mul1 (l : Addr) (items : Array Value) (n : Nat) (dd : Option Addr) (sl : Array (Option Value)) (u : Tok) :
    Meets (Builtin.«tuple.__mul__» ⟨[.ref l, .int 1 u], []⟩) (fun _ R s => s.heap.get? l = some { cls := .type "tuple", dict := dd, data := .seq items n, slots := sl } ∧ R (.ok (.ret (Value.ref l))) { s with heap := s.heap, toks := s.toks }) :=
  .of_wp fun prog w A R s h => by
    obtain ⟨hp, g, d, tk, os⟩ := s; obtain ⟨hl, h⟩ := h
    have f1 := AutoSeq1.idx_int; have f2 := AutoSeq1.sub_tuple_tuple; have f3 := AutoSeq1.sub_list_list; have f4 := AutoSeq1.sub_tuple_list; have f5 := AutoSeq1.sub_list_tuple
    wp_walk using wpAny_loadPart' hl
    exact ⟨_, rfl, h⟩
theorem tuple_mul0 (l : Addr) (items : Array Value) (n : Nat) (dd : Option Addr) (sl : Array (Option Value)) (u : Tok) (he : ¬ items.isEmpty = true) :
    Meets (Builtin.«tuple.__mul__» ⟨[.ref l, .int 0 u], []⟩) (fun _ R s => s.heap.get? l = some { cls := .type "tuple", dict := dd, data := .seq items n, slots := sl } ∧ R (.ok (.ret (Value.ref s.heap.objs.size))) { s with heap := s.heap.push { cls := Value.type "tuple", data := Data.seq #[] }, toks := s.toks }) :=
  .of_wp fun prog w A R s h => by
    obtain ⟨hp, g, d, tk, os⟩ := s; obtain ⟨hl, h⟩ := h
    have f1 := AutoSeq1.idx_int; have f2 := AutoSeq1.sub_tuple_tuple; have f3 := AutoSeq1.sub_list_list; have f4 := AutoSeq1.sub_tuple_list; have f5 := AutoSeq1.sub_list_tuple
    wp_walk using wpAny_loadPart' hl
    exact ⟨_, rfl, h⟩
theorem tuple_mul2 (l : Addr) (items : Array Value) (n : Nat) (dd : Option Addr) (sl : Array (Option Value)) (x : Int) (u : Tok) (he : items.isEmpty = false) (h1 : (decide (x < -(2 ^ 63)) || decide (x ≥ 2 ^ 63)) = false) (h2 : (x == 1) = false) (h3 : decide (x ≤ 0) = false)
    (h4 : decide ((items.size : Int) * x > (2 ^ 63 - 1) / 8) = false) (h5 : Builtin.Tuple.tupleTooMany ((items.size : Int) * x) = false) (h6 : ((List.replicate x.toNat items).foldl (· ++ ·) #[]).size ≤ sizeLine) :
    Meets (Builtin.«tuple.__mul__» ⟨[.ref l, .int x u], []⟩) (fun _ R s => s.heap.get? l = some { cls := .type "tuple", dict := dd, data := .seq items n, slots := sl } ∧ R (.ok (.ret (Value.ref s.heap.objs.size))) { s with heap := s.heap.push { cls := Value.type "tuple", data := Data.seq ((List.replicate x.toNat items).foldl (· ++ ·) #[]) }, toks := s.toks }) :=
  .of_wp fun prog w A R s h => by
    obtain ⟨hp, g, d, tk, os⟩ := s; obtain ⟨hl, h⟩ := h
    have f1 := AutoSeq1.idx_int; have f2 := AutoSeq1.sub_tuple_tuple; have f3 := AutoSeq1.sub_list_list; have f4 := AutoSeq1.sub_tuple_list; have f5 := AutoSeq1.sub_list_tuple
    wp_walk using wpAny_loadPart' hl
    refine wpAny_ite_false (by rw [h1]; rfl) ?_
    wp_walk using wpAny_loadPart' hl
    refine wpAny_ite_false h4 ?_
    wp_walk using wpAny_loadPart' hl
    first
    | exact ⟨_, rfl, h⟩
    | (refine wpAny_ite_false (by rw [h5]; rfl) ?_
       wp_walk using wpAny_loadPart' hl
       first
       | exact ⟨_, rfl, h⟩
       | (refine wpAny_ite_false (decide_eq_false (Nat.not_lt.mpr h6)) ?_
          wp_walk using wpAny_loadPart' hl
          exact ⟨_, rfl, h⟩))
    | (refine wpAny_ite_false (decide_eq_false (Nat.not_lt.mpr h6)) ?_
       wp_walk using wpAny_loadPart' hl
       exact ⟨_, rfl, h⟩)
theorem noFill_tuple_mul : fillsNumberSlot (.type "tuple") "mul" = pure false :=
  PySem.fillsNumberSlot_seq (id := "tuple.__mul__") (r := some (.builtin "tuple.__rmul__")) F.slot_tuple_mul.lookup (by decide +kernel) F.slot_tuple_rmul.lookup (by decide +kernel)
theorem repeat_tuple : seqRepeat? (.type "tuple") = pure (some (.builtin "tuple.__mul__")) := by
  unfold seqRepeat?
  rw [PySem.seqSlot_of (T := "tuple") (name := "__mul__") (id := "tuple.__mul__") F.slot_tuple_mul.lookup (by decide +kernel), PySem.seqSlot_of (T := "tuple") (name := "__rmul__") (id := "tuple.__rmul__") F.slot_tuple_rmul.lookup (by decide +kernel)]
  rfl
theorem int_rmul_tuple (a : Int) (t : Tok) (l : Addr) (items : Array Value) (n : Nat) (d : Option Addr) (sl : Array (Option Value)) :
    Meets (Builtin.«int.__rmul__» ⟨[.int a t, .ref l], []⟩) (fun _ R s => s.heap.get? l = some { cls := .type "tuple", dict := d, data := .seq items n, slots := sl } ∧ R (.ok (.ret Value.notImplemented)) s) :=
  .of_wp fun prog w A R s h => by obtain ⟨hp, g, d, tk, os⟩ := s; obtain ⟨hl, h⟩ := h; wp_walk; exact ⟨_, rfl, h⟩
theorem foldl_rep' {α : Type} (its : List α) : ∀ (m : Nat) (acc : List α), List.foldl (fun x1 x2 => x1 ++ x2) acc.toArray (List.replicate m its.toArray) = (acc ++ (List.replicate m its).flatten).toArray
  | 0, acc => by simp
  | m + 1, acc => by
    rw [List.replicate_succ, List.foldl_cons, List.replicate_succ, List.flatten_cons]
    have : acc.toArray ++ its.toArray = (acc ++ its).toArray := by simp
    rw [this, foldl_rep' its m (acc ++ its), List.append_assoc]
section
variable {X : Cx}
/-- a tuple times an int, the tuple not empty, from 0 to a thousand times -/
theorem op_repT : OpR X (binaryOp .Mult) (fun x y H Q => ∃ l k xs, x = .ref l ∧ y = .int k ∧ H l = some (.tup xs) ∧ xs ≠ [] ∧ 0 ≤ k ∧ k ≤ 1000 ∧ xs.length ≤ 1000 ∧
    (k = 1 → Q (.ref l) H) ∧ (k ≠ 1 → ∀ p, H p = none → Q (.ref p) (upd H p (.tup (List.replicate k.toNat xs).flatten)))) := by
  intro pins s σ H x y v u Q I rx ry h
  obtain ⟨l, k, xs, rfl, rfl, hH, hne, k0, k1, hx, q1, q2⟩ := h
  cases rx
  obtain ⟨t, rfl⟩ := ry
  obtain ⟨its, r, p1, hz⟩ := I.tuple (SqT.of (K := X.K) hH)
  have hlen := r.length
  have hne' : its ≠ [] := fun z => hne (r.nil_iff.mp z)
  obtain ⟨⟨cls, dd, data, sl⟩, ho, hc, n, hd⟩ := id p1
  simp only at hc hd
  subst hc hd
  refine wpAny_binaryOp_repeat_ref (T := "tuple") (U := "int") (by decide) ⟨_, ho, rfl⟩ (fun s' => typeIs_int s' k t) noFill_tuple_mul F.fills_int_mul F.slot_int_rmul repeat_tuple F.slot_int_index.lookup
    (call_meets F.slot_int_rmul (typeIs_int s k t) F.entry_int_rmul (F.args_int_rmul_2 _ _) (int_rmul_tuple k t l its.toArray n dd sl) ⟨ho, rfl, ⟨_, ho, rfl⟩, ?_⟩)
  have new : ∀ zs : List V, ∀ us : List Value, Vals zs us → zs.length ≤ sizeLine → (∀ p, H p = none → Q (.ref p) (upd H p (.tup zs))) → EP X pins σ Q (.ref s.heap.objs.size) { s with heap := s.heap.push { cls := .type "tuple", data := .seq us.toArray } } := fun zs us rz hzs hq =>
    ⟨.ref s.heap.objs.size, _, I.laid (t' := s.toks) (o := .tup zs) (fun b ob q => Heap.get?_push_of_some _ q) (Nat.le_refl _) ⟨hzs, _, rz, IsTup.new _ _⟩, rfl, hq _ (I.hok.fresh (Nat.le_refl _))⟩
  by_cases e1 : k = 1
  · subst e1
    exact call_meets F.slot_tuple_mul ⟨_, ho, rfl⟩ F.entry_tuple_mul (F.args_tuple_mul_2 _ _) (tuple_mul1 l its.toArray n dd sl t) ⟨ho, ⟨.ref l, H, I, rfl, q1 rfl⟩⟩
  by_cases e0 : k = 0
  · subst e0
    exact call_meets F.slot_tuple_mul ⟨_, ho, rfl⟩ F.entry_tuple_mul (F.args_tuple_mul_2 _ _) (tuple_mul0 l its.toArray n dd sl t (by simpa using hne')) ⟨ho, new [] [] .nil (by simp) (q2 (by decide))⟩
  have hfold : List.foldl (fun x1 x2 => x1 ++ x2) #[] (List.replicate k.toNat its.toArray) = (List.replicate k.toNat its).flatten.toArray := by
    have := foldl_rep' its k.toNat []
    simpa using this
  have hsz : (its.length : Int) * k ≤ 1000 * 1000 := Int.mul_le_mul (by omega) k1 k0 (by decide)
  have hflat : (List.replicate k.toNat its).flatten.length ≤ sizeLine := by
    rw [len_rep]
    have : k.toNat * its.length ≤ 1000 * 1000 := Nat.mul_le_mul (by omega) (by omega)
    rw [sizeLine_eq]; omega
  refine call_meets F.slot_tuple_mul ⟨_, ho, rfl⟩ F.entry_tuple_mul (F.args_tuple_mul_2 _ _) (tuple_mul2 l its.toArray n dd sl k t (by simpa using hne') ?_ (by simpa using e1) (by simp; omega) ?_ ?_ (by rw [hfold]; simpa using hflat)) ⟨ho, ?_⟩
  · simp; omega
  · simp; omega
  · unfold Builtin.Tuple.tupleTooMany
    rw [List.size_toArray, sizeLine_eq]
    simp
    omega
  · rw [hfold]
    refine new _ _ (r.rep k.toNat) ?_ (q2 e1)
    rw [len_rep]
    have : k.toNat * xs.length ≤ 1000 * 1000 := Nat.mul_le_mul (by omega) (by omega)
    rw [sizeLine_eq]; omega
end
end L2

set_option Elab.async false
set_option linter.all false
set_option maxRecDepth 100000
set_option maxHeartbeats 1000000
namespace L2
open PySem PySem.Spec PyProof.Rows
section
variable {X : Cx} {pins : List (Addr × Obj)} {σ : St} {H : Hp} {s : Shared} {h' : Heap} {fp : List Addr}
/-- several records of ours have turned -/
theorem Inv.turnedL {t' : Nat} (I : Inv X pins σ H s) (hf : ∀ b ∈ fp, FpOk X pins H b) (k : ∀ b o, b ∉ fp → s.heap.get? b = some o → h'.get? b = some o) : Inv X pins σ H { s with heap := h', toks := t' } := by
  have nit : ∀ b u, H b = some u → b ∉ fp := fun b u e z => by rw [(hf b z).1] at e; cases e
  have hL : X.env.locals ∉ fp := fun z => (hf _ z).2.1 rfl
  refine I.step (g' := s.gens) (d' := s.drawn) (ch := fp) (fun b hb => ⟨(hf b hb).2.2.2.1, (hf b hb).2.1, (hf b hb).2.2.2.2.1, (hf b hb).2.2.2.2.2⟩) (fun b o _ _ hc e _ => k b o hc e) (fun b o _ _ hc e _ => ⟨o.slots, k b o hc e⟩) (fun _ _ _ _ n => n)
    (fun b o hc e => ⟨o, k b o hc e⟩) (fun _ _ e => e) (fun _ _ _ e => e) (fun b ps e => ⟨#[], by rw [e]; simp⟩) (fun m hm => ?_) (fun b u e => ?_) I.bare
  · obtain ⟨o, es, ep, ho, r⟩ := hm
    exact ⟨o, es, ep, k _ o hL ho, r⟩
  · refine (I.hok b u e).stay (fun c v hc q => k c v ?_ q) (fun _ q => q) fun _ _ q => q
    rcases hc with z | z
    · rw [z]; exact nit b u e
    · exact nit c _ z
/-- .. and a new object is tracked -/
theorem Inv.turnedNew {t' : Nat} {T : Addr} {u : HO} (I : Inv X pins σ H s) (hf : ∀ b ∈ fp, FpOk X pins H b) (k : ∀ b o, b ∉ fp → s.heap.get? b = some o → h'.get? b = some o) (hT : s.heap.objs.size ≤ T) (new : ObjOk X.prog X.w (upd H T u) h' T u) :
    Inv X pins σ (upd H T u) { s with heap := h', toks := t' } := by
  have hn : H T = none := I.hok.fresh hT
  have nit : ∀ b u, H b = some u → b ∉ fp := fun b u e z => by rw [(hf b z).1] at e; cases e
  have hL : X.env.locals ∉ fp := fun z => (hf _ z).2.1 rfl
  have nT : ∀ b o, s.heap.get? b = some o → b ≠ T := fun b o e => Nat.ne_of_lt (Nat.lt_of_lt_of_le (Heap.lt_size e) hT)
  refine I.step (g' := s.gens) (d' := s.drawn) (ch := fp) (fun b hb => ⟨(hf b hb).2.2.2.1, (hf b hb).2.1, (hf b hb).2.2.2.2.1, (hf b hb).2.2.2.2.2⟩) (fun b o _ _ hc e _ => k b o hc e) (fun b o _ _ hc e _ => ⟨o.slots, k b o hc e⟩) (fun b o _ e n => by rw [upd_ne (nT b o e)]; exact n)
    (fun b o hc e => ⟨o, k b o hc e⟩) (fun b xs e => by rw [upd_ne (ne_of_none e hn)]; exact e) (fun b o v e => by rw [upd_ne (ne_of_none e hn)]; exact e) (fun b ps e => ⟨#[], by rw [upd_ne (ne_of_none e hn), e]; simp⟩) (fun m hm => ?_) (fun b v e => ?_) I.bare
  · obtain ⟨o, es, ep, ho, r⟩ := hm
    exact ⟨o, es, ep, k _ o hL ho, r⟩
  · by_cases hb : b = T
    · subst hb; rw [upd_same] at e; cases e; exact new
    · rw [upd_ne hb] at e
      refine (I.hok b v e).stay (fun c v' hc q => k c v' ?_ q) (fun c q => by rw [upd_ne (ne_of_none q hn)]; exact q) (fun c xs q => by rw [upd_ne (ne_of_none q hn)]; exact q) fun c ob q => by rw [upd_ne (ne_of_none q hn)]; exact q
      rcases hc with z | z
      · rw [z]; exact nit b v e
      · exact nit c _ z
end
theorem zip_apart {n a b : Nat} (ha : a < n) (hb : b < n) : ZipApart (n + 4) (n + 2) (n + 3) n (n + 1) a b := by
  constructor <;> (show ¬ ((_ : Nat) = _)) <;> omega
theorem boot_zip : bootBuiltins "zip" = some (.type "zip") := by decide +kernel
end L2

set_option Elab.async false
set_option linter.all false
set_option maxRecDepth 100000
set_option maxHeartbeats 1000000
namespace My
open PySem L2 MA
/-! a pen that is a list: its cells, where it stands, what is left -/
end My

set_option Elab.async false
set_option linter.all false
set_option maxRecDepth 100000
set_option maxHeartbeats 1000000
namespace L2
open PySem PySem.Spec PyProof.Rows
def gTup0 (n : Nat) (t : TGs) : TG := fun v σ H Q => ∃ a xs, v = .ref a ∧ H a = some (.tup xs) ∧ xs.length = n ∧ t xs σ H Q
theorem pg_tup0 {X : Cx} {pos : Pos} {es : List Expr} {k : Nat} {t : TGs} {n : Nat} (hc : X.calm = true) (h : PGs X es t)
    (hn : (assignEach es X.env).length = n := by rfl) (hst : (assignEach es X.env).findIdx? (·.1) = none := by rfl) : PG X (.Tuple es k pos) (gTup0 n t) := by
  intro pins s σ H v u Q I r hw
  obtain ⟨a, xs, e1, hq, hl, hw⟩ := hw
  exact pg_tup hc h hn hst pins s σ H v u Q I r ⟨a, xs, e1, SqT.of hq, hl, hw⟩
end L2
namespace My
open PySem L2 MA
end My

set_option Elab.async false
set_option linter.all false
set_option maxRecDepth 100000
set_option maxHeartbeats 4000000
namespace L2
open PySem PySem.Spec PyProof.Rows
section
variable {prog : Program} {w : World} {A : Around} {E : Value → Shared → Prop} {s : Shared}
/-- a tuple's iterator, drawn from -/
theorem nxt_tup_item {it t : Addr} {i : Nat} {its : Array Value} {x : Value} {Q : Value → Shared → Prop} (hi : s.heap.IsTupleIter it t i) (hs : s.heap.IsTuple t its) (hx : its[i]? = some x)
    (k : ∀ h', h'.IsTupleIter it t (i + 1) → Heap.SameBut it s.heap h' → Q x { s with heap := h' }) : wpAny (model prog w) A (Builtin.SmallTypes.nextOf (.ref it)) Q E s := by
  obtain ⟨ob, e1, e2, e3⟩ := id hi
  obtain ⟨oq, f1, f2, n, f3⟩ := hs
  unfold Builtin.SmallTypes.nextOf
  refine wpAny_bind (wpAny_callSpecial?_slot (name := Str.ofString "__next__") hi.typeIs F.slot_tuple_iterator_next (wpAny_call_entry F.slot_tuple_iterator_next hi.typeIs F.entry_tuple_iterator_next ?_ (F.args_tuple_iterator_next_1 _)))
  refine wpAny_bind (m := field (.ref it) 0) (wpAny_field e1 e3 (x := .ref t) rfl ?_)
  show wpAny (model prog w) _ (if (Value.ref t == Value.none) = true then _ else _) _ _ s
  rw [if_neg (by intro z; cases z)]
  refine wpAny_bind (m := field (.ref it) 1) (wpAny_field e1 e3 (x := .int i 0) rfl ?_)
  refine wpAny_bind (m := seqItems? (.ref t)) (wpAny_seqItems f1 f3 ?_)
  simp only [hx, Int.toNat_natCast]
  refine wpAny_bind (wpAny_setField e1 e3 (by simp) (wpAny_pure ⟨x, rfl, wpAny_pure (k _ ⟨_, Heap.get?_update_self _ e1 (Obj.isFreed_of_fields (Obj.data_mapFields e3 _)), (Obj.cls_mapFields ..).trans e2, ?_⟩ (Heap.SameBut.update ..))⟩))
  rw [Obj.data_mapFields e3]
  simp [rawInt]
theorem nxt_tup_end {it t : Addr} {i : Nat} {its : Array Value} {Q : Value → Shared → Prop} (hh : A.handled = none) (hi : s.heap.IsTupleIter it t i) (hs : s.heap.IsTuple t its) (hx : its[i]? = none)
    (k : ∀ h' e, Heap.ExtBut it s.heap h' → (∃ o, h'.get? e = some o ∧ o.cls = .type "StopIteration") → E (.ref e) { s with heap := h' }) : wpAny (model prog w) A (Builtin.SmallTypes.nextOf (.ref it)) Q E s := by
  obtain ⟨ob, e1, e2, e3⟩ := id hi
  obtain ⟨oq, f1, f2, n, f3⟩ := hs
  unfold Builtin.SmallTypes.nextOf
  refine wpAny_bind (wpAny_callSpecial?_slot (name := Str.ofString "__next__") hi.typeIs F.slot_tuple_iterator_next (wpAny_call_entry F.slot_tuple_iterator_next hi.typeIs F.entry_tuple_iterator_next ?_ (F.args_tuple_iterator_next_1 _)))
  refine wpAny_bind (m := field (.ref it) 0) (wpAny_field e1 e3 (x := .ref t) rfl ?_)
  show wpAny (model prog w) _ (if (Value.ref t == Value.none) = true then _ else _) _ _ s
  rw [if_neg (by intro z; cases z)]
  refine wpAny_bind (m := field (.ref it) 1) (wpAny_field e1 e3 (x := .int i 0) rfl ?_)
  refine wpAny_bind (m := seqItems? (.ref t)) (wpAny_seqItems f1 f3 ?_)
  simp only [hx, Int.toNat_natCast]
  refine wpAny_bind (wpAny_rule (wpAny_bind (wpAny_setField e1 e3 (by simp) (wpAny_bind (m := newExc (.type "StopIteration") []) ?_))))
  simp only [newTuple, newExc]
  refine wpAny_bind (wpAny_newObj_type (wpAny_bind (m := firstArgMember _ _) (wpAny_of_eq (a := Value.none) (by first | rfl | (simp only [firstArgMember]; rfl)) (wpAny_newObj_type ?_ (by size_fits)))) (by size_fits))
  simp only [raiseNew]
  refine wpAny_bind (wpAny_handled ?_)
  rw [show A.in1.handled = none from hh]
  refine wpAny_bind (wpAny_pure (wpAny_throw (k _ _ (((Heap.SameBut.update ..).extBut.push _).push _) ⟨_, Heap.get?_push_size _ rfl, rfl⟩)))
end
/-- a list (true) or a tuple (false) -/
def IsB (h : Heap) : Bool → Addr → Array Value → Prop
  | true => h.IsList
  | false => h.IsTuple
def IterB (h : Heap) : Bool → Addr → Addr → Nat → Prop
  | true => h.IsListIter
  | false => h.IsTupleIter
def SqB (K : PySem.W.Frag) (H : Hp) : Bool → Addr → List V → Prop
  | true => SqL K H
  | false => SqT K H
theorem IsB.at {h h' : Heap} {b : Bool} {a : Addr} {its : Array Value} (x : IsB h b a its) (k : ∀ o, h.get? a = some o → h'.get? a = some o) : IsB h' b a its := by
  cases b <;> (obtain ⟨o, e, r⟩ := x; exact ⟨o, k o e, r⟩)
theorem IterB.at {h h' : Heap} {b : Bool} {a l : Addr} {i : Nat} (x : IterB h b a l i) (k : ∀ o, h.get? a = some o → h'.get? a = some o) : IterB h' b a l i := by
  cases b <;> (obtain ⟨o, e, r⟩ := x; exact ⟨o, k o e, r⟩)
theorem IterB.ob {h : Heap} {b : Bool} {a l : Addr} {i : Nat} (x : IterB h b a l i) : ∃ o, h.get? a = some o ∧ ∀ v, o.data ≠ .cell v := by
  cases b <;> (obtain ⟨o, e, _, d⟩ := x; exact ⟨o, e, fun v z => by rw [d] at z; cases z⟩)
theorem IsB.lt {h : Heap} {b : Bool} {a : Addr} {its : Array Value} (x : IsB h b a its) : a < h.objs.size := by
  cases b <;> (obtain ⟨o, e, _⟩ := x; exact Heap.lt_size e)
theorem drawsB {prog : Program} {w : World} {A : Around} (hh : A.handled = none) (b : Bool) (it l : Addr) (hne : l ≠ it) (its : Array Value) :
    Draws prog w A it [it, l] its.size (fun i v => its[i]? = some v) (fun i h => IterB h b it l i ∧ IsB h b l its) := by
  cases b with
  | true => exact Draws.list hh it l hne its
  | false =>
    exact {
      live := fun _ _ st => let ⟨o, ho, _⟩ := st.1; ⟨o, ho⟩
      frame := fun _ _ _ st hk => ⟨st.1.at fun o e => hk it (by simp) o e, st.2.at fun o e => hk l (by simp) o e⟩
      item := fun i s Q E hi st hQ => nxt_tup_item st.1 st.2 (x := its[i]) (by simp [hi]) fun h' a sb => hQ _ h' s.toks (by simp [hi]) ⟨a, st.2.at fun o e => (sb.2 l hne).trans e⟩ sb
      done := fun s Q E st hE => nxt_tup_end hh st.1 st.2 (by simp) hE }
section
variable {X : Cx} {pins : List (Addr × Obj)} {σ : St} {H : Hp} {s : Shared} {a : Addr} {xs ys : List V} {b : Bool}
theorem Inv.seqB (I : Inv X pins σ H s) (h : SqB X.K H b a xs) : ∃ its : List Value, Vals xs its ∧ IsB s.heap b a its.toArray ∧ xs.length ≤ sizeLine := by
  cases b with
  | true => obtain ⟨its, r, p, z⟩ := I.list h; exact ⟨its, r, p.isList, z⟩
  | false => obtain ⟨its, r, p, z⟩ := I.tuple h; exact ⟨its, r, p, z⟩
theorem Inv.seqB_inj (I : Inv X pins σ H s) (h : SqB X.K H b a xs) (h' : SqB X.K H b a ys) : xs = ys := by
  cases b with
  | true => exact I.list_inj h h'
  | false => exact I.tuple_inj h h'
end
end L2

set_option Elab.async false
set_option linter.all false
set_option maxRecDepth 100000
set_option maxHeartbeats 4000000
namespace L2
open PySem PySem.Spec PyProof.Rows
section
variable {prog : Program} {w : World} {A : Around} {E : Value → Shared → Prop} {s : Shared}
theorem nxtB_item {b : Bool} {it t : Addr} {i : Nat} {its : Array Value} {x : Value} {Q : Value → Shared → Prop} (hi : IterB s.heap b it t i) (hs : IsB s.heap b t its) (hx : its[i]? = some x)
    (k : ∀ h', IterB h' b it t (i + 1) → Heap.SameBut it s.heap h' → Q x { s with heap := h' }) : wpAny (model prog w) A (Builtin.SmallTypes.nextOf (.ref it)) Q E s := by
  cases b with
  | true => exact wpAny_nextOf_list_item hi hs hx k
  | false => exact nxt_tup_item hi hs hx k
theorem nxtB_end {b : Bool} {it t : Addr} {i : Nat} {its : Array Value} {Q : Value → Shared → Prop} (hh : A.handled = none) (hi : IterB s.heap b it t i) (hs : IsB s.heap b t its) (hx : its[i]? = none)
    (k : ∀ h' e, Heap.ExtBut it s.heap h' → (∃ o, h'.get? e = some o ∧ o.cls = .type "StopIteration") → E (.ref e) { s with heap := h' }) : wpAny (model prog w) A (Builtin.SmallTypes.nextOf (.ref it)) Q E s := by
  cases b with
  | true => exact wpAny_nextOf_list_end hh hi hs hx k
  | false => exact nxt_tup_end hh hi hs hx k
def itc : Bool → String
  | true => "list_iterator"
  | false => "tuple_iterator"
abbrev zG1 (h : Heap) (b1 : Bool) (l1 : Addr) : Heap := h.push { cls := .type (itc b1), data := .fields #[.ref l1, .int 0 0] }
abbrev zG2 (h : Heap) (b1 b2 : Bool) (l1 l2 : Addr) : Heap := (zG1 h b1 l1).push { cls := .type (itc b2), data := .fields #[.ref l2, .int 0 0] }
abbrev zG3 (h : Heap) (b1 b2 : Bool) (l1 l2 : Addr) : Heap := (zG2 h b1 b2 l1 l2).push { cls := .type "tuple", data := .seq #[.ref h.objs.size, .ref (zG1 h b1 l1).objs.size] }
abbrev zG4 (h : Heap) (b1 b2 : Bool) (l1 l2 : Addr) : Heap := (zG3 h b1 b2 l1 l2).push { cls := .type "tuple", data := .seq #[.none, .none] }
abbrev zG5 (h : Heap) (b1 b2 : Bool) (l1 l2 : Addr) : Heap := (zG4 h b1 b2 l1 l2).push { cls := .type "zip", data := .fields #[.none, .bool false, .bool false, .ref (zG2 h b1 b2 l1 l2).objs.size, .ref (zG3 h b1 b2 l1 l2).objs.size] }
theorem pyIterB {b : Bool} {l : Addr} {its : Array Value} {Q : Value → Shared → Prop} (hl : IsB s.heap b l its)
    (hQ : Q (.ref s.heap.objs.size) { s with heap := s.heap.push { cls := .type (itc b), data := .fields #[.ref l, .int 0 0] } }) : wpAny (model prog w) A (pyIter (.ref l)) Q E s := by
  cases b with
  | true => exact wpAny_pyIter_list hl hQ
  | false => exact wpAny_pyIter_tuple hl hQ
theorem zipB_new (b1 b2 : Bool) (l1 l2 : Addr) (xs ys : Array Value) :
    Meets (Builtin.«zip.__new__» ⟨[.type "zip", .ref l1, .ref l2], []⟩) (fun _ R s => IsB s.heap b1 l1 xs ∧ IsB s.heap b2 l2 ys ∧ R (.ok (.ret (.ref (zG4 s.heap b1 b2 l1 l2).objs.size))) { s with heap := zG5 s.heap b1 b2 l1 l2 }) :=
  .of_wp fun prog w A R s h => by
    obtain ⟨hp, g, d, tk, os⟩ := s
    obtain ⟨q1, q2, h⟩ := h
    have hsub := sub_zip
    have a1 : IsB (Shared.heap ⟨hp, g, d, tk, os⟩) b1 l1 xs := q1
    have a2 : IsB (Shared.heap ⟨hp.push { cls := .type (itc b1), data := .fields #[.ref l1, .int 0 0] }, g, d, tk, os⟩) b2 l2 ys := q2.at fun o e => Heap.get?_push_of_some _ e
    wp_walk using pyIterB a1, pyIterB a2
    exact ⟨_, rfl, h⟩
theorem call_zipB {b1 b2 : Bool} {l1 l2 : Addr} {xs ys : Array Value} {Q : Value → Shared → Prop} (q1 : IsB s.heap b1 l1 xs) (q2 : IsB s.heap b2 l2 ys)
    (h : ∀ h', IsZip h' (s.heap.objs.size + 4) (s.heap.objs.size + 2) (s.heap.objs.size + 3) .none → IsPair h' (s.heap.objs.size + 2) (.ref s.heap.objs.size) (.ref (s.heap.objs.size + 1)) → IsPair h' (s.heap.objs.size + 3) .none .none →
      IterB h' b1 s.heap.objs.size l1 0 → IterB h' b2 (s.heap.objs.size + 1) l2 0 → (∀ c o, s.heap.get? c = some o → h'.get? c = some o) → Q (.ref (s.heap.objs.size + 4)) { s with heap := h' }) :
    wpAny (model prog w) A (call (.type "zip") [.ref l1, .ref l2]) Q E s := by
  refine callType_new F.called_zip (by decide) (F.typeCall_zip_2 _ _) (F.newCall_zip_2 _ _) (fun obj => F.args_object_init_3 obj _ _) F.entry_zip_new (zipB_new b1 b2 l1 l2 xs ys) ⟨q1, q2, ?_⟩
  have n1 : (zG1 s.heap b1 l1).objs.size = s.heap.objs.size + 1 := Heap.size_push ..
  have n2 : (zG2 s.heap b1 b2 l1 l2).objs.size = s.heap.objs.size + 2 := by rw [Heap.size_push, n1]
  have n3 : (zG3 s.heap b1 b2 l1 l2).objs.size = s.heap.objs.size + 3 := by rw [Heap.size_push, n2]
  have n4 : (zG4 s.heap b1 b2 l1 l2).objs.size = s.heap.objs.size + 4 := by rw [Heap.size_push, n3]
  have g5 : (zG5 s.heap b1 b2 l1 l2).get? (zG4 s.heap b1 b2 l1 l2).objs.size = some _ := Heap.get?_push_size _ rfl
  have g4 : (zG5 s.heap b1 b2 l1 l2).get? (zG3 s.heap b1 b2 l1 l2).objs.size = some _ := Heap.get?_push_of_some _ (Heap.get?_push_size _ rfl)
  have g3 : (zG5 s.heap b1 b2 l1 l2).get? (zG2 s.heap b1 b2 l1 l2).objs.size = some _ := Heap.get?_push_of_some _ (Heap.get?_push_of_some _ (Heap.get?_push_size _ rfl))
  have g2 : (zG5 s.heap b1 b2 l1 l2).get? (zG1 s.heap b1 l1).objs.size = some _ := Heap.get?_push_of_some _ (Heap.get?_push_of_some _ (Heap.get?_push_of_some _ (Heap.get?_push_size _ rfl)))
  have g1 : (zG5 s.heap b1 b2 l1 l2).get? s.heap.objs.size = some _ := Heap.get?_push_of_some _ (Heap.get?_push_of_some _ (Heap.get?_push_of_some _ (Heap.get?_push_of_some _ (Heap.get?_push_size _ rfl))))
  show _ ∧ _
  rw [n2, n3, n4] at g5
  rw [n1, n2] at g3
  rw [n3] at g4
  rw [n1] at g2
  rw [n4]
  refine ⟨⟨_, g5, rfl⟩, h _ g5 g3 g4 ?_ ?_ fun c o q => Heap.get?_push_of_some _ (Heap.get?_push_of_some _ (Heap.get?_push_of_some _ (Heap.get?_push_of_some _ (Heap.get?_push_of_some _ q))))⟩
  · cases b1 <;> exact ⟨_, g1, rfl, rfl⟩
  · cases b2 <;> exact ⟨_, g2, rfl, rfl⟩
end
end L2

set_option Elab.async false
set_option linter.all false
set_option maxRecDepth 100000
set_option maxHeartbeats 4000000
namespace L2
open PySem PySem.Spec PyProof.Rows
end L2
namespace L2
open PySem PySem.Spec PyProof.Rows
section
variable {prog : Program} {w : World} {A : Around} {E : Value → Shared → Prop} {s : Shared}
theorem enumB_new (b : Bool) (l : Addr) (its : Array Value) :
    Meets (Builtin.«enumerate.__new__» ⟨[.type "enumerate", .ref l], []⟩) (fun _ R s => IsB s.heap b l its ∧
      R (.ok (.ret (.ref (zG1 s.heap b l).objs.size))) { s with heap := (zG1 s.heap b l).push { cls := .type "enumerate", data := .fields #[.none, .bool false, .ref s.heap.objs.size, rawInt 0, .none, .none] } }) :=
  .of_wp fun prog w A R s h => by
    obtain ⟨hp, g, d, tk, os⟩ := s
    obtain ⟨q1, h⟩ := h
    have hsub := sub_enumerate
    have a1 : IsB (Shared.heap ⟨hp, g, d, tk, os⟩) b l its := q1
    have hl : ∃ o, hp.get? l = some o := by cases b <;> (obtain ⟨o, e, _⟩ := q1; exact ⟨o, e⟩)
    obtain ⟨o, hl⟩ := hl
    wp_walk using AutoSeq1.wpAny_loadPart' hl
    refine wpAny_stack_any fun st => wpAny_pure ?_
    split
    · rename_i c _ _ _ _ _
      cases (c == Value.type "enumerate")
      · wp_walk using AutoSeq1.wpAny_loadPart' hl, pyIterB a1
        exact ⟨_, rfl, h⟩
      · wp_walk using AutoSeq1.wpAny_loadPart' hl, pyIterB a1
        exact ⟨_, rfl, h⟩
    · wp_walk using AutoSeq1.wpAny_loadPart' hl, pyIterB a1
      exact ⟨_, rfl, h⟩
theorem call_enumB {b : Bool} {l : Addr} {its : Array Value} {Q : Value → Shared → Prop} (q1 : IsB s.heap b l its)
    (h : ∀ h', IsEnum h' (s.heap.objs.size + 1) s.heap.objs.size 0 .none → IterB h' b s.heap.objs.size l 0 → (∀ c o, s.heap.get? c = some o → h'.get? c = some o) → Q (.ref (s.heap.objs.size + 1)) { s with heap := h' }) :
    wpAny (model prog w) A (call (.type "enumerate") [.ref l]) Q E s := by
  refine callType_new F.called_enumerate (by decide) (F.typeCall_enumerate_1 _) (F.newCall_enumerate_1 _) (fun obj => F.args_object_init_2 obj _) F.entry_enumerate_new (enumB_new b l its) ⟨q1, ?_⟩
  have n1 : (zG1 s.heap b l).objs.size = s.heap.objs.size + 1 := Heap.size_push ..
  have g2 : ((zG1 s.heap b l).push { cls := .type "enumerate", data := .fields #[.none, .bool false, .ref s.heap.objs.size, rawInt 0, .none, .none] }).get? (zG1 s.heap b l).objs.size = some _ := Heap.get?_push_size _ rfl
  have g1 : ((zG1 s.heap b l).push { cls := .type "enumerate", data := .fields #[.none, .bool false, .ref s.heap.objs.size, rawInt 0, .none, .none] }).get? s.heap.objs.size = some _ := Heap.get?_push_of_some _ (Heap.get?_push_size _ rfl)
  show _ ∧ _
  rw [n1] at g2
  rw [n1]
  refine ⟨⟨_, g2, rfl⟩, h _ g2 ?_ fun c o q => Heap.get?_push_of_some _ (Heap.get?_push_of_some _ q)⟩
  cases b <;> exact ⟨_, g1, rfl, rfl⟩
theorem end_enumB {b : Bool} {e it l : Addr} {k : Nat} {its : Array Value} {i : Int} {old : Value} {Q : Option Value → Shared → Prop} (hh : A.in1.handled = none) (he : IsEnum s.heap e it i old) (h1 : IterB s.heap b it l k) (h2 : IsB s.heap b l its) (hx : its[k]? = none)
    (K : ∀ h', Heap.ExtBut it s.heap h' → Q none { s with heap := h' }) : wpAny (model prog w) A (pyNext (.ref e)) Q E s := by
  have T : s.TypeIs (.ref e) "enumerate" := ⟨_, he, rfl⟩
  unfold pyNext
  refine wpAny_bind (wpAny_attempt (wpAny_callSpecial?_slot (name := Str.ofString "__next__") T F.slot_enumerate_next (wpAny_call_entry F.slot_enumerate_next T F.entry_enumerate_next ?_ (F.args_enumerate_next_1 _))))
  refine wpAny_bind (m := field (.ref e) 2) (wpAny_field he rfl (x := .ref it) rfl (wpAny_bind (nxtB_end hh h1 h2 hx fun h' x he' ⟨o, ho, hc⟩ => ?_)))
  exact wpAny_bind (wpAny_isInstance (T := "StopIteration") (b := true) ⟨o, ho, hc⟩ isSubtype_stop (wpAny_pure (K _ he')))
end
/-- a list's or a tuple's items with their places -/
def ItE (K : PySem.W.Frag) (b : Bool) (a : Addr) : It :=
  ⟨fun i H => ∃ xs x, SqB K H b a xs ∧ xs[i]? = some x,
   fun i H v H' => ∃ p x, v = .ref p ∧ H p = none ∧ H' = upd H p (.tup [.int i, x]) ∧ ∀ xs, SqB K H b a xs → xs[i]? = some x,
   fun i H => ∃ xs, SqB K H b a xs ∧ xs.length ≤ i⟩
theorem turn_enumB {P : Program} {w : World} {K : PySem.W.Frag} {elts : List Expr} {c : Nat} {pos : Pos} {b : Bool} {e it a : Addr} (hei : e ≠ it) (hea : e ≠ a) (hia : a ≠ it) :
    Turn P w K (.Tuple elts c pos) (ItE K b a) [e, it] e (fun i h => (∃ old, IsEnum h e it i old) ∧ IterB h b it a i) where
  mem := by simp
  obj := fun i h st x hx => by
    obtain ⟨⟨old, he⟩, h1⟩ := st
    simp only [List.mem_cons, List.not_mem_nil, or_false] at hx
    rcases hx with rfl | rfl
    · exact ⟨_, he, fun _ q => by cases q⟩
    · exact h1.ob
  keep := fun i h h' st k => by
    obtain ⟨⟨old, he⟩, h1⟩ := st
    exact ⟨⟨old, k e (by simp) _ he⟩, h1.at fun o q => k it (by simp) o q⟩
  item := by
    intro X hP hw hK hc i pins s σ H E I hf st hg
    subst hP hw hK
    obtain ⟨xs, x, hq1, hx⟩ := hg
    obtain ⟨its1, rv1, p1, _⟩ := I.seqB hq1
    obtain ⟨u, hu, ru⟩ := rv1.get hx
    obtain ⟨⟨old, he⟩, h1⟩ := st
    have hi : i < its1.toArray.size := by
      have := rv1.length
      have h2 := (List.getElem?_eq_some_iff.mp hx).1
      simp; omega
    have hh : X.A.in1.handled = none := I.ok.hd hc
    refine wpAny_pyNext_enum_itemD (drawsB hh b it a hia its1.toArray) he ⟨h1, p1⟩ hi hei (by simp [hei, hea]) fun y h' tk hy eo st' hT hsz hk => ⟨_, rfl, ?_⟩
    obtain rfl : y = u := by
      have hy' : its1[i]? = some y := by simpa using hy
      rw [hu] at hy'
      exact (Option.some.inj hy').symm
    have lt : ∀ {c o}, s.heap.get? c = some o → s.heap.objs.size ≠ c := fun q => Nat.ne_of_gt (Heap.lt_size q)
    refine wpAny_letOwnedTupleGo_enum (s := { s with heap := h', toks := tk + 1 }) eo fun h'' c1 sb => ?_
    have hn : H s.heap.objs.size = none := I.hok.fresh (Nat.le_refl _)
    have kk : ∀ c o, c ∉ [e, it] → s.heap.get? c = some o → h''.get? c = some o := fun c o hc' q => by
      simp only [List.mem_cons, List.not_mem_nil, or_false, not_or] at hc'
      exact (sb.2 _ hc'.1).trans (hk c o hc'.1 hc'.2 q)
    have T1 : h''.get? s.heap.objs.size = some { cls := .type "tuple", data := .seq #[.int i tk, y] } := (sb.2 _ (lt he)).trans hT
    refine ⟨.ref s.heap.objs.size, upd H s.heap.objs.size (.tup [.int i, x]), I.turnedNew (t' := tk + 1) hf kk (Nat.le_refl _) ⟨by show 2 ≤ _; decide, [.int i tk, y], .cons ⟨_, rfl⟩ (.cons ru .nil), _, T1, rfl, _, rfl⟩, rfl, ⟨_, x, rfl, hn, rfl, fun xs' q1 => ?_⟩,
      ⟨⟨_, by simpa using c1⟩, st'.1.at fun o q => (sb.2 _ hei.symm).trans q⟩, fun b hb => ?_⟩
    · rw [I.seqB_inj q1 hq1]; exact hx
    · rw [upd_ne]
      · exact (hf b hb).1
      · simp only [List.mem_cons, List.not_mem_nil, or_false] at hb
        obtain ⟨o1, e1, _⟩ := h1.ob
        rcases hb with rfl | rfl
        · exact (lt he).symm
        · exact (lt e1).symm
  done := by
    intro X hP hw hK hc i pins s σ H E I hf st hg
    subst hP hw hK
    obtain ⟨xs, hq1, hx⟩ := hg
    obtain ⟨its1, rv1, p1, _⟩ := I.seqB hq1
    have l1 := rv1.length
    obtain ⟨⟨old, he⟩, h1⟩ := st
    have hh : X.A.in1.handled = none := I.ok.hd hc
    exact end_enumB hh he h1 p1 (by simp; omega) fun h' eb => ⟨rfl, I.turnedL (t' := s.toks) hf fun c o hc' q => eb c o (by simp at hc'; exact hc'.2) q⟩
  self := fun _ _ _ _ _ st h => by
    obtain ⟨⟨old, he⟩, _⟩ := st
    exact wpAny_pyIter_enum he h
def iEnumB (K : PySem.W.Frag) (b : Bool) (ta : TA) : TI := fun σ H R => ta σ H fun vs H1 => ∃ a, vs = [.ref a] ∧ (∃ xs, SqB K H1 b a xs) ∧ R (ItE K b a) H1
theorem boot_enumerate : bootBuiltins "enumerate" = some (.type "enumerate") := by decide +kernel
theorem pi_enumB (b : Bool) {X : Cx} {elts : List Expr} {c : Nat} {tpos : Pos} {a : Expr} {ta : TA} {p pos : Pos} (hg : Gl X "enumerate") (hm : X.mg "enumerate" = none) (ha : PA X [a] ta) (hs : starEach [a] X.env = [(false, eval a X.env)] := by rfl) :
    PI X (.Tuple elts c tpos) (.Call (.Name "enumerate" p) [a] [] pos) (iEnumB X.K b ta) := by
  intro pins s σ H R I h
  refine Call_ (ld_blt I hg hm boot_enumerate (PyProof.Rows.callWith_type1 (thn (ha pos pins s σ H _ I h) fun us s1 ⟨vs, H1, I1, r1, q1⟩ => ?_) hs rfl))
  obtain ⟨a, e, ⟨xs, hq1⟩, q⟩ := q1
  subst e
  cases r1 with
  | cons r rr =>
    cases rr
    cases r
    obtain ⟨its1, rv1, p1, _⟩ := I1.seqB hq1
    have la := p1.lt
    refine call_enumB p1 fun h' a1 a2 hk => wpAny_pyIter_enum a1 ?_
    refine ⟨_, _, _, _, H1, rfl, I1.kept (t' := s1.toks) hk, turn_enumB (e := s1.heap.objs.size + 1) (it := s1.heap.objs.size) (Nat.succ_ne_self _) ?_ ?_, ⟨⟨_, a1⟩, a2⟩, fun x hx => ?_, q⟩
    · exact Nat.ne_of_gt (Nat.lt_succ_of_lt la)
    · exact Nat.ne_of_lt la
    · have hx' : s1.heap.objs.size ≤ x := by
        simp only [List.mem_cons, List.not_mem_nil, or_false] at hx
        rcases hx with rfl | rfl <;> (show (_ : Nat) ≤ (_ : Nat)) <;> omega
      exact I1.fpOk hx' (I1.hok.fresh hx')
end L2

set_option Elab.async false
set_option linter.all false
set_option maxRecDepth 100000
set_option maxHeartbeats 4000000
namespace L2
open PySem PySem.Spec PyProof.Rows
theorem walksB {prog : Program} {w : World} {A : Around} (hh : A.handled = none) (b : Bool) (I l : Addr) (hne : l ≠ I) (its : Array Value) :
    Walks prog w A I [I, l] [I] its.size (fun i v => its[i]? = some v) (fun i h => IterB h b I l i ∧ IsB h b l its) := by
  cases b with
  | true => exact Walks.list hh I l hne its
  | false => exact Walks.tuple hh I l hne its
theorem argBest_lt (f : Nat → Int) (n : Nat) : argBest (fun i j => decide (f i < f j)) n ≤ n ∧ ∀ j, j ≤ n → f (argBest (fun i j => decide (f i < f j)) n) ≤ f j := by
  have e : (fun i j : Nat => decide (f i < f j)) = fun i j => decide (-(f i) > -(f j)) := by
    funext i j
    rw [decide_eq_decide]
    omega
  rw [e]
  have := argBest_gt (fun i => -(f i)) n
  exact ⟨this.1, fun j hj => by have := this.2 j hj; omega⟩
section
variable {X : Cx}
theorem bestB (up : Bool) {pins : List (Addr × Obj)} {s : Shared} {σ : St} {H : Hp} {b : Bool} {l : Addr} {ns : List Int} {Q : VK} (hc : X.calm = true) (I : Inv X pins σ H s) (hl : SqB X.K H b l (ns.map V.int)) (hne : ns ≠ [])
    (q : ∀ M, M ∈ ns → (∀ a ∈ ns, if up = true then a ≤ M else M ≤ a) → Q (.int M) H) : wpAny (model X.prog X.w) X.A (call (.builtin (if up = true then "max" else "min")) [.ref l]) (EP X pins σ Q) X.xe s := by
  obtain ⟨its, rv, p, hz⟩ := I.seqB hl
  have hi := intsAre_of rv
  obtain ⟨ys, e⟩ := hi.allInts.items
  have hnum : ns = ys.toList.map (·.1) := by
    have h1 := hi.numsOf
    have h2 := nums_intItems ys
    rw [← e] at h2
    rw [← h1, ← h2]
  have hsz : 0 < ys.size := by
    have : 0 < ns.length := List.length_pos_iff.mpr hne
    rw [hnum] at this
    simpa using this
  have hlt := p.lt
  have hh : X.A.in1.handled = none := I.ok.hd hc
  rw [e] at p
  have st0 : IterB (s.heap.push { cls := .type (itc b), data := .fields #[.ref l, .int 0 0] }) b s.heap.objs.size l 0 := by cases b <;> exact ⟨_, Heap.get?_push_size _ rfl, rfl, rfl⟩
  have fp0 : ∀ c ∈ [s.heap.objs.size, l], c < (s.heap.push { cls := .type (itc b), data := .fields #[.ref l, .int 0 0] }).objs.size := fun c hc' => by
    rw [Heap.size_push]
    simp only [List.mem_cons, List.not_mem_nil, or_false] at hc'
    rcases hc' with rfl | rfl
    · exact Nat.lt_succ_self _
    · exact Nat.lt_succ_of_lt hlt
  have fin : ∀ (k : Nat) (v : Value) (h' : Heap) (tk : Nat), k ≤ ys.size - 1 → (intItems ys)[k]? = some v → (∀ a ∈ ns, if up = true then a ≤ numAt ys k else numAt ys k ≤ a) →
      (∀ c o, c ∉ [s.heap.objs.size] → (s.heap.push { cls := .type (itc b), data := .fields #[.ref l, .int 0 0] }).get? c = some o → h'.get? c = some o) → EP X pins σ Q v { s with heap := h', toks := tk } := fun k v h' tk hk hv ha kk => by
    obtain ⟨t, rfl⟩ := intItems_at hv
    refine ⟨.int (numAt ys k), H, I.kept (t' := tk) fun c o eo => kk c o ?_ (Heap.get?_push_of_some _ eo), ⟨t, rfl⟩, q _ ?_ ha⟩
    · intro z
      have : c = s.heap.objs.size := by simpa using z
      subst this
      exact Nat.lt_irrefl _ (Heap.lt_size eo)
    · rw [numAt_eq, hnum]; exact getD_mem (by rw [List.length_map, Array.length_toList]; omega)
  cases up with
  | true =>
    refine call_max_walk (pyIterB p ⟨_, _, _, _, _, _, _, rfl, walksB hh b _ l (Nat.ne_of_lt hlt) (intItems ys), ⟨st0, p.at fun o eo => Heap.get?_push_of_some _ eo⟩, fp0, by simpa [intItems] using hsz, CmpOf.ints_gt (numAt ys) (fun _ _ => intItems_at), fun v h' tk hv kk => ?_⟩)
    obtain ⟨h1, h2⟩ := argBest_gt (numAt ys) (ys.size - 1)
    have es : (intItems ys).size = ys.size := by simp [intItems]
    rw [es] at hv
    refine fin _ v h' tk h1 hv (fun a ha => ?_) kk
    rw [if_pos rfl]
    rw [hnum] at ha
    obtain ⟨j, hj, rfl⟩ := mem_getD ha
    rw [List.length_map, Array.length_toList] at hj
    rw [← numAt_eq]; exact h2 j (by omega)
  | false =>
    refine call_min_walk (pyIterB p ⟨_, _, _, _, _, _, _, rfl, walksB hh b _ l (Nat.ne_of_lt hlt) (intItems ys), ⟨st0, p.at fun o eo => Heap.get?_push_of_some _ eo⟩, fp0, by simpa [intItems] using hsz, CmpOf.ints_lt (numAt ys) (fun _ _ => intItems_at), fun v h' tk hv kk => ?_⟩)
    obtain ⟨h1, h2⟩ := argBest_lt (numAt ys) (ys.size - 1)
    have es : (intItems ys).size = ys.size := by simp [intItems]
    rw [es] at hv
    refine fin _ v h' tk h1 hv (fun a ha => ?_) kk
    rw [if_neg (by decide)]
    rw [hnum] at ha
    obtain ⟨j, hj, rfl⟩ := mem_getD ha
    rw [List.length_map, Array.length_toList] at hj
    rw [← numAt_eq]; exact h2 j (by omega)
/-- max(xs), min(xs): a list or a tuple of ints, not empty; the heap named alone -/
def rMaxB (K : PySem.W.Frag) (b : Bool) : List V → Hp → VK → Prop := fun xs H Q => ∃ (l : Addr) (ns : List Int), xs = [.ref l] ∧ SqB K H b l (ns.map V.int) ∧ ns ≠ [] ∧ ∀ M, M ∈ ns → (∀ a ∈ ns, a ≤ M) → Q (.int M) H
def rMinB (K : PySem.W.Frag) (b : Bool) : List V → Hp → VK → Prop := fun xs H Q => ∃ (l : Addr) (ns : List Int), xs = [.ref l] ∧ SqB K H b l (ns.map V.int) ∧ ns ≠ [] ∧ ∀ M, M ∈ ns → (∀ a ∈ ns, M ≤ a) → Q (.int M) H
theorem call_maxB (b : Bool) (hc : X.calm = true) : CallR X (.builtin "max") (rMaxB X.K b) := by
  intro pins s σ H xs us Q I r h
  obtain ⟨l, ns, rfl, hl, hne, q⟩ := h
  obtain ⟨u, rfl, ru⟩ := vals1 r
  cases ru
  exact bestB true hc I hl hne fun M h1 h2 => q M h1 fun a ha => by simpa using h2 a ha
theorem call_minB (b : Bool) (hc : X.calm = true) : CallR X (.builtin "min") (rMinB X.K b) := by
  intro pins s σ H xs us Q I r h
  obtain ⟨l, ns, rfl, hl, hne, q⟩ := h
  obtain ⟨u, rfl, ru⟩ := vals1 r
  cases ru
  exact bestB false hc I hl hne fun M h1 h2 => q M h1 fun a ha => by simpa using h2 a ha
theorem SqB.t {K : PySem.W.Frag} {H : Hp} {a : Addr} {xs : List V} (h : H a = some (.tup xs)) : SqB K H false a xs := SqT.of h
/-- o[i] by values, o a list (for o[i] += e) -/
def rGetL : V → V → Hp → VK → Prop := fun o i H Q => ∃ p xs k v, o = .ref p ∧ i = .int k ∧ 0 ≤ k ∧ H p = some (.lst xs) ∧ atI xs k = some v ∧ Q v H
theorem get_list : PGet X rGetL := by
  intro pins s σ H o i ov iv Q I ro ri h
  obtain ⟨p, xs, k, z, rfl, rfl, h0, hp, he, q⟩ := h
  cases ro
  obtain ⟨t, rfl⟩ := ri
  obtain ⟨its, r, pl, hz⟩ := I.list (SqL.of (K := X.K) hp)
  obtain ⟨j, h1, h2, h3, h4, h5⟩ := atI_get he
  obtain ⟨w, ew, rw'⟩ := r.get h2
  have hl := r.length
  have hn := line63
  have hj : k.toNat = j := by
    rw [seqIndex_of h0 h5] at h1
    exact Option.some.inj h1
  exact wpAny_getItem_list pl.isList h0 (by omega) (by rw [hj]; simpa using ew) ⟨z, H, I, rw', q⟩
end
end L2

set_option Elab.async false
set_option linter.all false
set_option maxRecDepth 100000
set_option maxHeartbeats 1000000
namespace L2
open PySem PySem.Spec PyProof.Rows MA
/-! ### ints in a row -/
abbrev iv (ns : List Int) : List V := ns.map V.int
theorem iv_at {ns : List Int} {i : Nat} {x : V} (h : (iv ns)[i]? = some x) : ∃ y, ns[i]? = some y ∧ x = .int y := by
  rw [List.getElem?_map] at h
  cases e : ns[i]? with
  | none => rw [e] at h; cases h
  | some y => rw [e] at h; cases h; exact ⟨y, rfl, rfl⟩
theorem iv_get {ns : List Int} {i : Nat} (h : i < ns.length) : (iv ns)[i]? = some (.int ns[i]) := by rw [List.getElem?_map, List.getElem?_eq_getElem h]; rfl
theorem iv_atI {ns : List Int} {i : Nat} (h : i < ns.length) : atI (iv ns) (i : Int) = some (.int (ns.getD i 0)) := by
  rw [atI_nat (iv_get h), getD_of h]
section
variable {X : Cx}
end
end L2
namespace My
open PySem L2 MA
theorem lz {m : Nat} (n : Nat) (h : m = n) (hn : n ≤ 100 := by decide) : m ≤ sizeLine := by
  rw [h, sizeLine_eq]; omega
theorem lzz {m : Nat} (h : m ≤ 10000) : m ≤ sizeLine := by rw [sizeLine_eq]; omega
theorem penX_upd {H H2 : Hp} {p acc : Addr} {n m : Nat} (hn : H acc = none) (hp : Pen H p n) (x : SameX p H H2) (hp2 : Pen H2 p m) (o : HO) : Pen (upd H2 acc o) p m ∧ SameX p H (upd H2 acc o) := by
  obtain ⟨c, ns, a, l, h1, h2, _, _⟩ := hp
  obtain ⟨c', ns', a', l', h1', h2', h3', h4'⟩ := hp2
  have hap : p ≠ acc := ne_of_none h1 hn
  have hac : c ≠ acc := ne_of_none h2 hn
  obtain ⟨a'', l'', e⟩ := x.pen c a l h1
  rw [h1'] at e
  have ec : c' = c := by
    have e' := congrArg (fun o => match o with | some (HO.dK ((_, V.ref q) :: _)) => q | _ => c) e
    exact e'
  subst ec
  refine ⟨⟨c', ns', a', l', by rw [upd_ne hap]; exact h1', by rw [upd_ne hac]; exact h2', h3', h4'⟩, ⟨fun b u hb hbp => ?_, fun c2 a2 l2 e2 => ?_⟩⟩
  · rw [upd_ne (ne_of_none hb hn)]; exact x.all b u hb hbp
  · rw [upd_ne hap]; exact x.pen c2 a2 l2 e2
/-- what isn't the pen stays beside draws -/
theorem Pen.nep {H : Hp} {p b : Addr} {n : Nat} {o : HO} (hp : Pen H p n) (hb : H b = some o) (ho : ∀ kvs, o ≠ .dK kvs := by intro _ z; cases z) : b ≠ p := by
  obtain ⟨kvs, e⟩ := hp.dk
  rintro rfl
  rw [hb] at e
  cases e
  exact ho _ rfl
theorem Pen.keep {H H' : Hp} {p b : Addr} {n : Nat} {o : HO} (hp : Pen H p n) (x : SameX p H H') (hb : H b = some o) (ho : ∀ kvs, o ≠ .dK kvs := by intro _ z; cases z) : H' b = some o := x.all b o hb (hp.nep hb ho)
end My

set_option Elab.async false
set_option linter.all false
set_option maxRecDepth 100000
set_option maxHeartbeats 1000000
namespace L2
open PySem PySem.Spec PyProof.Rows MA
def hoB : Bool → List V → HO
  | true, xs => .lst xs
  | false, xs => .tup xs
theorem SqB.of {K : PySem.W.Frag} {H : Hp} {b : Bool} {a : Addr} {xs : List V} (h : H a = some (hoB b xs)) : SqB K H b a xs := by
  cases b
  · exact SqT.of h
  · exact SqL.of h
end L2
namespace HT
open PySem PySem.Spec PyProof.Rows
section
variable {prog : Program} {w : World} {A : Around} {E : Value → Shared → Prop} {s : Shared}
end
end HT
namespace L2
open PySem PySem.Spec PyProof.Rows MA
section
variable {X : Cx} {e : Expr} {te : TE} {p2 p3 p4 pos : Pos}
/-- t + u of tuples: some tuple of both -/
theorem op_catS : OpR X (binaryOp .Add) (fun x y H Q => ∃ a b xs ys, x = .ref a ∧ y = .ref b ∧ H a = some (.tup xs) ∧ H b = some (.tup ys) ∧ xs.length + ys.length ≤ 1000 ∧ ∀ c H', Same H H' → H' c = some (.tup (xs ++ ys)) → Q (.ref c) H') := by
  intro pins s σ H x y v u Q I rx ry h
  obtain ⟨a, b, xs, ys, e1, e2, ha, hb, hz, q⟩ := h
  refine op_catT' pins s σ H x y v u Q I rx ry ⟨a, b, xs, ys, e1, e2, SqT.of ha, SqT.of hb, by rw [sizeLine_eq]; omega, fun e => ?_, fun _ e => ?_, fun _ _ p hp => ?_⟩
  · subst e; exact q b H (Same.refl _) (by simpa using hb)
  · subst e; exact q a H (Same.refl _) (by simpa using ha)
  · exact q p _ (same_new hp _) upd_same
theorem rep1 (x : Int) : ∀ k : Nat, (List.replicate k [V.int x]).flatten = iv (List.replicate k x)
  | 0 => rfl
  | k + 1 => by rw [List.replicate_succ, List.flatten_cons, rep1 x k, List.replicate_succ]; rfl
end
end L2
namespace L2
open PySem PySem.Spec PyProof.Rows MA
/-! ### data that lies in tuples and in what is new since H -/
end L2

set_option Elab.async false
set_option linter.all false
set_option maxRecDepth 100000
set_option maxHeartbeats 4000000
namespace L2
open PySem PySem.Spec PyProof.Rows
/-! ### comprehensions of two clauses: the block's body is any action on the new list -/
end L2

set_option Elab.async false
set_option linter.all false
set_option maxRecDepth 100000
set_option maxHeartbeats 1000000
namespace L2
open PySem PySem.Spec PyProof.Rows MA
/-! ### set(list of ints), len of a set, list(range(n)) -/
section
variable {X : Cx}
end
/-! ### readings of a clause's walk -/
/-! ### a tuple, a list walked inside a comprehension: no K -/
section
variable {X : Cx} {o e : Expr} {es : List Expr} {to : TE} {t : TA} {name : Str} {apos cpos : Pos} {id : String} {r : V → List V → Hp → VK → Prop}
end
end L2

set_option Elab.async false
set_option linter.all false
set_option maxRecDepth 100000
set_option maxHeartbeats 1000000
namespace L2
open PySem PySem.Spec PyProof.Rows MA SeqAt
/-! ### a text and a dict are not the same -/
section
variable {X : Cx}
end
end L2

set_option Elab.async false
set_option linter.all false
set_option maxRecDepth 100000
set_option maxHeartbeats 1000000
namespace PySem
open Sem (wp)
namespace F
end F
section
variable {prog : Program} {w : World} {K : Type} [DecidableEq K] {knd : KeyKind prog w K} {A : Around} {R : Result → Shared → Prop}
end
end PySem
namespace L2
open PySem PySem.Spec PyProof.Rows MA
section
variable {X : Cx}
end
end L2

set_option Elab.async false
set_option linter.all false
set_option maxRecDepth 100000
set_option maxHeartbeats 4000000
namespace L2
open PySem PySem.Spec PyProof.Rows
/-! ### dict comprehensions of one clause -/
end L2

set_option Elab.async false
set_option linter.all false
set_option maxRecDepth 100000
set_option maxHeartbeats 1000000
namespace L2
open PySem PySem.Spec PyProof.Rows
/-! ### for k, v in d.items(): the dict is frozen from then on -/
end L2

set_option Elab.async false
set_option linter.all false
set_option maxRecDepth 100000
set_option maxHeartbeats 4000000
/-! ### isinstance of an own exception -/
namespace L2
open PySem PySem.Builtin PySem.Builtin.ObjectAttr PySem.Spec PyProof.Rows
section
variable {K : PySem.W.Frag} {e C : Addr} {h : Heap} {M : Model}
end
section
variable {prog : Program} {w : World} {A : Around} {E : Value → Shared → Prop} {s : Shared} {K : PySem.W.Frag} {e C : Addr}
end
end L2

set_option Elab.async false
set_option linter.all false
set_option maxRecDepth 100000
set_option maxHeartbeats 4000000
/-! ### own exceptions -/
namespace L2
open PySem PySem.Spec PyProof.Rows
section
variable {X : Cx} {pins : List (Addr × Obj)} {σ : St} {H H' : Hp} {s s' : Shared}
end
/-! ### raise -/
section
variable {P : Program} {w : World} {K : PySem.W.Frag} {mg : Str → Option Value} {base : Heap} {N : List Str} {qual : Str} {scope : Scope} {f : Addr} {cd : Value} {A : Around} {outer : List Env} {s : Shared} {H : Hp} {E : XK}
end
section
variable {P : Program} {w : World} {K : PySem.W.Frag} {mg : Str → Option Value} {base : Heap} {x : Str} {ps : List Str} {k : Nat} {sp : Sp}
end
end L2

set_option Elab.async false
set_option linter.all false
set_option maxRecDepth 100000
set_option maxHeartbeats 4000000
/-! ### try .. except -/
namespace L2
open PySem PySem.Spec PyProof.Rows
section
variable {P : Program} {w : World} {outer : List Env} {H H' : Hp} {s s' : Shared} {x C : Addr} {B : Heap} {a0 : Value}
end
section
variable {X : Cx} {pins : List (Addr × Obj)} {σ : St} {H H' : Hp} {s s' : Shared} {x C : Addr} {B : Heap} {a0 : Value}
end
/-! ### what may raise: an expression, a statement -/
section
variable {X : Cx}
end
/-! ### the statement -/
end L2

set_option Elab.async false
set_option linter.all false
set_option maxRecDepth 100000
set_option maxHeartbeats 4000000
/-! ### lambdas -/
namespace L2
open PySem PySem.Spec PyProof.Rows
section
variable {cs : List Addr} {H H' H2 : Hp} {h h' : Heap} {b : Addr}
variable {P : Program} {w : World} {fs : List Addr}
end
end L2

set_option Elab.async false
set_option linter.all false
set_option maxRecDepth 100000
set_option maxHeartbeats 4000000
/-! ### a lambda without arguments, handed to a def that calls it -/
namespace L2
open PySem PySem.Spec PyProof.Rows
section
variable {P : Program} {w : World} {K : PySem.W.Frag} {mg : Str → Option Value} {base : Heap} {N : List Str} {qual : Str} {scope : Scope} {cl : List (Str × Addr)} {f c' : Addr} {cd : Value}
end
/-! ### the lambda is made -/
section
variable {X : Cx} {pins : List (Addr × Obj)} {σ : St} {H : Hp} {s : Shared} {c P : Addr} {q : Str} {params : Arguments} {body : Expr} {scope : Scope} {pos : Pos} {cl : List (Str × Addr)}
end
end L2

set_option Elab.async false
set_option linter.all false
set_option maxRecDepth 100000
set_option maxHeartbeats 4000000
namespace L2
open PySem PySem.Spec PyProof.Rows
/-! ### the closure is called, within a try -/
/-! ### isinstance(x, c): c by its name -/
end L2

set_option Elab.async false
set_option linter.all false
set_option maxRecDepth 100000
set_option maxHeartbeats 4000000
/-! ### the head of a law one of whose defs makes lambdas -/
namespace L2
open PySem PySem.Spec PyProof.Rows
end L2
namespace L2
end L2

set_option Elab.async false
set_option linter.all false
set_option maxRecDepth 100000
set_option maxHeartbeats 4000000
namespace My
open PySem L2 MA
end My
namespace L2
end L2
namespace My
open PySem L2 MA
end My
namespace My
open PySem L2 MA
end My

set_option Elab.async false
set_option linter.all false
set_option maxRecDepth 100000
set_option maxHeartbeats 4000000
namespace L2
open PySem PySem.Spec PyProof.Rows
/-- [.. for x in range(n) if ..] -/
theorem comp_rngT {n : Nat} {lo : Int} {tc : TT} {te : TE} {H : Hp} {R : Addr → Hp → Prop} {fs : St} (Pv : Addr → Nat → List V → Hp → Prop) (hn : n ≤ 100000) (hp0 : ∀ p, H p = none → Pv p 0 [] (upd H p (.lst [])))
    (hte : ∀ p i ys H', H p = none → i < n → Pv p i ys H' → H' p = some (.lst ys) → ∀ (Qf : Hp → Prop) (Q' : VK), (∀ H'', H'' p = some (.lst ys) → Pv p (i + 1) ys H'' → Qf H'') →
      (∀ v H'', H'' p = some (.lst ys) → Pv p (i + 1) (ys ++ [v]) (upd H'' p (.lst (ys ++ [v]))) → Q' v H'') → tc (some (.int (lo + i)) :: fs) H' (fun b H4 => if b = true then te (some (.int (lo + i)) :: fs) H4 Q' else Qf H4))
    (q : ∀ p ys H', H p = none → Pv p n ys H' → H' p = some (.lst ys) → R p H') :
    ∀ p, H p = none → ∃ W : Nat → Nat → List V → St → Hp → Prop, (∃ m, W 0 m [] (none :: fs) (upd H p (.lst []))) ∧ ∀ i m ys σ' H', W i m ys σ' H' →
      ((Itr lo n).stop i H' ∧ R p H') ∨ ((Itr lo n).go i H' ∧ ∀ x H2, (Itr lo n).yld i H' x H2 → gName 0 x σ' H2 fun σ2 H3 => tc σ2 H3 fun b H4 => if b = true then te σ2 H4 fun v H5 => ys.length < sizeLine ∧ H5 p = some (.lst ys) ∧ (∃ m', m' < m ∧ W (i + 1) m' (ys ++ [v]) σ2 (upd H5 p (.lst (ys ++ [v]))))
        else ∃ m', m' < m ∧ W (i + 1) m' ys σ2 H4) := by
  intro p hp
  refine ⟨fun i m ys σ' H' => m = n - i ∧ i ≤ n ∧ ys.length ≤ i ∧ Pv p i ys H' ∧ H' p = some (.lst ys) ∧ ∃ o, σ' = o :: fs, ⟨n, by simp, Nat.zero_le _, Nat.le_refl _, hp0 p hp, upd_same, _, rfl⟩, ?_⟩
  rintro i m ys σ' H' ⟨rfl, hi, hl, pv, hp', o, rfl⟩
  by_cases hlt : i < n
  · refine .inr ⟨hlt, fun x H2 hy => ?_⟩
    obtain ⟨rfl, rfl⟩ := hy
    change tc (some (.int (lo + i)) :: fs) H2 _
    refine hte p i ys H2 hp hlt pv hp' _ _ (fun H5 h5 pv5 => ⟨n - (i + 1), by omega, rfl, hlt, by omega, pv5, h5, _, rfl⟩) fun v H5 h5 pv5 => ⟨?_, h5, n - (i + 1), by omega, rfl, hlt, by simp; omega, pv5, upd_same, _, rfl⟩
    rw [sizeLine_eq]; omega
  · have e : i = n := by omega
    subst e
    exact .inl ⟨Nat.le_refl _, q p ys H' hp pv hp'⟩
section
variable {X : Cx}
/-- == of two lists of the same flat things -/
theorem all_self (xs : List V) (h : xs.all (fun v => eqV v v) = true) : ((List.range xs.length).all fun j => eqV (xs.getD j .non) (xs.getD j .non)) = true := by
  rw [List.all_eq_true]
  intro j hj
  have hj : j < xs.length := by simpa using hj
  rw [getD_of hj]
  exact List.all_eq_true.mp h _ (List.getElem_mem hj)
end
theorem flat_iv (ns : List Int) : (iv ns).all flatV = true := by rw [List.all_eq_true]; intro v hv; obtain ⟨n, _, rfl⟩ := List.mem_map.mp hv; rfl
theorem eq_iv (ns : List Int) : (iv ns).all (fun v => eqV v v) = true := by rw [List.all_eq_true]; intro v hv; obtain ⟨n, _, rfl⟩ := List.mem_map.mp hv; simp [eqV]
theorem desc_eq {l m : List Int} (h : l.Perm m) (a : l.Pairwise (· ≥ ·)) (b : m.Pairwise (· ≥ ·)) : l = m := h.eq_of_pairwise (fun x y _ _ h1 h2 => Int.le_antisymm h2 h1) a b
theorem perm_out : ∀ {l : List Int} {i : Nat} {x : Int}, l[i]? = some x → l.Perm (x :: l.eraseIdx i)
  | [], _, _, h => by simp at h
  | a :: r, 0, x, h => by simp at h; subst h; exact .refl _
  | a :: r, i + 1, x, h => by
    simp at h
    exact ((perm_out h).cons a).trans (.swap x a _)
/-- one of the same value changed in a row and in a turned row -/
theorem set_perm2 {ns ms : List Int} (h : ns.Perm ms) {i j : Nat} {x y : Int} (h1 : ns[i]? = some x) (h2 : ms[j]? = some x) : (ns.set i y).Perm (ms.set j y) := by
  have hi : i < ns.length := (List.getElem?_eq_some_iff.mp h1).1
  have hj : j < ms.length := (List.getElem?_eq_some_iff.mp h2).1
  have er : (ns.eraseIdx i).Perm (ms.eraseIdx j) := (((perm_out h1).symm.trans h).trans (perm_out h2)).cons_inv
  have fi : (ns.set i y).Perm (y :: ns.eraseIdx i) := by
    have := perm_out (l := ns.set i y) (i := i) (x := y) (by rw [List.getElem?_set_self hi])
    rw [List.eraseIdx_set_eq] at this
    exact this
  have fj : (ms.set j y).Perm (y :: ms.eraseIdx j) := by
    have := perm_out (l := ms.set j y) (i := j) (x := y) (by rw [List.getElem?_set_self hj])
    rw [List.eraseIdx_set_eq] at this
    exact this
  exact fi.trans ((er.cons y).trans fj.symm)
end L2
namespace My
open PySem L2 MA
theorem same_updN {H H' : Hp} {l : Addr} (hl : H l = none) (s : Same H H') (o : HO) : Same H (upd H' l o) := fun b u q => by rw [upd_ne (ne_of_none q hl)]; exact s _ _ q
theorem ixN_nat {n j : Nat} (h : j < n) : ixN n ((j : Nat) : Int) = some j := by
  unfold ixN
  rw [if_pos (by omega), if_pos (by omega)]
  simp
theorem atI_iv {ns : List Int} {j : Nat} {x : Int} (h : ns[j]? = some x) : atI (iv ns) ((j : Nat) : Int) = some (.int x) := atI_nat (by rw [List.getElem?_map, h]; rfl)
theorem iv_set (ns : List Int) (j : Nat) (y : Int) : (iv ns).set j (.int y) = iv (ns.set j y) := by show (ns.map V.int).set j (.int y) = (ns.set j y).map V.int; rw [List.map_set]
end My
namespace My
open PySem L2 MA
theorem iv_app (a b : List Int) : iv (a ++ b) = iv a ++ iv b := List.map_append
end My

set_option Elab.async false
set_option linter.all false
set_option maxRecDepth 100000
set_option maxHeartbeats 4000000
namespace L2
open PySem PySem.Spec PyProof.Rows
end L2
namespace My
open PySem L2 MA
end My

set_option Elab.async false
set_option linter.all false
set_option maxRecDepth 100000
set_option maxHeartbeats 4000000
namespace L2
open PySem PySem.Spec PyProof.Rows
/-- a zip that may have handed a pair out that lives on -/
def ZipAt (h : Heap) (z TI TO : Addr) : Prop := ∃ f0 f1, (f0 = .none ∨ ∃ i : Int, f0 = rawInt i) ∧ h.get? z = some { cls := .type "zip", dict := none, data := .fields #[f0, f1, .bool false, .ref TI, .ref TO], slots := #[] }
def ZipE (h : Heap) (z TI TO : Addr) : Prop := ∃ f0 f1, h.get? z = some { cls := .type "zip", dict := none, data := .fields #[f0, f1, .bool false, .ref TI, .ref TO], slots := #[] }
theorem ZipAt.e {h : Heap} {z TI TO : Addr} (x : ZipAt h z TI TO) : ZipE h z TI TO := let ⟨a, b, _, c⟩ := x; ⟨a, b, c⟩
theorem ZipE.at {h h' : Heap} {z TI TO : Addr} (x : ZipE h z TI TO) (k : ∀ o, h.get? z = some o → h'.get? z = some o) : ZipE h' z TI TO := let ⟨a, b, c⟩ := x; ⟨a, b, k _ c⟩
theorem ZipAt.at {h h' : Heap} {z TI TO : Addr} (x : ZipAt h z TI TO) (k : ∀ o, h.get? z = some o → h'.get? z = some o) : ZipAt h' z TI TO := let ⟨a, b, d, c⟩ := x; ⟨a, b, d, k _ c⟩
section
variable {prog : Program} {w : World} {A : Around} {E : Value → Shared → Prop} {s : Shared}
theorem zip_free {z TI TO : Addr} {Q : Bool → Shared → Prop} (hz : ZipAt s.heap z TI TO) (h : ∀ b h', ZipAt h' z TI TO → Heap.SameBut z s.heap h' → Q b { s with heap := h' }) : wpAny (model prog w) A (Builtin.SmallTypes.ownedTupleIsFree (.ref z)) Q E s := by
  obtain ⟨f0, f1, hf, hz⟩ := hz
  unfold Builtin.SmallTypes.ownedTupleIsFree
  refine wpAny_bind (wpAny_field hz rfl (x := f0) rfl ?_)
  have same : Heap.SameBut z s.heap s.heap := ⟨rfl, fun _ _ => rfl⟩
  rcases hf with rfl | ⟨i, rfl⟩
  · exact wpAny_pure (h _ _ ⟨_, _, .inl rfl, hz⟩ same)
  · show wpAny _ _ (loadIfAlive i.toNat >>= _) _ _ s
    refine wpAny_bind ?_
    have al : ∀ {Q : Option Obj → Shared → Prop}, Q (s.heap.get? i.toNat) s → wpAny (model prog w) A (loadIfAlive i.toNat) Q E s := fun hQ _ _ _ => hQ
    refine al ?_
    cases e : s.heap.get? i.toNat with
    | none => exact wpAny_pure (h _ _ ⟨_, _, .inr ⟨i, rfl⟩, hz⟩ same)
    | some o =>
      show wpAny _ _ (field (.ref z) 1 >>= _) _ _ s
      refine wpAny_bind (wpAny_field hz rfl (x := f1) rfl ?_)
      by_cases e1 : (f1 != Value.bool true) = true
      · rw [if_pos e1]
        exact wpAny_bind (wpAny_setField_rec hz (by simp) fun g1 z1 s1 => wpAny_pure (h _ g1 ⟨_, _, .inr ⟨i, rfl⟩, z1⟩ s1))
      · rw [if_neg e1]
        exact wpAny_pure (h _ _ ⟨_, _, .inr ⟨i, rfl⟩, hz⟩ same)
theorem zip_set {z TI TO : Addr} {k : Nat} {v : Value} {Q : Unit → Shared → Prop} (hz : ZipE s.heap z TI TO) (hk : k = 0 ∨ k = 1) (h : ∀ h', ZipE h' z TI TO → Heap.SameBut z s.heap h' → Q () { s with heap := h' }) : wpAny (model prog w) A (setField (.ref z) k v) Q E s := by
  obtain ⟨f0, f1, hz⟩ := hz
  rcases hk with rfl | rfl
  · exact wpAny_setField_rec hz (by simp) fun g1 z1 s1 => h g1 ⟨_, _, z1⟩ s1
  · exact wpAny_setField_rec hz (by simp) fun g1 z1 s1 => h g1 ⟨_, _, z1⟩ s1
theorem zipW_item {z TI TO i1 i2 l1 l2 : Addr} {b1 b2 : Bool} {k : Nat} {xs ys : Array Value} {x y u v : Value} {Q : Value → Shared → Prop} (D : ZipApart z TI TO i1 i2 l1 l2)
    (hz : ZipAt s.heap z TI TO) (p1 : IsPair s.heap TI (.ref i1) (.ref i2)) (p2 : IsPair s.heap TO u v) (j1 : IterB s.heap b1 i1 l1 k) (j2 : IterB s.heap b2 i2 l2 k) (q1 : IsB s.heap b1 l1 xs) (q2 : IsB s.heap b2 l2 ys) (hx : xs[k]? = some x) (hy : ys[k]? = some y)
    (K : ∀ h', ZipAt h' z TI TO → (∃ u v, IsPair h' TO u v) → IterB h' b1 i1 l1 (k + 1) → IterB h' b2 i2 l2 (k + 1) → IsPair h' s.heap.objs.size x y → h'.objs.size = s.heap.objs.size + 1 →
      (∀ c o, c ≠ z → c ≠ TO → c ≠ i1 → c ≠ i2 → s.heap.get? c = some o → h'.get? c = some o) → Q (.ref s.heap.objs.size) { s with heap := h' }) :
    wpAny (model prog w) A (Builtin.«zip.__next__» ⟨[.ref z], []⟩) (fun fin s' => ∃ v, fin = .done (.ret v) ∧ Q v s') E s := by
  obtain ⟨f0, f1, hf, hz0⟩ := id hz
  refine wpAny_bind (m := field (.ref z) 2) (wpAny_field hz0 rfl (x := .bool false) rfl (wpAny_bind (m := field (.ref z) 3) (wpAny_field hz0 rfl (x := .ref TI) rfl (wpAny_bind (wpAny_seqItems p1 rfl (wpAny_bind (m := Builtin.SmallTypes.ownedTupleIsFree (.ref z)) ?_))))))
  refine zip_free hz fun fr g0 z0 s0 => ?_
  replace p1 : IsPair g0 TI (.ref i1) (.ref i2) := s0.extBut _ _ D.TIz p1
  replace p2 : IsPair g0 TO u v := s0.extBut _ _ D.TOz p2
  replace j1 : IterB g0 b1 i1 l1 k := j1.at fun o e => (s0.2 _ D.i1z).trans e
  replace j2 : IterB g0 b2 i2 l2 k := j2.at fun o e => (s0.2 _ D.i2z).trans e
  replace q1 : IsB g0 b1 l1 xs := q1.at fun o e => (s0.2 _ D.l1z).trans e
  replace q2 : IsB g0 b2 l2 ys := q2.at fun o e => (s0.2 _ D.l2z).trans e
  cases fr with
  | true =>
    obtain ⟨f0', f1', hf', hz'⟩ := id z0
    simp only [if_true]
    refine wpAny_bind (wpAny_rule (wpAny_bind (wpAny_field hz' rfl (x := .ref TO) rfl (wpAny_bind (zip_set z0.e (.inl rfl) fun g1 z1 s1 => ?_)))))
    refine wpAny_bind ?_
    simp only [List.zipIdx_cons, List.forIn_cons, List.zipIdx_nil, List.forIn_nil]
    refine wpAny_bind (wpAny_bind (wpAny_onRaise (wpAny_bind (m := Builtin.SmallTypes.nextOf (.ref i1)) (nxtB_item (j1.at fun o e => (s1.2 _ D.i1z).trans e) (q1.at fun o e => (s1.2 _ D.l1z).trans e) hx fun g2 j1' s2 => wpAny_pure ?_))))
    have t2 : IsPair g2 TO u v := s2.extBut _ _ D.TOi1 (s1.extBut _ _ D.TOz p2)
    refine wpAny_bind (wpAny_seqItems t2 rfl (wpAny_bind (wpAny_updateSeq_pair t2 fun g3 t3 s3 => wpAny_bind (wpAny_letGo (wpAny_pure ?_)))))
    replace t3 : IsPair g3 TO x v := t3
    refine wpAny_bind (wpAny_bind (wpAny_onRaise (wpAny_bind (m := Builtin.SmallTypes.nextOf (.ref i2)) (nxtB_item (((j2.at fun o e => (s1.2 _ D.i2z).trans e).at fun o e => (s2.2 _ D.i12.symm).trans e).at fun o e => (s3.2 _ D.TOi2.symm).trans e)
      (((q2.at fun o e => (s1.2 _ D.l2z).trans e).at fun o e => (s2.2 _ D.l2i1).trans e).at fun o e => (s3.2 _ D.l2TO).trans e) hy fun g4 j2' s4 => wpAny_pure ?_))))
    have t4 : IsPair g4 TO x v := s4.extBut _ _ D.TOi2 t3
    refine wpAny_bind (wpAny_seqItems t4 rfl (wpAny_bind (wpAny_updateSeq_pair t4 fun g5 t5 s5 => wpAny_bind (wpAny_letGo (wpAny_pure (wpAny_pure ?_))))))
    replace t5 : IsPair g5 TO x y := t5
    refine wpAny_bind (wpAny_seqItems t5 rfl (wpAny_bind (wpAny_newTuple (wpAny_bind (m := Builtin.SmallTypes.ownedTupleHandOut (.ref z) (.ref g5.objs.size)) ?_))))
    have sz : g5.objs.size = s.heap.objs.size := by rw [s5.1, s4.1, s3.1, s2.1, s1.1, s0.1]
    have z5 : ZipE g5 z TI TO := (((z1.at fun o e => s2.extBut _ _ D.i1z.symm e).at fun o e => s3.extBut _ _ D.TOz.symm e).at fun o e => s4.extBut _ _ D.i2z.symm e).at fun o e => s5.extBut _ _ D.TOz.symm e
    have k5 : ∀ c o, c ≠ z → c ≠ TO → c ≠ i1 → c ≠ i2 → s.heap.get? c = some o → g5.get? c = some o := fun c o c1 c2 c3 c4 e => s5.extBut _ _ c2 (s4.extBut _ _ c4 (s3.extBut _ _ c2 (s2.extBut _ _ c3 (s1.extBut _ _ c1 (s0.extBut _ _ c1 e)))))
    have zl : z < g5.objs.size := let ⟨_, _, e⟩ := z5; Heap.lt_size e
    unfold Builtin.SmallTypes.ownedTupleHandOut
    obtain ⟨a0, a1, z6⟩ : ZipE (g5.push { cls := .type "tuple", data := .seq #[x, y] }) z TI TO := z5.at fun o e => Heap.get?_push_of_some _ e
    refine wpAny_bind (wpAny_setField_rec z6 (by simp) fun g7 z7 s7 => ?_)
    refine wpAny_setField_rec z7 (by simp) fun g8 z8 s8 => ?_
    have up : ∀ c o, c ≠ z → g5.get? c = some o → g8.get? c = some o := fun c o c1 e => s8.extBut _ _ c1 (s7.extBut _ _ c1 (Heap.get?_push_of_some _ e))
    have T8 : IsPair g8 g5.objs.size x y := s8.extBut _ _ (Nat.ne_of_gt zl) (s7.extBut _ _ (Nat.ne_of_gt zl) (Heap.get?_push_size _ rfl))
    have sz8 : g8.objs.size = s.heap.objs.size + 1 := by rw [s8.1, s7.1, Heap.size_push, sz]
    rw [sz] at T8
    refine wpAny_pure ⟨_, rfl, ?_⟩
    show Q (.ref g5.objs.size) _
    rw [sz]
    refine K g8 ⟨_, _, .inr ⟨_, rfl⟩, z8⟩ ⟨_, _, up _ _ D.TOz t5⟩ ?_ ?_ T8 sz8 fun c o c1 c2 c3 c4 e => up c o c1 (k5 c o c1 c2 c3 c4 e)
    · exact (((j1'.at fun o e => (s3.2 _ D.TOi1.symm).trans e).at fun o e => (s4.2 _ D.i12).trans e).at fun o e => (s5.2 _ D.TOi1.symm).trans e).at fun o e => up _ o D.i1z e
    · exact (j2'.at fun o e => (s5.2 _ D.TOi2.symm).trans e).at fun o e => up _ o D.i2z e
  | false =>
    simp only [Bool.false_eq_true, if_false]
    refine wpAny_bind ?_
    simp only [List.forIn_toArray, List.forIn_cons, List.forIn_nil]
    refine wpAny_bind (wpAny_bind (wpAny_holding (wpAny_bind (m := Builtin.SmallTypes.nextOf (.ref i1)) (nxtB_item j1 q1 hx fun g2 j1' s2 => wpAny_pure ?_))))
    refine wpAny_pure ?_
    refine wpAny_bind (wpAny_bind (wpAny_holding (wpAny_bind (m := Builtin.SmallTypes.nextOf (.ref i2)) (nxtB_item (j2.at fun o e => (s2.2 _ D.i12.symm).trans e) (q2.at fun o e => (s2.2 _ D.l2i1).trans e) hy fun g4 j2' s4 => wpAny_pure ?_))))
    refine wpAny_pure (wpAny_pure ?_)
    refine wpAny_bind (wpAny_newTuple (hsz := (by show 2 ≤ sizeLine; decide)) ?_)
    have sz : g4.objs.size = s.heap.objs.size := by rw [s4.1, s2.1, s0.1]
    refine wpAny_pure ⟨_, rfl, ?_⟩
    show Q (.ref g4.objs.size) _
    have up : ∀ c o, g4.get? c = some o → (g4.push { cls := .type "tuple", data := .seq #[x, y] }).get? c = some o := fun c o e => Heap.get?_push_of_some _ e
    have T8 : IsPair (g4.push { cls := .type "tuple", data := .seq #[x, y] }) g4.objs.size x y := Heap.get?_push_size _ rfl
    rw [sz] at T8
    rw [sz]
    refine K _ (z0.at fun o e => up _ _ (s4.extBut _ _ D.i2z.symm (s2.extBut _ _ D.i1z.symm e))) ⟨_, _, up _ _ (s4.extBut _ _ D.TOi2 (s2.extBut _ _ D.TOi1 p2))⟩ ?_ ?_ T8 (by rw [Heap.size_push, sz]) fun c o c1 c2 c3 c4 e => up c o (s4.extBut _ _ c4 (s2.extBut _ _ c3 (s0.extBut _ _ c1 e)))
    · exact j1'.at fun o e => up _ _ ((s4.2 _ D.i12).trans e)
    · exact j2'.at fun o e => up _ _ e
theorem zipW_end {z TI TO i1 i2 l1 l2 : Addr} {b1 b2 : Bool} {k : Nat} {xs ys : Array Value} {u v : Value} {Q : Fin → Shared → Prop} (hh : A.handled = none) (D : ZipApart z TI TO i1 i2 l1 l2)
    (hz : ZipAt s.heap z TI TO) (p1 : IsPair s.heap TI (.ref i1) (.ref i2)) (p2 : IsPair s.heap TO u v) (j1 : IterB s.heap b1 i1 l1 k) (j2 : IterB s.heap b2 i2 l2 k) (q1 : IsB s.heap b1 l1 xs) (q2 : IsB s.heap b2 l2 ys) (hend : xs[k]? = none ∨ ys[k]? = none)
    (K : ∀ h' e, (∀ c o, c ≠ z → c ≠ TO → c ≠ i1 → c ≠ i2 → s.heap.get? c = some o → h'.get? c = some o) → (∃ o, h'.get? e = some o ∧ o.cls = .type "StopIteration") → E (.ref e) { s with heap := h' }) :
    wpAny (model prog w) A (Builtin.«zip.__next__» ⟨[.ref z], []⟩) Q E s := by
  obtain ⟨f0, f1, hf, hz0⟩ := id hz
  refine wpAny_bind (m := field (.ref z) 2) (wpAny_field hz0 rfl (x := .bool false) rfl (wpAny_bind (m := field (.ref z) 3) (wpAny_field hz0 rfl (x := .ref TI) rfl (wpAny_bind (wpAny_seqItems p1 rfl (wpAny_bind (m := Builtin.SmallTypes.ownedTupleIsFree (.ref z)) ?_))))))
  refine zip_free hz fun fr g0 z0 s0 => ?_
  replace p1 : IsPair g0 TI (.ref i1) (.ref i2) := s0.extBut _ _ D.TIz p1
  replace p2 : IsPair g0 TO u v := s0.extBut _ _ D.TOz p2
  replace j1 : IterB g0 b1 i1 l1 k := j1.at fun o e => (s0.2 _ D.i1z).trans e
  replace j2 : IterB g0 b2 i2 l2 k := j2.at fun o e => (s0.2 _ D.i2z).trans e
  replace q1 : IsB g0 b1 l1 xs := q1.at fun o e => (s0.2 _ D.l1z).trans e
  replace q2 : IsB g0 b2 l2 ys := q2.at fun o e => (s0.2 _ D.l2z).trans e
  have ne : ∀ {g : Heap} {e : Addr} {oe : Obj}, ZipE g z TI TO → g.get? e = some oe → oe.cls = .type "StopIteration" → e ≠ z := fun ⟨_, _, z2⟩ hoe hce q => by
    subst q; rw [z2] at hoe; cases hoe; simp at hce
  cases fr with
  | true =>
    obtain ⟨f0', f1', hf', hz'⟩ := id z0
    simp only [if_true]
    refine wpAny_bind (wpAny_rule (wpAny_bind (wpAny_field hz' rfl (x := .ref TO) rfl (wpAny_bind (zip_set z0.e (.inl rfl) fun g1 z1 s1 => ?_)))))
    refine wpAny_bind ?_
    simp only [List.zipIdx_cons, List.forIn_cons, List.zipIdx_nil, List.forIn_nil]
    refine wpAny_bind (wpAny_bind (wpAny_onRaise (wpAny_bind (m := Builtin.SmallTypes.nextOf (.ref i1)) ?_)))
    cases hx : xs[k]? with
    | none =>
      refine nxtB_end hh (j1.at fun o e => (s1.2 _ D.i1z).trans e) (q1.at fun o e => (s1.2 _ D.l1z).trans e) hx fun g2 e s2 ⟨oe, hoe, hce⟩ => ?_
      have z2 : ZipE g2 z TI TO := z1.at fun o q => s2 _ _ D.i1z.symm q
      have hez := ne z2 hoe hce
      exact zip_set z2 (.inl rfl) fun g3 _ s3 => K g3 e (fun c o c1 _ c3 _ q => s3.extBut _ _ c1 (s2 _ _ c3 (s1.extBut _ _ c1 (s0.extBut _ _ c1 q)))) ⟨oe, s3.extBut _ _ hez hoe, hce⟩
    | some x =>
      have hy : ys[k]? = none := by
        rcases hend with h | h
        · rw [hx] at h; cases h
        · exact h
      refine nxtB_item (j1.at fun o e => (s1.2 _ D.i1z).trans e) (q1.at fun o e => (s1.2 _ D.l1z).trans e) hx fun g2 j1' s2 => wpAny_pure ?_
      have t2 : IsPair g2 TO u v := s2.extBut _ _ D.TOi1 (s1.extBut _ _ D.TOz p2)
      refine wpAny_bind (wpAny_seqItems t2 rfl (wpAny_bind (wpAny_updateSeq_pair t2 fun g3 t3 s3 => wpAny_bind (wpAny_letGo (wpAny_pure ?_)))))
      refine wpAny_bind (wpAny_bind (wpAny_onRaise (wpAny_bind (m := Builtin.SmallTypes.nextOf (.ref i2)) (nxtB_end hh (((j2.at fun o e => (s1.2 _ D.i2z).trans e).at fun o e => (s2.2 _ D.i12.symm).trans e).at fun o e => (s3.2 _ D.TOi2.symm).trans e)
        (((q2.at fun o e => (s1.2 _ D.l2z).trans e).at fun o e => (s2.2 _ D.l2i1).trans e).at fun o e => (s3.2 _ D.l2TO).trans e) hy fun g4 e s4 ⟨oe, hoe, hce⟩ => ?_))))
      have z4 : ZipE g4 z TI TO := ((z1.at fun o q => s2.extBut _ _ D.i1z.symm q).at fun o q => s3.extBut _ _ D.TOz.symm q).at fun o q => s4 _ _ D.i2z.symm q
      have hez := ne z4 hoe hce
      exact zip_set z4 (.inl rfl) fun g5 _ s5 => K g5 e (fun c o c1 c2 c3 c4 q => s5.extBut _ _ c1 (s4 _ _ c4 (s3.extBut _ _ c2 (s2.extBut _ _ c3 (s1.extBut _ _ c1 (s0.extBut _ _ c1 q)))))) ⟨oe, s5.extBut _ _ hez hoe, hce⟩
  | false =>
    simp only [Bool.false_eq_true, if_false]
    refine wpAny_bind ?_
    simp only [List.forIn_toArray, List.forIn_cons, List.forIn_nil]
    refine wpAny_bind (wpAny_bind (wpAny_holding (wpAny_bind (m := Builtin.SmallTypes.nextOf (.ref i1)) ?_)))
    cases hx : xs[k]? with
    | none => exact nxtB_end hh j1 q1 hx fun g2 e s2 he => K g2 e (fun c o c1 _ c3 _ q => s2 _ _ c3 (s0.extBut _ _ c1 q)) he
    | some x =>
      have hy : ys[k]? = none := by
        rcases hend with h | h
        · rw [hx] at h; cases h
        · exact h
      refine nxtB_item j1 q1 hx fun g2 j1' s2 => wpAny_pure (wpAny_pure ?_)
      refine wpAny_bind (wpAny_bind (wpAny_holding (wpAny_bind (m := Builtin.SmallTypes.nextOf (.ref i2)) (nxtB_end hh (j2.at fun o e => (s2.2 _ D.i12.symm).trans e) (q2.at fun o e => (s2.2 _ D.l2i1).trans e) hy fun g4 e s4 he => ?_))))
      exact K g4 e (fun c o c1 _ c3 c4 q => s4 _ _ c4 (s2.extBut _ _ c3 (s0.extBut _ _ c1 q))) he
/-- the next pair, to one who asks within a call -/
theorem nxtZ_item {z TI TO i1 i2 l1 l2 : Addr} {b1 b2 : Bool} {k : Nat} {xs ys : Array Value} {x y u v : Value} {Q : Value → Shared → Prop} (D : ZipApart z TI TO i1 i2 l1 l2)
    (hz : ZipAt s.heap z TI TO) (p1 : IsPair s.heap TI (.ref i1) (.ref i2)) (p2 : IsPair s.heap TO u v) (j1 : IterB s.heap b1 i1 l1 k) (j2 : IterB s.heap b2 i2 l2 k) (q1 : IsB s.heap b1 l1 xs) (q2 : IsB s.heap b2 l2 ys) (hx : xs[k]? = some x) (hy : ys[k]? = some y)
    (K : ∀ h', ZipAt h' z TI TO → (∃ u v, IsPair h' TO u v) → IterB h' b1 i1 l1 (k + 1) → IterB h' b2 i2 l2 (k + 1) → IsPair h' s.heap.objs.size x y → h'.objs.size = s.heap.objs.size + 1 →
      (∀ c o, c ≠ z → c ≠ TO → c ≠ i1 → c ≠ i2 → s.heap.get? c = some o → h'.get? c = some o) → Q (.ref s.heap.objs.size) { s with heap := h' }) :
    wpAny (model prog w) A (Builtin.SmallTypes.nextOf (.ref z)) Q E s := by
  have T : s.TypeIs (.ref z) "zip" := let ⟨_, _, _, e⟩ := hz; ⟨_, e, rfl⟩
  unfold Builtin.SmallTypes.nextOf
  exact wpAny_bind (wpAny_callSpecial?_slot (name := Str.ofString "__next__") T F.slot_zip_next (wpAny_call_entry F.slot_zip_next T F.entry_zip_next
    (zipW_item D hz p1 p2 j1 j2 q1 q2 hx hy fun h' a1 a2 a3 a4 a5 a6 a7 => wpAny_pure (K h' a1 a2 a3 a4 a5 a6 a7)) (F.args_zip_next_1 _)))
theorem nxtZ_end {z TI TO i1 i2 l1 l2 : Addr} {b1 b2 : Bool} {k : Nat} {xs ys : Array Value} {u v : Value} {Q : Value → Shared → Prop} (hh : A.handled = none) (D : ZipApart z TI TO i1 i2 l1 l2)
    (hz : ZipAt s.heap z TI TO) (p1 : IsPair s.heap TI (.ref i1) (.ref i2)) (p2 : IsPair s.heap TO u v) (j1 : IterB s.heap b1 i1 l1 k) (j2 : IterB s.heap b2 i2 l2 k) (q1 : IsB s.heap b1 l1 xs) (q2 : IsB s.heap b2 l2 ys) (hend : xs[k]? = none ∨ ys[k]? = none)
    (K : ∀ h' e, (∀ c o, c ≠ z → c ≠ TO → c ≠ i1 → c ≠ i2 → s.heap.get? c = some o → h'.get? c = some o) → (∃ o, h'.get? e = some o ∧ o.cls = .type "StopIteration") → E (.ref e) { s with heap := h' }) :
    wpAny (model prog w) A (Builtin.SmallTypes.nextOf (.ref z)) Q E s := by
  have T : s.TypeIs (.ref z) "zip" := let ⟨_, _, _, e⟩ := hz; ⟨_, e, rfl⟩
  unfold Builtin.SmallTypes.nextOf
  exact wpAny_bind (wpAny_callSpecial?_slot (name := Str.ofString "__next__") T F.slot_zip_next (wpAny_call_entry F.slot_zip_next T F.entry_zip_next
    (zipW_end hh D hz p1 p2 j1 j2 q1 q2 hend K) (F.args_zip_next_1 _)))
end
end L2

set_option Elab.async false
set_option linter.all false
set_option maxRecDepth 100000
set_option maxHeartbeats 4000000
namespace L2
open PySem PySem.Spec PyProof.Rows
section
variable {prog : Program} {w : World} {A : Around} {E : Value → Shared → Prop} {s : Shared}
theorem enumZ_next {e z TI TO i1 i2 l1 l2 : Addr} {b1 b2 : Bool} {k : Nat} {i : Int} {xs ys : Array Value} {x y u v old : Value} {Q : Value → Shared → Prop} (D : ZipApart z TI TO i1 i2 l1 l2) (De : e ∉ [z, TI, TO, i1, i2])
    (he : IsEnum s.heap e z i old) (hz : ZipAt s.heap z TI TO) (p1 : IsPair s.heap TI (.ref i1) (.ref i2)) (p2 : IsPair s.heap TO u v) (j1 : IterB s.heap b1 i1 l1 k) (j2 : IterB s.heap b2 i2 l2 k) (q1 : IsB s.heap b1 l1 xs) (q2 : IsB s.heap b2 l2 ys) (hx : xs[k]? = some x) (hy : ys[k]? = some y)
    (K : ∀ h' tk, IsEnumOut h' e z (i + 1) (.ref s.heap.objs.size) (s.heap.objs.size + 1) → ZipAt h' z TI TO → (∃ u v, IsPair h' TO u v) → IterB h' b1 i1 l1 (k + 1) → IterB h' b2 i2 l2 (k + 1) → IsPair h' s.heap.objs.size x y →
      IsPair h' (s.heap.objs.size + 1) (.int i tk) (.ref s.heap.objs.size) → (∀ c o, c ≠ e → c ≠ z → c ≠ TO → c ≠ i1 → c ≠ i2 → s.heap.get? c = some o → h'.get? c = some o) → Q (.ref (s.heap.objs.size + 1)) { s with heap := h', toks := tk + 1 }) :
    wpAny (model prog w) A (Builtin.«enumerate.__next__» ⟨[.ref e], []⟩) (fun fin s' => ∃ v, fin = .done (.ret v) ∧ Q v s') E s := by
  simp only [List.mem_cons, List.not_mem_nil, or_false, not_or] at De
  obtain ⟨n1, n2, n3, n4, n5⟩ := De
  obtain ⟨hp, g, d, tk, os⟩ := s
  refine wpAny_bind (m := field (.ref e) 2) (wpAny_field he rfl (x := .ref z) rfl ?_)
  refine wpAny_bind (nxtZ_item D hz p1 p2 j1 j2 q1 q2 hx hy fun h1 z1 t1 a1 a2 P1 sz1 k1 => ?_)
  dsimp only at P1 sz1 k1 K
  have e1 : IsEnum h1 e z i old := k1 e _ n1 n3 n4 n5 he
  have el : e < hp.objs.size := Heap.lt_size he
  refine wpAny_bind (m := field (.ref e) 3) (wpAny_field e1 rfl (x := rawInt i) rfl ?_)
  refine wpAny_bind (m := field (.ref e) 4) (wpAny_field e1 rfl (x := .none) rfl ?_)
  refine wpAny_bind (m := mkInt i) (wpAny_mkInt ?_)
  refine wpAny_bind (m := setField (.ref e) 3 (rawInt (i + 1))) (wpAny_setField_rec e1 (by simp) fun h2 e2 s2 => ?_)
  replace e2 : IsEnum h2 e z (i + 1) old := e2
  refine wpAny_bind (m := setField (.ref e) 4 .none) (wpAny_setField_rec e2 (by simp) fun h3 e3 s3 => ?_)
  replace e3 : IsEnum h3 e z (i + 1) old := e3
  refine wpAny_bind (m := newTuple [.int i tk, .ref hp.objs.size]) (wpAny_newTuple ?_)
  have sz3 : h3.objs.size = hp.objs.size + 1 := by rw [s3.1, s2.1]; exact sz1
  have e4 : IsEnum (h3.push { cls := .type "tuple", data := .seq #[.int i tk, .ref hp.objs.size] }) e z (i + 1) old := Heap.get?_push_of_some _ e3
  have T4 : IsPair (h3.push { cls := .type "tuple", data := .seq #[.int i tk, .ref hp.objs.size] }) h3.objs.size (.int i tk) (.ref hp.objs.size) := Heap.get?_push_size _ rfl
  have k4 : ∀ c o, c ≠ e → h1.get? c = some o → (h3.push { cls := .type "tuple", data := .seq #[.int i tk, .ref hp.objs.size] }).get? c = some o := fun c o ce q => Heap.get?_push_of_some _ (s3.extBut _ _ ce (s2.extBut _ _ ce q))
  rw [sz3] at T4
  show wpAny _ _ (Builtin.SmallTypes.ownedTupleIsFree (.ref e) >>= _) _ _ _
  generalize h3.push { cls := .type "tuple", data := .seq #[.int i tk, .ref hp.objs.size] } = h4 at e4 T4 k4
  refine wpAny_bind ?_
  unfold Builtin.SmallTypes.ownedTupleIsFree
  refine wpAny_bind (wpAny_field e4 rfl (x := .none) rfl (wpAny_pure ?_))
  simp only [if_true]
  refine wpAny_bind (wpAny_rule (wpAny_bind (wpAny_field e4 rfl (x := old) rfl (wpAny_bind (wpAny_setField_rec e4 (by simp) fun h5 e5 s5 => ?_)))))
  replace e5 : IsEnum h5 e z (i + 1) (.ref hp.objs.size) := e5
  rw [sz3]
  show wpAny _ _ (Builtin.SmallTypes.ownedTupleHandOut (.ref e) (.ref (hp.objs.size + 1)) >>= _) _ _ _
  refine wpAny_bind ?_
  unfold Builtin.SmallTypes.ownedTupleHandOut
  refine wpAny_bind (wpAny_setField_rec e5 (by simp) fun h6 e6 s6 => ?_)
  replace e6 : IsEnumOut h6 e z (i + 1) (.ref hp.objs.size) (hp.objs.size + 1) := e6
  refine wpAny_setField_rec e6 (by simp) fun h7 e7 s7 => ?_
  replace e7 : IsEnumOut h7 e z (i + 1) (.ref hp.objs.size) (hp.objs.size + 1) := e7
  have k7 : ∀ c o, c ≠ e → h4.get? c = some o → h7.get? c = some o := fun c o ce q => s7.extBut _ _ ce (s6.extBut _ _ ce (s5.extBut _ _ ce q))
  have k17 : ∀ c o, c ≠ e → h1.get? c = some o → h7.get? c = some o := fun c o ce q => k7 c o ce (k4 c o ce q)
  obtain ⟨u', v', t1⟩ := t1
  exact wpAny_bind (wpAny_letGo (wpAny_pure ⟨_, rfl, K h7 tk e7 (z1.at fun o q => k17 _ _ (Ne.symm n1) q) ⟨u', v', k17 _ _ (Ne.symm n3) t1⟩ (a1.at fun o q => k17 _ _ (Ne.symm n4) q) (a2.at fun o q => k17 _ _ (Ne.symm n5) q) (k17 _ _ (Nat.ne_of_gt el) P1)
    (k7 _ _ (Nat.ne_of_gt (Nat.lt_succ_of_lt el)) T4) fun c o ce cz cT c1 c2 q => k17 _ _ ce (k1 c o cz cT c1 c2 q)⟩))
theorem pyNext_enumZ {e z TI TO i1 i2 l1 l2 : Addr} {b1 b2 : Bool} {k : Nat} {i : Int} {xs ys : Array Value} {x y u v old : Value} {Q : Option Value → Shared → Prop} (D : ZipApart z TI TO i1 i2 l1 l2) (De : e ∉ [z, TI, TO, i1, i2])
    (he : IsEnum s.heap e z i old) (hz : ZipAt s.heap z TI TO) (p1 : IsPair s.heap TI (.ref i1) (.ref i2)) (p2 : IsPair s.heap TO u v) (j1 : IterB s.heap b1 i1 l1 k) (j2 : IterB s.heap b2 i2 l2 k) (q1 : IsB s.heap b1 l1 xs) (q2 : IsB s.heap b2 l2 ys) (hx : xs[k]? = some x) (hy : ys[k]? = some y)
    (K : ∀ h' tk, IsEnumOut h' e z (i + 1) (.ref s.heap.objs.size) (s.heap.objs.size + 1) → ZipAt h' z TI TO → (∃ u v, IsPair h' TO u v) → IterB h' b1 i1 l1 (k + 1) → IterB h' b2 i2 l2 (k + 1) → IsPair h' s.heap.objs.size x y →
      IsPair h' (s.heap.objs.size + 1) (.int i tk) (.ref s.heap.objs.size) → (∀ c o, c ≠ e → c ≠ z → c ≠ TO → c ≠ i1 → c ≠ i2 → s.heap.get? c = some o → h'.get? c = some o) → Q (some (.ref (s.heap.objs.size + 1))) { s with heap := h', toks := tk + 1 }) :
    wpAny (model prog w) A (pyNext (.ref e)) Q E s := by
  have T : s.TypeIs (.ref e) "enumerate" := ⟨_, he, rfl⟩
  unfold pyNext
  exact wpAny_bind (wpAny_attempt (wpAny_callSpecial?_slot (name := Str.ofString "__next__") T F.slot_enumerate_next (wpAny_call_entry F.slot_enumerate_next T F.entry_enumerate_next
    (enumZ_next D De he hz p1 p2 j1 j2 q1 q2 hx hy fun h' tk a1 a2 a3 a4 a5 a6 a7 a8 => wpAny_pure (K h' tk a1 a2 a3 a4 a5 a6 a7 a8)) (F.args_enumerate_next_1 _))))
theorem pyEnd_enumZ {e z TI TO i1 i2 l1 l2 : Addr} {b1 b2 : Bool} {k : Nat} {i : Int} {xs ys : Array Value} {u v old : Value} {Q : Option Value → Shared → Prop} (hh : A.in1.handled = none) (D : ZipApart z TI TO i1 i2 l1 l2)
    (he : IsEnum s.heap e z i old) (hz : ZipAt s.heap z TI TO) (p1 : IsPair s.heap TI (.ref i1) (.ref i2)) (p2 : IsPair s.heap TO u v) (j1 : IterB s.heap b1 i1 l1 k) (j2 : IterB s.heap b2 i2 l2 k) (q1 : IsB s.heap b1 l1 xs) (q2 : IsB s.heap b2 l2 ys) (hend : xs[k]? = none ∨ ys[k]? = none)
    (K : ∀ h', (∀ c o, c ≠ z → c ≠ TO → c ≠ i1 → c ≠ i2 → s.heap.get? c = some o → h'.get? c = some o) → Q none { s with heap := h' }) : wpAny (model prog w) A (pyNext (.ref e)) Q E s := by
  have T : s.TypeIs (.ref e) "enumerate" := ⟨_, he, rfl⟩
  unfold pyNext
  refine wpAny_bind (wpAny_attempt (wpAny_callSpecial?_slot (name := Str.ofString "__next__") T F.slot_enumerate_next (wpAny_call_entry F.slot_enumerate_next T F.entry_enumerate_next ?_ (F.args_enumerate_next_1 _))))
  refine wpAny_bind (m := field (.ref e) 2) (wpAny_field he rfl (x := .ref z) rfl (wpAny_bind (nxtZ_end hh D hz p1 p2 j1 j2 q1 q2 hend fun h' x hk ⟨o, ho, hc⟩ => ?_)))
  exact wpAny_bind (wpAny_isInstance (T := "StopIteration") (b := true) ⟨o, ho, hc⟩ isSubtype_stop (wpAny_pure (K _ hk)))
end
end L2

set_option Elab.async false
set_option linter.all false
set_option maxRecDepth 100000
set_option maxHeartbeats 4000000
namespace L2
open PySem PySem.Spec PyProof.Rows
/-- the pairs of two lists or tuples, counted -/
def ItEZ (K : PySem.W.Frag) (st : Int) (b1 b2 : Bool) (a b : Addr) : It :=
  ⟨fun i H => ∃ xs ys x y, SqB K H b1 a xs ∧ SqB K H b2 b ys ∧ xs[i]? = some x ∧ ys[i]? = some y,
   fun i H v H' => ∃ p q x y, v = .ref q ∧ H p = none ∧ H q = none ∧ p ≠ q ∧ H' = upd (upd H p (.tup [x, y])) q (.tup [.int (st + i), .ref p]) ∧ ∀ xs ys, SqB K H b1 a xs → SqB K H b2 b ys → xs[i]? = some x ∧ ys[i]? = some y,
   fun i H => ∃ xs ys, SqB K H b1 a xs ∧ SqB K H b2 b ys ∧ (xs.length ≤ i ∨ ys.length ≤ i)⟩
theorem FpOk.new {X : Cx} {pins : List (Addr × Obj)} {H : Hp} {b p : Addr} {o : HO} (h : FpOk X pins H b) (n : b ≠ p) : FpOk X pins (upd H p o) b := by
  obtain ⟨h1, h2⟩ := h
  exact ⟨by rw [upd_ne n]; exact h1, h2⟩
theorem push_back {h : Heap} {c : Addr} {o o' : Obj} (hlt : c < h.objs.size) (q : (h.push o').get? c = some o) : h.get? c = some o := by
  obtain ⟨e1, e2⟩ := Heap.get?_some_iff.mp q
  refine Heap.get?_some_iff.mpr ⟨?_, e2⟩
  have := Nat.ne_of_lt hlt
  cases h
  simpa [Heap.push, Array.getElem?_push, this] using e1
theorem turn_enumZ {P : Program} {w : World} {K : PySem.W.Frag} {elts : List Expr} {c : Nat} {pos : Pos} {st : Int} {b1 b2 : Bool} {e z TI TO i1 i2 a b : Addr} (D : ZipApart z TI TO i1 i2 a b) (De : e ∉ [z, TI, TO, i1, i2]) :
    Turn P w K (.Tuple elts c pos) (ItEZ K st b1 b2 a b) [e, z, TI, TO, i1, i2] e (fun i h => (∃ old, IsEnum h e z (st + i) old) ∧ ZipAt h z TI TO ∧ IsPair h TI (.ref i1) (.ref i2) ∧ (∃ u v, IsPair h TO u v) ∧ IterB h b1 i1 a i ∧ IterB h b2 i2 b i) where
  mem := by simp
  obj := fun i h t x hx => by
    obtain ⟨⟨old, he⟩, ⟨_, _, _, hz⟩, hTI, ⟨u, v, hTO⟩, h1, h2⟩ := t
    simp only [List.mem_cons, List.not_mem_nil, or_false] at hx
    rcases hx with rfl | rfl | rfl | rfl | rfl | rfl
    · exact ⟨_, he, fun _ q => by cases q⟩
    · exact ⟨_, hz, fun _ q => by cases q⟩
    · exact ⟨_, hTI, fun _ q => by cases q⟩
    · exact ⟨_, hTO, fun _ q => by cases q⟩
    · exact h1.ob
    · exact h2.ob
  keep := fun i h h' t k => by
    obtain ⟨⟨old, he⟩, hz, hTI, ⟨u, v, hTO⟩, h1, h2⟩ := t
    exact ⟨⟨old, k e (by simp) _ he⟩, hz.at fun o q => k z (by simp) o q, k TI (by simp) _ hTI, ⟨u, v, k TO (by simp) _ hTO⟩, h1.at fun o q => k i1 (by simp) o q, h2.at fun o q => k i2 (by simp) o q⟩
  item := by
    intro X hP hw hK hc i pins s σ H E I hf t hg
    subst hP hw hK
    obtain ⟨xs, ys, x, y, hq1, hq2, hx, hy⟩ := hg
    obtain ⟨its1, rv1, p1, _⟩ := I.seqB hq1
    obtain ⟨its2, rv2, p2, _⟩ := I.seqB hq2
    obtain ⟨u, hu, ru⟩ := rv1.get hx
    obtain ⟨v, hv, rv⟩ := rv2.get hy
    have lt : ∀ d ∈ [e, z, TI, TO, i1, i2], d < s.heap.objs.size := fun d hd => by
      obtain ⟨o, q, _⟩ : ∃ o, s.heap.get? d = some o ∧ True := by
        obtain ⟨⟨old, he⟩, ⟨_, _, _, hz⟩, hTI, ⟨u, v, hTO⟩, h1, h2⟩ := t
        simp only [List.mem_cons, List.not_mem_nil, or_false] at hd
        rcases hd with rfl | rfl | rfl | rfl | rfl | rfl
        · exact ⟨_, he, trivial⟩
        · exact ⟨_, hz, trivial⟩
        · exact ⟨_, hTI, trivial⟩
        · exact ⟨_, hTO, trivial⟩
        · obtain ⟨o, q, _⟩ := h1.ob; exact ⟨o, q, trivial⟩
        · obtain ⟨o, q, _⟩ := h2.ob; exact ⟨o, q, trivial⟩
      exact Heap.lt_size q
    obtain ⟨⟨old, he⟩, hz, hTI, ⟨u0, v0, hTO⟩, h1, h2⟩ := t
    have De' := De
    simp only [List.mem_cons, List.not_mem_nil, or_false, not_or] at De'
    obtain ⟨n1, n2, n3, n4, n5⟩ := De'
    refine pyNext_enumZ D De he hz hTI hTO h1 h2 p1 p2 (x := u) (y := v) (by simpa using hu) (by simpa using hv) fun h' tk a1 a2 a3 a4 a5 a6 a7 hk => ⟨_, rfl, ?_⟩
    refine wpAny_letOwnedTupleGo_enum (s := { s with heap := h', toks := tk + 1 }) a1 fun h'' c1 sb => ?_
    have hn : H s.heap.objs.size = none := I.hok.fresh (Nat.le_refl _)
    have hn1 : H (s.heap.objs.size + 1) = none := I.hok.fresh (Nat.le_succ _)
    have el : e < s.heap.objs.size := lt e (by simp)
    have P1 : IsPair h'' s.heap.objs.size u v := sb.extBut _ _ (Nat.ne_of_gt el) a6
    have T1 : IsPair h'' (s.heap.objs.size + 1) (.int (st + i) tk) (.ref s.heap.objs.size) := sb.extBut _ _ (Nat.ne_of_gt (Nat.lt_succ_of_lt el)) a7
    have I1 := I.turnedNew (fp := []) (t' := s.toks) (T := s.heap.objs.size) (u := .tup [x, y]) (h' := s.heap.push { cls := .type "tuple", data := .seq #[u, v] }) (fun b hb => absurd hb (by simp)) (fun b o _ q => Heap.get?_push_of_some _ q) (Nat.le_refl _)
      ⟨by show 2 ≤ _; decide, [u, v], .cons ru (.cons rv .nil), _, Heap.get?_push_size _ rfl, rfl, _, rfl⟩
    have kk : ∀ c o, c ∉ [e, z, TI, TO, i1, i2] → (s.heap.push { cls := .type "tuple", data := .seq #[u, v] }).get? c = some o → h''.get? c = some o := fun c o hc' q => by
      simp only [List.mem_cons, List.not_mem_nil, or_false, not_or] at hc'
      obtain ⟨m1, m2, m3, m4, m5, m6⟩ := hc'
      by_cases cz : c = s.heap.objs.size
      · subst cz
        have e2 : (s.heap.push { cls := .type "tuple", data := .seq #[u, v] }).get? s.heap.objs.size = some _ := Heap.get?_push_size _ rfl
        rw [e2] at q
        cases q
        exact P1
      · have hlt : c < s.heap.objs.size := by
          have h3 := Heap.lt_size q
          rw [Heap.size_push] at h3
          exact Nat.lt_of_le_of_ne (Nat.le_of_lt_succ h3) cz
        have q2 : s.heap.get? c = some o := push_back hlt q
        exact sb.extBut _ _ m1 (hk c o m1 m2 m4 m5 m6 q2)
    have hf1 : ∀ b ∈ [e, z, TI, TO, i1, i2], FpOk X pins (upd H s.heap.objs.size (.tup [x, y])) b := fun b hb => (hf b hb).new (Nat.ne_of_lt (lt b hb))
    refine ⟨.ref (s.heap.objs.size + 1), upd (upd H s.heap.objs.size (.tup [x, y])) (s.heap.objs.size + 1) (.tup [.int (st + i), .ref s.heap.objs.size]), I1.turnedNew (t' := tk + 1) hf1 kk (by show (s.heap.push _).objs.size ≤ _; rw [Heap.size_push]; exact Nat.le_refl _) ⟨by show 2 ≤ _; decide, [.int (st + i) tk, .ref s.heap.objs.size], .cons ⟨_, rfl⟩ (.cons rfl .nil), _, T1, rfl, _, rfl⟩, rfl,
      ⟨s.heap.objs.size, s.heap.objs.size + 1, x, y, rfl, hn, hn1, Nat.ne_of_lt (Nat.lt_succ_self _), rfl, fun xs' ys' q1 q2 => ?_⟩, ⟨⟨.ref s.heap.objs.size, ?_⟩, ?_, ?_, ?_, ?_, ?_⟩, fun b hb => ?_⟩
    · rw [I.seqB_inj q1 hq1, I.seqB_inj q2 hq2]; exact ⟨hx, hy⟩
    · have : st + ((i + 1 : Nat) : Int) = st + i + 1 := by omega
      rw [this]; exact c1
    · exact a2.at fun o q => sb.extBut _ _ (Ne.symm n1) q
    · exact sb.extBut _ _ (Ne.symm n2) (hk _ _ (Ne.symm n2) D.TIz D.TITO D.TIi1 D.TIi2 hTI)
    · obtain ⟨u', v', a3⟩ := a3; exact ⟨u', v', sb.extBut _ _ (Ne.symm n3) a3⟩
    · exact a4.at fun o q => sb.extBut _ _ (Ne.symm n4) q
    · exact a5.at fun o q => sb.extBut _ _ (Ne.symm n5) q
    · rw [upd_ne (Nat.ne_of_lt (Nat.lt_succ_of_lt (lt b hb))), upd_ne (Nat.ne_of_lt (lt b hb))]
      exact (hf b hb).1
  done := by
    intro X hP hw hK hc i pins s σ H E I hf t hg
    subst hP hw hK
    obtain ⟨xs, ys, hq1, hq2, hx⟩ := hg
    obtain ⟨its1, rv1, p1, _⟩ := I.seqB hq1
    obtain ⟨its2, rv2, p2, _⟩ := I.seqB hq2
    have l1 := rv1.length
    have l2 := rv2.length
    obtain ⟨⟨old, he⟩, hz, hTI, ⟨u0, v0, hTO⟩, h1, h2⟩ := t
    refine pyEnd_enumZ (I.ok.hd hc) D he hz hTI hTO h1 h2 p1 p2 (by simp; omega) fun h' hk => ⟨rfl, I.turnedL (t' := s.toks) hf fun c o hc' q => ?_⟩
    simp only [List.mem_cons, List.not_mem_nil, or_false, not_or] at hc'
    obtain ⟨m1, m2, m3, m4, m5, m6⟩ := hc'
    exact hk c o m2 m4 m5 m6 q
  self := fun _ _ _ _ _ t h => by
    obtain ⟨⟨old, he⟩, _⟩ := t
    exact wpAny_pyIter_enum he h
end L2

set_option Elab.async false
set_option linter.all false
set_option maxRecDepth 100000
set_option maxHeartbeats 4000000
namespace L2
open PySem PySem.Spec PyProof.Rows
section
variable {prog : Program} {w : World} {A : Around} {E : Value → Shared → Prop} {s : Shared}
theorem enumK_new (z TI TO : Addr) (t : Tok) :
    Meets (Builtin.«enumerate.__new__» ⟨[.type "enumerate", .ref z], [(Str.ofString "start", .int 1 t)]⟩) (fun _ R s => IsZip s.heap z TI TO .none ∧
      R (.ok (.ret (.ref s.heap.objs.size))) { s with heap := s.heap.push { cls := .type "enumerate", data := .fields #[.none, .bool false, .ref z, rawInt 1, .none, .none] } }) :=
  .of_wp fun prog w A R s h => by
    obtain ⟨hp, g, d, tk, os⟩ := s
    obtain ⟨q1, h⟩ := h
    have hsub := sub_enumerate
    have a1 : IsZip (Shared.heap ⟨hp, g, d, tk, os⟩) z TI TO .none := q1
    wp_walk using AutoSeq1.wpAny_loadPart' q1
    refine wpAny_stack_any fun st => wpAny_pure ?_
    split
    · rename_i c _ _ _ _ _
      cases (c == Value.type "enumerate")
      · wp_walk using AutoSeq1.wpAny_loadPart' q1, wpAny_pyIter_zip a1
        exact ⟨_, rfl, h⟩
      · wp_walk using AutoSeq1.wpAny_loadPart' q1, wpAny_pyIter_zip a1
        exact ⟨_, rfl, h⟩
    · wp_walk using AutoSeq1.wpAny_loadPart' q1, wpAny_pyIter_zip a1
      exact ⟨_, rfl, h⟩
end
end L2

set_option Elab.async false
set_option linter.all false
set_option maxRecDepth 100000
set_option maxHeartbeats 4000000
namespace L2
open PySem PySem.Spec PyProof.Rows
section
variable {prog : Program} {w : World} {A : Around} {E : Value → Shared → Prop} {s : Shared}
/-- object.__init__ asked with keywords, too: it has nothing to do where the type has a __new__ of its own -/
theorem init_kw {T newId : String} {me : Value} {more : List Value} {kw : List (Str × Value)} (look : typeLookup (.type T) "__init__" = pure (some (.builtin "object.__init__")))
    (mk : Bind.madeBy (.type T) = pure (some newId)) (own : (some newId != some "object.__new__") = true) :
    Meets (Builtin.«object.__init__» ⟨me :: more, kw⟩) (fun _ R s => s.TypeIs me T ∧ R (.ok (.ret .none)) s) :=
  .of_wp fun prog w A R s ⟨ty, fin⟩ => by
    cases more <;> cases kw <;> (try repeat (any_goals (first | assumption | wp_step))) <;> exact ⟨_, rfl, fin⟩
/-- a type called with keywords: its __new__, then object.__init__ -/
theorem callType_kw {T newId : String} {Bn : Builtin} {xs : List Value} {kw : List (Str × Value)} {S : PySem.Spec} {Q : Value → Shared → Prop} (tc : TypeCalled T newId "object.__init__") (own : (some newId != some "object.__new__") = true)
    (okT : checkTypeCall T ⟨xs, kw⟩ = pure ()) (okN : checkBuiltinCall newId ⟨.type T :: xs, kw⟩ = pure ()) (okI : ∀ o, argsOk "object.__init__" ⟨o :: xs, kw⟩)
    (en : entryFor table newId = some Bn) (mt : Meets (Bn ⟨.type T :: xs, kw⟩) S) (h : S A.in1 (wants (fun o sa => sa.TypeIs o T ∧ Q o sa) E) s) :
    wpAny (model prog w) A (call (.type T) xs kw) Q E s := by
  have look := tc.init.lookup
  have k1 := tc.made; have k2 := tc.sub; have k3 := tc.notType; have k4 := tc.canCreate
  obtain ⟨c, rest, k5⟩ := tc.mro
  apply wpAny_call
  apply codeAny_of_tree
  change wpAny _ _ (callAny (.type T) _) _ _ _
  apply wpAny_pure
  refine And.intro (Code.quiet_builtin _ (by decide +kernel)) (codeAny_builtin F.entry_type_call ?_)
  rw [Around.under_plain (weight_type_call_type T xs kw) (units_type_call_type T xs kw)]
  repeat (any_goals (first | assumption | wp_step))
  have made := codeAny_call_builtin (prog := prog) (w := w) (A := A.in1) tc.plain en (wpAny_of_eq okN (mt prog w A.in1 _ s h))
  apply codeAny_mono made
  rintro (e | fl) sa ho
  · exact ho
  cases fl <;> first
    | exact False.elim ho
    | skip
  rename_i o
  obtain ⟨ty, q⟩ := ho
  have bind := tc.init.bind o
  repeat (any_goals (first | assumption | wp_step))
  have inited := codeAny_call_builtin (prog := prog) (w := w) (A := A.in1) tc.init.plain F.entry_object_init
    (tc.init.check _ _ _ _ _ _ _ _ ty (okI o) (init_kw look tc.made own prog w A.in1 (wants (fun v sb => v = .none ∧ Q o sb) E) sa ⟨ty, rfl, q⟩))
  apply codeAny_mono inited
  rintro (e | fl) sb hv
  · exact hv
  cases fl <;> first
    | exact False.elim hv
    | skip
  obtain ⟨rfl, qq⟩ := hv
  repeat (any_goals (first | assumption | wp_step))
theorem call_enumZ {z TI TO : Addr} {t : Tok} {Q : Value → Shared → Prop} (q1 : IsZip s.heap z TI TO .none)
    (h : ∀ h', IsEnum h' s.heap.objs.size z 1 .none → (∀ c o, s.heap.get? c = some o → h'.get? c = some o) → Q (.ref s.heap.objs.size) { s with heap := h' }) :
    wpAny (model prog w) A (call (.type "enumerate") [.ref z] [(Str.ofString "start", .int 1 t)]) Q E s := by
  refine callType_kw F.called_enumerate (by decide) (by kernel_rfl) (by kernel_rfl) (fun obj => ?_) F.entry_enumerate_new (enumK_new z TI TO t) ⟨q1, ?_⟩
  · unfold argsOk; rw [signature?_of (id := "object.__init__") (n := ['_', '_', 't', 'i', 'n', 'i', '_', '_']) (o := ['t', 'c', 'e', 'j', 'b', 'o']) (by kernel_rfl) F.owner_object]; kernel_rfl
  · have g2 : (s.heap.push { cls := .type "enumerate", data := .fields #[.none, .bool false, .ref z, rawInt 1, .none, .none] }).get? s.heap.objs.size = some _ := Heap.get?_push_size _ rfl
    exact ⟨⟨_, g2, rfl⟩, h _ g2 fun c o q => Heap.get?_push_of_some _ q⟩
end
end L2

set_option Elab.async false
set_option linter.all false
set_option maxRecDepth 100000
set_option maxHeartbeats 4000000
namespace L2
open PySem PySem.Spec PyProof.Rows
/-- a type called by name with one plain thing ahead and keywords behind -/
theorem callWith_typeK {M : Model} {A : Around} {E : Value → Shared → Prop} {s : Shared} {en : Env} {at' : Pos} {id : String} {x : Expr} {xs : List Expr} {ks : List Keyword} {Q : Value → Shared → Prop}
    (go : wpAny M A (spliced (backTo at' (starEach (x :: xs) en))) (fun us sa => wpAny M A (evalAll ((backToKw at' (keywordEach ks en)).map (·.2))) (fun kv sb => wpAny M A (call (.type id) us (((backToKw at' (keywordEach ks en)).filterMap (·.1)).zip kv)) Q E sb) E sa) E s)
    (first : backTo at' (starEach (x :: xs) en) = (false, eval x en) :: backTo at' (starEach xs en) := by rfl) (unstarred : (backTo at' (starEach (x :: xs) en)).any (·.1) = false := by rfl)
    (named : (backToKw at' (keywordEach ks en)).all (·.1.isSome) = true := by rfl) (noDouble : (backToKw at' (keywordEach ks en)).any (·.1.isNone) = false := by rfl) :
    wpAny M A (callWith at' (.type id) [] (backTo at' (starEach (x :: xs) en)) (backToKw at' (keywordEach ks en))) Q E s := by
  have args : wpAny M A (evalArgs (.type id) true (backTo at' (starEach (x :: xs) en)) (backToKw at' (keywordEach ks en))) (fun a sa => wpAny M A (call (.type id) ([] ++ a.pos) a.kw) Q E sa) E s := by
    rw [first] at go ⊢
    exact evalArgs_kwB named go
  unfold callWith
  apply wpAny_bind
  apply wpAny_holding
  refine wpAny_mono args (fun a sa ha => ?_) fun _ _ z => z
  apply wpAny_bind
  apply wpAny_standAt
  simp only [unstarred, noDouble, Bool.or_false]
  apply wpAny_bind
  apply wpAny_pure
  apply wpAny_bind
  exact wpAny_mono ha (fun v sb hv => wpAny_bind (wpAny_holding (wpAny_point (wpAny_pure hv)))) fun _ _ z => z
def iEnumZ (K : PySem.W.Frag) (st : Int) (b1 b2 : Bool) (ta : TA) : TI := fun σ H R => ta σ H fun vs H1 => ∃ a b, vs = [.ref a, .ref b] ∧ (∃ xs, SqB K H1 b1 a xs) ∧ (∃ ys, SqB K H1 b2 b ys) ∧ R (ItEZ K st b1 b2 a b) H1
/-- for k, (x, y) in enumerate(zip(xs, ys), start=1) -/
theorem pi_enumZ1 (b1 b2 : Bool) {X : Cx} {elts : List Expr} {c : Nat} {tpos : Pos} {a b : Expr} {ta : TA} {p p2 p3 kp pos zpos : Pos} {kk : _} (hg : Gl X "enumerate") (hm : X.mg "enumerate" = none) (hg2 : Gl X "zip") (hm2 : X.mg "zip" = none) (ha : PA X [a, b] ta)
    (hs : starEach [a, b] X.env = [(false, eval a X.env), (false, eval b X.env)] := by rfl) (hs2 : starEach [b] X.env = [(false, eval b X.env)] := by rfl)
    (he : backTo pos (starEach [.Call (.Name "zip" p2) [a, b] [] zpos] X.env) = (false, eval (.Call (.Name "zip" p2) [a, b] [] zpos) X.env) :: backTo pos (starEach [] X.env) := by rfl) (hpl : (backTo pos (starEach [.Call (.Name "zip" p2) [a, b] [] zpos] X.env)).any (·.1) = false := by rfl) :
    PI X (.Tuple elts c tpos) (.Call (.Name "enumerate" p) [.Call (.Name "zip" p2) [a, b] [] zpos] [⟨some "start", .Constant (.int 1) kk p3, kp⟩] pos) (iEnumZ X.K 1 b1 b2 ta) := by
  intro pins s σ H R I h
  refine wpAny_Call_Name_kw (ld_blt I hg hm boot_enumerate ?_ (by decide) (by decide))
  refine callWith_typeK (spliced_more ?_ he) he hpl
  refine Call_ (ld_blt I hg2 hm2 boot_zip (PyProof.Rows.callWith_type1 (thn (ha zpos pins s σ H _ I h) fun us s1 ⟨vs, H1, I1, r1, q1⟩ => ?_) (by rw [hs, hs2]) (by rw [hs2]; rfl)))
  obtain ⟨a, b, e, ⟨xs, hq1⟩, ⟨ys, hq2⟩, q⟩ := q1
  subst e
  cases r1 with
  | cons r rr =>
    cases rr with
    | cons r' rr =>
      cases rr
      cases r
      cases r'
      obtain ⟨its1, rv1, p1, _⟩ := I1.seqB hq1
      obtain ⟨its2, rv2, p2, _⟩ := I1.seqB hq2
      have la := p1.lt
      have lb := p2.lt
      refine call_zipB p1 p2 fun h' a1 a2 a3 a4 a5 hk => spliced_none ?_
      have D : ZipApart (s1.heap.objs.size + 4) (s1.heap.objs.size + 2) (s1.heap.objs.size + 3) s1.heap.objs.size (s1.heap.objs.size + 1) a b := zip_apart la lb
      show wpAny _ X.A (evalAll [(do let v ← eval (.Constant (.int 1) kk p3) X.env; standAt pos; pure v)]) _ _ _
      refine wpAny_evalAll_cons (wpAny_bind (wpAny_Constant_int (wpAny_bind (wpAny_standAt (wpAny_pure (wpAny_evalAll_nil ?_))))))
      show wpAny _ X.A (call (.type "enumerate") [.ref (s1.heap.objs.size + 4)] [(Str.ofString "start", .int 1 _)]) _ _ _
      refine call_enumZ a1 fun h2 e2 k2 => wpAny_pyIter_enum e2 ?_
      have l4 : s1.heap.objs.size + 4 < h'.objs.size := Heap.lt_size a1
      have De : h'.objs.size ∉ [s1.heap.objs.size + 4, s1.heap.objs.size + 2, s1.heap.objs.size + 3, s1.heap.objs.size, s1.heap.objs.size + 1] := by
        simp only [List.mem_cons, List.not_mem_nil, or_false, not_or]
        refine ⟨?_, ?_, ?_, ?_, ?_⟩ <;> (show ¬ ((_ : Nat) = (_ : Nat))) <;> omega
      refine ⟨_, _, _, _, H1, rfl, I1.kept (t' := s1.toks + 1) fun c o q => k2 c o (hk c o q), turn_enumZ (st := 1) (e := h'.objs.size) D De, ⟨⟨_, e2⟩, ⟨_, _, .inl rfl, k2 _ _ a1⟩, k2 _ _ a2, ⟨_, _, k2 _ _ a3⟩, a4.at fun o q => k2 _ _ q, a5.at fun o q => k2 _ _ q⟩, fun x hx => ?_, q⟩
      have hx' : s1.heap.objs.size ≤ x := by
        simp only [List.mem_cons, List.not_mem_nil, or_false] at hx
        rcases hx with rfl | rfl | rfl | rfl | rfl | rfl <;> (show (_ : Nat) ≤ (_ : Nat)) <;> omega
      exact I1.fpOk hx' (I1.hok.fresh hx')
end L2

set_option Elab.async false
set_option linter.all false
set_option maxRecDepth 100000
set_option maxHeartbeats 4000000
namespace L2
open PySem PySem.Spec PyProof.Rows
/-- for k, (x, y) in enumerate(zip(xs, ys), start=1), as long as one another -/
theorem for_enumZ {K : PySem.W.Frag} {st : Int} {b1 b2 : Bool} {a b : Addr} {xs ys : List V} {g : TG} {tb : TS} {D : Ends} {σ : St} {H : Hp} (Pv : Nat → St → Hp → Prop) (hxy : xs.length = ys.length) (h0 : Pv 0 σ H) (hl : ∀ i σ H, i ≤ xs.length → Pv i σ H → SqB K H b1 a xs ∧ SqB K H b2 b ys)
    (hs : ∀ i x y p q σ H, xs[i]? = some x → ys[i]? = some y → Pv i σ H → H p = none → H q = none → p ≠ q → g (.ref q) σ (upd (upd H p (.tup [x, y])) q (.tup [.int (st + i), .ref p])) fun σ2 H2 => tb { D with nx := Pv (i + 1), ct := Pv (i + 1), bk := D.nx } σ2 H2) (hd : ∀ σ H, Pv xs.length σ H → D.nx σ H) :
    ∃ W : Nat → Nat → St → Hp → Prop, (∃ m, W 0 m σ H) ∧ ∀ i m σ H, W i m σ H →
      ((ItEZ K st b1 b2 a b).stop i H ∧ D.nx σ H) ∨ ((ItEZ K st b1 b2 a b).go i H ∧ ∃ N : St → Hp → Prop, (∀ σ' H', N σ' H' → ∃ m', m' < m ∧ W (i + 1) m' σ' H') ∧ ∀ x H', (ItEZ K st b1 b2 a b).yld i H x H' → g x σ H' fun σ2 H2 => tb { D with nx := N, ct := N, bk := D.nx } σ2 H2) := by
  refine ⟨fun i m σ H => m = xs.length - i ∧ i ≤ xs.length ∧ Pv i σ H, ⟨xs.length, by simp, Nat.zero_le _, h0⟩, ?_⟩
  rintro i m σ H ⟨rfl, hi, p⟩
  obtain ⟨q1, q2⟩ := hl i σ H hi p
  by_cases hlt : i < xs.length
  · refine .inr ⟨⟨xs, ys, xs[i], ys[i]'(by omega), q1, q2, by simp [hlt], List.getElem?_eq_getElem (by omega)⟩, Pv (i + 1), fun σ' H' p' => ⟨xs.length - (i + 1), by omega, rfl, hlt, p'⟩, fun x H' y => ?_⟩
    obtain ⟨r, r2, z1, z2, rfl, hr, hr2, hne, rfl, hz⟩ := y
    obtain ⟨e1, e2⟩ := hz xs ys q1 q2
    exact hs i z1 z2 r r2 σ H e1 e2 p hr hr2 hne
  · have e : i = xs.length := by omega
    subst e
    exact .inl ⟨⟨xs, ys, q1, q2, .inl (Nat.le_refl _)⟩, hd σ H p⟩
end L2

set_option Elab.async false
set_option linter.all false
set_option maxRecDepth 100000
set_option maxHeartbeats 4000000
namespace L2
open PySem PySem.Spec PyProof.Rows MA
section
variable {X : Cx}
/-- sum(xs), xs a tuple of ints -/
theorem call_sumT (hc : X.calm = true) : CallR X (.builtin "sum") (fun xs H Q => ∃ (l : Addr) (ns : List Int), xs = [.ref l] ∧ H l = some (.tup (ns.map V.int)) ∧ Q (.int ns.sum) H) := by
  intro pins s σ H xs us Q I r h
  obtain ⟨l, ns, rfl, hl, q⟩ := h
  obtain ⟨u, rfl, ru⟩ := vals1 r
  cases ru
  obtain ⟨its, rv, p, hz⟩ := I.tuple (SqT.of hl)
  have hi := intsAre_of rv
  obtain ⟨ys, e⟩ := hi.allInts.items
  have hnum : ns = ys.toList.map (·.1) := by
    have h1 := hi.numsOf
    have h2 := nums_intItems ys
    rw [← e] at h2
    rw [← h1, ← h2]
  refine PySem.W.ktm_sumG (I.ok.hd hc) (xs := ys) (by rw [← e]; exact p) fun h' tk t' hk => ?_
  refine ⟨.int ns.sum, H, I.kept (t' := tk) hk, ⟨t', ?_⟩, q⟩
  rw [preSum_eq, List.take_of_length_le (by simp), hnum]
/-- != of a list and the empty list -/
theorem op_neE (hu : X.A.units < cLine) : OpR X (compareOp .NotEq) (fun x y H Q => ∃ p q xs, x = .ref p ∧ y = .ref q ∧ H p = some (.lst xs) ∧ H q = some (.lst []) ∧ Q (.bl (decide (xs ≠ []))) H) := by
  intro pins s σ H x y v u Q I rx ry h
  obtain ⟨p, q, xs, rfl, rfl, h1, h2, k⟩ := h
  cases rx
  cases ry
  obtain ⟨us, r1, t1, z1⟩ := I.list (SqL.of h1)
  obtain ⟨ws, r2, t2, z2⟩ := I.list (SqL.of h2)
  cases r2
  by_cases e : xs = []
  · subst e
    cases r1
    refine PySem.W.cmp_ofNotEq (SeqAt.RcNeAt.lists (e := fun _ => true) t1.isList t2.isList rfl hu (fun j a b => absurd a (by simp)) X.prog X.w X.xe _ (fin_bl I k ?_))
    simp
  · have hl := r1.length
    have hx : 0 < xs.length := List.length_pos_iff.mpr e
    refine PySem.W.cmp_ofNotEq (SeqAt.RcNeAt.lists_lengths t1.isList t2.isList (by simp; intro z; rw [z] at hl; simp at hl; exact e hl) hu X.prog X.w X.xe _ (fin_bl I k ?_))
    simp [e]
end
end L2

set_option Elab.async false
set_option linter.all false
set_option maxRecDepth 100000
set_option maxHeartbeats 4000000
namespace My
open PySem L2 MA
/-- sums of the first ones -/
def pre (l : List Int) (k : Nat) : Int := (l.take k).sum
theorem pre_zero (l : List Int) : pre l 0 = 0 := by simp [pre]
theorem pre_succ {l : List Int} {k : Nat} (h : k < l.length) : pre l (k + 1) = pre l k + l[k] := by
  unfold pre
  rw [List.take_succ_eq_append_getElem h, List.sum_append]
  simp
theorem pre_all {l : List Int} {k : Nat} (h : l.length ≤ k) : pre l k = l.sum := by unfold pre; rw [List.take_of_length_le h]
theorem pre_le {a b : List Int} (e : a.length = b.length) : ∀ k, k ≤ a.length → (∀ i (h : i < k) (ha : i < a.length) (hb : i < b.length), a[i] ≤ b[i]) → pre a k ≤ pre b k
  | 0, _, _ => by rw [pre_zero, pre_zero]; omega
  | k + 1, hk, h => by
    have ih := pre_le e k (by omega) fun i hi ha hb => h i (by omega) ha hb
    have h1 := h k (by omega) (by omega) (by omega)
    rw [pre_succ (show k < a.length by omega), pre_succ (show k < b.length by omega)]
    omega
theorem pre_lt {a b : List Int} (e : a.length = b.length) : ∀ k, k ≤ a.length → (∀ i (h : i < k) (ha : i < a.length) (hb : i < b.length), a[i] ≤ b[i]) → (∃ i, ∃ (h : i < k) (ha : i < a.length) (hb : i < b.length), a[i] < b[i]) → pre a k < pre b k
  | 0, _, _, h => by obtain ⟨i, hi, _⟩ := h; omega
  | k + 1, hk, h, g => by
    have h1 := h k (by omega) (by omega) (by omega)
    rw [pre_succ (show k < a.length by omega), pre_succ (show k < b.length by omega)]
    obtain ⟨i, hi, ha, hb, hlt⟩ := g
    by_cases c : i = k
    · subst c
      have := pre_le e i (by omega) fun j hj ha hb => h j (by omega) ha hb
      omega
    · have := pre_lt e k (by omega) (fun j hj ha hb => h j (by omega) ha hb) ⟨i, by omega, ha, hb, hlt⟩
      omega
theorem pre_set {l : List Int} {i : Nat} (hi : i < l.length) (v : Int) : ∀ k, k ≤ l.length → pre (l.set i v) k = pre l k + if i < k then v - l[i] else 0
  | 0, _ => by simp [pre_zero]
  | k + 1, hk => by
    have ih := pre_set hi v k (by omega)
    rw [pre_succ (show k < (l.set i v).length by rw [List.length_set]; omega), pre_succ (show k < l.length by omega), ih, List.getElem_set]
    by_cases c : i = k
    · subst c
      rw [if_pos rfl, if_neg (by omega), if_pos (by omega)]
      omega
    · rw [if_neg c]
      by_cases d : i < k
      · rw [if_pos d, if_pos (by omega)]; omega
      · rw [if_neg d, if_neg (by omega)]; omega
/-- load can be led to one -/
structure Way (one load : List Int) : Prop where
  len : one.length = load.length
  d1 : one.Pairwise (· ≥ ·)
  d2 : load.Pairwise (· ≥ ·)
  sum : one.sum = load.sum
  le : ∀ k, k ≤ one.length → pre one k ≤ pre load k
/-- the places that a move is made between -/
structure Move (one load : List Int) (g s : Nat) : Prop where
  gs : g < s
  sl : s < load.length
  so : s < one.length
  lt : load[s] < one[s]
  all : ∀ i (h : i < s) (ha : i < load.length) (hb : i < one.length), one[i] ≤ load[i]
  gt : one[g]'(by omega) < load[g]'(by omega)
  eq : ∀ i (h : i < s) (ha : i < load.length) (hb : i < one.length), g < i → load[i] = one[i]
def step (load : List Int) (g s : Nat) : List Int := (load.set g (load.getD g 0 - 1)).set s (load.getD s 0 + 1)
theorem step_get {load : List Int} {g s : Nat} (gs : g < s) (sl : s < load.length) {i : Nat} (hi : i < (step load g s).length) (hi' : i < load.length) : (step load g s)[i] = if i = s then load[s] + 1 else if i = g then load[g]'(by omega) - 1 else load[i] := by
  have e0 : (step load g s)[i] = ((load.set g (load.getD g 0 - 1)).set s (load.getD s 0 + 1))[i]'(by rw [List.length_set, List.length_set]; exact hi') := rfl
  rw [e0, List.getElem_set, List.getElem_set]
  have e1 : load.getD s 0 = load[s] := by rw [List.getD_eq_getElem?_getD, List.getElem?_eq_getElem sl]; rfl
  have e2 : load.getD g 0 = load[g]'(by omega) := by rw [List.getD_eq_getElem?_getD, List.getElem?_eq_getElem (by omega)]; rfl
  rw [e1, e2]
  by_cases c : s = i
  · rw [if_pos c, if_pos c.symm]
  · rw [if_neg c, if_neg (show ¬ i = s from fun z => c z.symm)]
    by_cases d : g = i
    · rw [if_pos d, if_pos d.symm]
    · rw [if_neg d, if_neg (show ¬ i = g from fun z => d z.symm)]
theorem step_len (load : List Int) (g s : Nat) : (step load g s).length = load.length := by simp [step]
theorem step_pre {load : List Int} {g s : Nat} (gs : g < s) (sl : s < load.length) {k : Nat} (hk : k ≤ load.length) : pre (step load g s) k = pre load k - if g < k ∧ k ≤ s then 1 else 0 := by
  have e1 : load.getD s 0 = load[s] := by rw [List.getD_eq_getElem?_getD, List.getElem?_eq_getElem sl]; rfl
  have e2 : load.getD g 0 = load[g]'(by omega) := by rw [List.getD_eq_getElem?_getD, List.getElem?_eq_getElem (by omega)]; rfl
  unfold step
  rw [pre_set (by rw [List.length_set]; exact sl) _ k (by rw [List.length_set]; exact hk), pre_set (show g < load.length by omega) _ k hk, List.getElem_set, if_neg (show ¬ g = s by omega), e1, e2]
  by_cases c : g < k
  · rw [if_pos c]
    by_cases d : s < k
    · rw [if_pos d, if_neg (by omega)]; omega
    · rw [if_neg d, if_pos (by omega)]; omega
  · rw [if_neg c, if_neg (by omega), if_neg (by omega)]; omega
theorem dsc_at {l : List Int} (h : l.Pairwise (· ≥ ·)) {i j : Nat} (hij : i ≤ j) (hj : j < l.length) : l[j] ≤ l[i]'(by omega) := by
  by_cases e : i = j
  · subst e; exact Int.le_refl _
  · exact List.pairwise_iff_getElem.mp h i j (by omega) hj (by omega)
theorem Way.next {one load : List Int} {g s : Nat} (W : Way one load) (M : Move one load g s) : Way one (step load g s) := by
  obtain ⟨len, d1, d2, sm, le⟩ := W
  obtain ⟨gs, sl, so, lt, all, gt, eq⟩ := M
  have a1 : one[s] ≤ one[g]'(by omega) := dsc_at d1 (by omega) so
  refine ⟨by rw [step_len]; exact len, d1, ?_, ?_, fun k hk => ?_⟩
  · refine List.pairwise_iff_getElem.mpr fun i j hi hj hij => ?_
    have hi' : i < load.length := by rw [step_len] at hi; exact hi
    have hj' : j < load.length := by rw [step_len] at hj; exact hj
    show (step load g s)[j] ≤ (step load g s)[i]
    rw [step_get gs sl hi hi', step_get gs sl hj hj']
    have b0 : load[j] ≤ load[i] := dsc_at d2 (by omega) hj'
    by_cases c1 : j = s
    · subst c1
      rw [if_pos rfl, if_neg (by omega)]
      by_cases c2 : i = g
      · subst c2; rw [if_pos rfl]; omega
      · rw [if_neg c2]
        by_cases c3 : g < i
        · have := eq i hij hi' (by omega) c3
          have : one[j] ≤ one[i] := dsc_at d1 (by omega) so
          omega
        · have : load[g] ≤ load[i] := dsc_at d2 (by omega) (by omega)
          omega
    · rw [if_neg c1]
      by_cases c2 : j = g
      · subst c2
        rw [if_pos rfl, if_neg (by omega), if_neg (by omega)]
        omega
      · rw [if_neg c2]
        by_cases c3 : i = s
        · subst c3; rw [if_pos rfl]; omega
        · rw [if_neg c3]
          by_cases c4 : i = g
          · subst c4
            rw [if_pos rfl]
            by_cases c5 : j < s
            · have := eq j c5 hj' (by omega) hij
              have : one[j] ≤ one[i] := dsc_at d1 (by omega) (by omega)
              omega
            · have : load[j] ≤ load[s] := dsc_at d2 (by omega) hj'
              omega
          · rw [if_neg c4]; exact b0
  · have h1 := step_pre gs sl (Nat.le_refl load.length)
    rw [pre_all (by rw [step_len]; exact Nat.le_refl _), pre_all (Nat.le_refl _), if_neg (by omega)] at h1
    omega
  · rw [step_pre gs sl (by omega)]
    by_cases c : g < k ∧ k ≤ s
    · rw [if_pos c]
      have := pre_lt len k hk (fun i hi ha hb => all i (by omega) hb ha) ⟨g, c.1, by omega, by omega, gt⟩
      omega
    · rw [if_neg c]
      have := le k hk
      omega
/-- how far off -/
def far (one load : List Int) : Nat := ((List.range (one.length + 1)).map fun k => (pre load k - pre one k).toNat).sum
theorem sum_lt_of {f g : Nat → Nat} : ∀ n, (∀ k, k < n → f k ≤ g k) → (∃ k, k < n ∧ f k < g k) → ((List.range n).map f).sum < ((List.range n).map g).sum
  | 0, _, h => by obtain ⟨k, hk, _⟩ := h; omega
  | n + 1, h, ⟨k, hk, hlt⟩ => by
    rw [List.range_succ, List.map_append, List.map_append, List.sum_append, List.sum_append]
    have hn := h n (by omega)
    by_cases c : k = n
    · subst c
      have : ∀ m, m ≤ k → ((List.range m).map f).sum ≤ ((List.range m).map g).sum := by
        intro m
        induction m with
        | zero => intro _; simp
        | succ m ih =>
          intro hm
          rw [List.range_succ, List.map_append, List.map_append, List.sum_append, List.sum_append]
          have := ih (by omega)
          have := h m (by omega)
          simp
          omega
      have := this k (Nat.le_refl _)
      simp
      omega
    · have := sum_lt_of n (fun j hj => h j (by omega)) ⟨k, by omega, hlt⟩
      simp
      omega
theorem far_step {one load : List Int} {g s : Nat} (W : Way one load) (M : Move one load g s) : far one (step load g s) < far one load := by
  have W2 := W.next M
  have len := W.len
  have gs := M.gs
  have sl := M.sl
  refine sum_lt_of _ (fun k hk => ?_) ⟨s, by omega, ?_⟩
  · rw [step_pre gs sl (by omega)]
    split <;> omega
  · have h1 := step_pre (load := load) gs sl (show s ≤ load.length by omega)
    rw [if_pos ⟨gs, Nat.le_refl _⟩] at h1
    have h2 := W2.le s (by omega)
    omega
theorem eq_of_le {a b : List Int} (e : a.length = b.length) (h : ∀ i (ha : i < a.length) (hb : i < b.length), a[i] ≤ b[i]) (s : a.sum = b.sum) : a = b := by
  refine List.ext_getElem e fun i ha hb => ?_
  by_cases c : a[i] < b[i]
  · have := pre_lt e a.length (Nat.le_refl _) (fun j _ ha hb => h j ha hb) ⟨i, ha, ha, hb, c⟩
    rw [pre_all (Nat.le_refl _), pre_all (by omega)] at this
    omega
  · have := h i ha hb
    omega
/-- while load is not one there is a place that holds too few -/
theorem few_ex {one load : List Int} (W : Way one load) (n : load ≠ one) : ∃ i, ∃ (ha : i < load.length) (hb : i < one.length), load[i] < one[i] := by
  refine Classical.byContradiction fun h => n ?_
  have := eq_of_le W.len (fun i ha hb => by
    refine Classical.byContradiction fun c => h ⟨i, hb, ha, by omega⟩) W.sum
  exact this.symm
/-- ahead of the first such place there is one that holds too many -/
theorem many_ex {one load : List Int} (W : Way one load) {s : Nat} (sl : s < load.length) (so : s < one.length) (lt : load[s] < one[s]) (all : ∀ i (h : i < s) (ha : i < load.length) (hb : i < one.length), one[i] ≤ load[i]) : ∃ i, ∃ (h : i < s) (ha : i < load.length) (hb : i < one.length), one[i] < load[i] := by
  refine Classical.byContradiction fun h => ?_
  have h1 := pre_le W.len.symm s (by omega) fun i hi ha hb => by
    refine Classical.byContradiction fun c => h ⟨i, hi, ha, hb, by omega⟩
  have h2 := W.le (s + 1) (by omega)
  rw [pre_succ so, pre_succ sl] at h2
  omega
end My

set_option Elab.async false
set_option linter.all false
set_option maxRecDepth 100000
set_option maxHeartbeats 4000000
namespace L2
open PySem PySem.Spec PyProof.Rows MA SeqAt
section
variable {X : Cx}
end
/-- [.. for i, x in enumerate(xs) if ..] -/
theorem comp_enumT {K : PySem.W.Frag} {b : Bool} {a : Addr} {xs : List V} {tc : TT} {te : TE} {H : Hp} {R : Addr → Hp → Prop} {fs : St} (Pv : Addr → Nat → List V → Hp → Prop) (hn : xs.length ≤ 10000) (hp0 : ∀ p, H p = none → Pv p 0 [] (upd H p (.lst [])))
    (hl : ∀ p i zs H', H p = none → Pv p i zs H' → H' a = some (hoB b xs))
    (hte : ∀ p i ys H' x t, H p = none → xs[i]? = some x → Pv p i ys H' → H' p = some (.lst ys) → H' t = none → ∀ (Qf : Hp → Prop) (Q' : VK), (∀ H'', H'' p = some (.lst ys) → Pv p (i + 1) ys H'' → Qf H'') →
      (∀ v H'', H'' p = some (.lst ys) → Pv p (i + 1) (ys ++ [v]) (upd H'' p (.lst (ys ++ [v]))) → Q' v H'') → tc (some (.int (i : Int)) :: some x :: fs) (upd H' t (.tup [.int (i : Int), x])) (fun b H4 => if b = true then te (some (.int (i : Int)) :: some x :: fs) H4 Q' else Qf H4))
    (q : ∀ p ys H', H p = none → Pv p xs.length ys H' → H' p = some (.lst ys) → R p H') :
    ∀ p, H p = none → ∃ W : Nat → Nat → List V → St → Hp → Prop, (∃ m, W 0 m [] (none :: none :: fs) (upd H p (.lst []))) ∧ ∀ i m ys σ' H', W i m ys σ' H' →
      ((ItE K b a).stop i H' ∧ R p H') ∨ ((ItE K b a).go i H' ∧ ∀ x H2, (ItE K b a).yld i H' x H2 → gTup0 2 (gCons (gName 0) (gCons (gName 1) gNil)) x σ' H2 fun σ2 H3 => tc σ2 H3 fun b H4 => if b = true then te σ2 H4 fun v H5 => ys.length < sizeLine ∧ H5 p = some (.lst ys) ∧ (∃ m', m' < m ∧ W (i + 1) m' (ys ++ [v]) σ2 (upd H5 p (.lst (ys ++ [v]))))
        else ∃ m', m' < m ∧ W (i + 1) m' ys σ2 H4) := by
  intro p hp
  refine ⟨fun i m ys σ' H' => m = xs.length - i ∧ i ≤ xs.length ∧ ys.length ≤ i ∧ Pv p i ys H' ∧ H' p = some (.lst ys) ∧ ∃ o1 o2, σ' = o1 :: o2 :: fs, ⟨xs.length, by simp, Nat.zero_le _, Nat.le_refl _, hp0 p hp, upd_same, _, _, rfl⟩, ?_⟩
  rintro i m ys σ' H' ⟨rfl, hi, hzl, pv, hp', o1, o2, rfl⟩
  have ha' := hl p i ys H' hp pv
  by_cases hlt : i < xs.length
  · refine .inr ⟨⟨xs, xs[i], SqB.of ha', List.getElem?_eq_getElem hlt⟩, fun x H2 hy => ?_⟩
    obtain ⟨r, x, rfl, hr, rfl, hx'⟩ := hy
    have hx := hx' xs (SqB.of ha')
    refine ⟨r, _, rfl, upd_same, rfl, _, _, rfl, _, _, rfl, rfl, ?_⟩
    change tc (some (.int (i : Int)) :: some x :: fs) _ _
    refine hte p i ys H' x r hp hx pv hp' hr _ _ (fun H5 h5 pv5 => ⟨xs.length - (i + 1), by omega, rfl, hlt, by omega, pv5, h5, _, _, rfl⟩) fun v H5 h5 pv5 => ⟨?_, h5, xs.length - (i + 1), by omega, rfl, hlt, by simp; omega, pv5, upd_same, _, _, rfl⟩
    rw [sizeLine_eq]; omega
  · have e : i = xs.length := by omega
    subst e
    exact .inl ⟨⟨xs, SqB.of ha', Nat.le_refl _⟩, q p ys H' hp pv hp'⟩
end L2

set_option Elab.async false
set_option linter.all false
set_option maxRecDepth 100000
set_option maxHeartbeats 4000000
namespace My
open PySem L2 MA
/-- the first place that holds as much as place i -/
theorem first_ex {l : List Int} (d : l.Pairwise (· ≥ ·)) {i : Nat} (hi : i < l.length) : ∃ j, ∃ (hj : j ≤ i), l[j]'(by omega) = l[i] ∧ ∀ m (h : m < j), l[i] < l[m]'(by omega) := by
  induction i with
  | zero => exact ⟨0, Nat.le_refl _, rfl, fun m h => absurd h (by omega)⟩
  | succ i ih =>
    by_cases e : l[i]'(by omega) = l[i + 1]
    · obtain ⟨j, hj, h1, h2⟩ := ih (by omega)
      refine ⟨j, by omega, by rw [h1, e], fun m h => by rw [← e]; exact h2 m h⟩
    · refine ⟨i + 1, Nat.le_refl _, rfl, fun m h => ?_⟩
      have h1 : l[i + 1] ≤ l[i]'(by omega) := dsc_at d (by omega) hi
      have h2 : l[i]'(by omega) ≤ l[m]'(by omega) := dsc_at d (by omega) (by omega)
      omega
/-- the last place that holds as much as place i -/
theorem last_ex {l : List Int} (d : l.Pairwise (· ≥ ·)) {i : Nat} (hi : i < l.length) : ∃ j, ∃ (hj : j < l.length), i ≤ j ∧ l[j] = l[i] ∧ ∀ m (h : j < m) (hm : m < l.length), l[m] < l[i] := by
  have key : ∀ k i (hi : i < l.length), l.length - i = k → ∃ j, ∃ (hj : j < l.length), i ≤ j ∧ l[j] = l[i] ∧ ∀ m (h : j < m) (hm : m < l.length), l[m] < l[i] := by
    intro k
    induction k with
    | zero => intro i hi e; omega
    | succ k ih =>
      intro i hi e
      by_cases c : i + 1 < l.length
      · by_cases e2 : l[i + 1] = l[i]
        · obtain ⟨j, hj, h1, h2, h3⟩ := ih (i + 1) c (by omega)
          exact ⟨j, hj, by omega, by rw [h2, e2], fun m h hm => by rw [← e2]; exact h3 m h hm⟩
        · refine ⟨i, hi, Nat.le_refl _, rfl, fun m h hm => ?_⟩
          have h1 : l[m] ≤ l[i + 1] := dsc_at d (by omega) hm
          have h2 : l[i + 1] ≤ l[i] := dsc_at d (by omega) c
          omega
      · exact ⟨i, hi, Nat.le_refl _, rfl, fun m h hm => by omega⟩
  exact key _ i hi rfl
theorem up_dsc {l : List Int} (d : l.Pairwise (· ≥ ·)) {j : Nat} (hj : j < l.length) (h : ∀ m (h : m < j), l[j] < l[m]'(by omega)) : (l.set j (l[j] + 1)).Pairwise (· ≥ ·) := by
  refine List.pairwise_iff_getElem.mpr fun a b ha hb hab => ?_
  have ha' : a < l.length := by simpa using ha
  have hb' : b < l.length := by simpa using hb
  show (l.set j (l[j] + 1))[b] ≤ (l.set j (l[j] + 1))[a]
  rw [List.getElem_set, List.getElem_set]
  have h0 : l[b] ≤ l[a] := dsc_at d (by omega) hb'
  by_cases c1 : j = b
  · subst c1
    rw [if_pos rfl, if_neg (by omega)]
    have := h a hab
    omega
  · rw [if_neg c1]
    by_cases c2 : j = a
    · subst c2; rw [if_pos rfl]; omega
    · rw [if_neg c2]; exact h0
theorem dn_dsc {l : List Int} (d : l.Pairwise (· ≥ ·)) {j : Nat} (hj : j < l.length) (h : ∀ m (h : j < m) (hm : m < l.length), l[m] < l[j]) : (l.set j (l[j] - 1)).Pairwise (· ≥ ·) := by
  refine List.pairwise_iff_getElem.mpr fun a b ha hb hab => ?_
  have ha' : a < l.length := by simpa using ha
  have hb' : b < l.length := by simpa using hb
  show (l.set j (l[j] - 1))[b] ≤ (l.set j (l[j] - 1))[a]
  rw [List.getElem_set, List.getElem_set]
  have h0 : l[b] ≤ l[a] := dsc_at d (by omega) hb'
  by_cases c1 : j = b
  · subst c1
    rw [if_pos rfl, if_neg (by omega)]
    omega
  · rw [if_neg c1]
    by_cases c2 : j = a
    · subst c2
      rw [if_pos rfl]
      have := h b hab hb'
      omega
    · rw [if_neg c2]; exact h0
/-- a ball put in: it comes to the first place that holds as much -/
theorem put_pre {l ms : List Int} (d : l.Pairwise (· ≥ ·)) {i : Nat} (hi : i < l.length) (pm : ms.Perm (l.set i (l[i] + 1))) (od : ms.Pairwise (· ≥ ·)) : ∃ j, ∃ (hj : j ≤ i), l[j]'(by omega) = l[i] ∧ (∀ m (h : m < j), l[i] < l[m]'(by omega)) ∧ ms.length = l.length ∧ ∀ k, k ≤ l.length → pre ms k = pre l k + if j < k then 1 else 0 := by
  obtain ⟨j, hj, e, h⟩ := first_ex d hi
  have hj' : j < l.length := by omega
  have d2 := up_dsc d hj' (fun m hm => by rw [e]; exact h m hm)
  have p2 : (l.set i (l[i] + 1)).Perm (l.set j (l[j] + 1)) := by
    rw [e]
    exact set_perm2 (.refl _) (List.getElem?_eq_getElem hi) (by rw [List.getElem?_eq_getElem hj', e])
  have em := desc_eq (pm.trans p2) od d2
  subst em
  refine ⟨j, hj, e, h, by simp, fun k hk => ?_⟩
  rw [pre_set hj' _ k hk]
  split <;> omega
/-- a ball taken: from the last place that holds as much -/
theorem take_pre {l ms : List Int} (d : l.Pairwise (· ≥ ·)) {i : Nat} (hi : i < l.length) (pm : ms.Perm (l.set i (l[i] - 1))) (od : ms.Pairwise (· ≥ ·)) : ∃ j, ∃ (hj : j < l.length), i ≤ j ∧ l[j] = l[i] ∧ (∀ m (h : j < m) (hm : m < l.length), l[m] < l[i]) ∧ ms.length = l.length ∧ ∀ k, k ≤ l.length → pre ms k = pre l k - if j < k then 1 else 0 := by
  obtain ⟨j, hj, hij, e, h⟩ := last_ex d hi
  have d2 := dn_dsc d hj (fun m hm hl => by rw [e]; exact h m hm hl)
  have p2 : (l.set i (l[i] - 1)).Perm (l.set j (l[j] - 1)) := by
    rw [e]
    exact set_perm2 (.refl _) (List.getElem?_eq_getElem hi) (by rw [List.getElem?_eq_getElem hj, e])
  have em := desc_eq (pm.trans p2) od d2
  subst em
  refine ⟨j, hj, hij, e, h, by simp, fun k hk => ?_⟩
  rw [pre_set hj _ k hk]
  split <;> omega
end My

set_option Elab.async false
set_option linter.all false
set_option maxRecDepth 100000
set_option maxHeartbeats 4000000
namespace My
open PySem L2 MA
theorem mid_eq {l : List Int} (d : l.Pairwise (· ≥ ·)) {a b m : Nat} (hb : b < l.length) (ha : a ≤ m) (hm : m ≤ b) (e : l[a]'(by omega) = l[b]) : l[m]'(by omega) = l[b] := by
  have h1 : l[b] ≤ l[m]'(by omega) := dsc_at d hm hb
  have h2 : l[m]'(by omega) ≤ l[a]'(by omega) := dsc_at d ha (by omega)
  omega
/-- where the sums meet between two equal places of the one, the other is as even there -/
theorem meet {one other : List Int} (len : one.length = other.length) (d2 : other.Pairwise (· ≥ ·)) (le : ∀ k, k ≤ one.length → pre one k ≤ pre other k) {k : Nat} (hk : k + 1 < one.length) (e : pre one (k + 1) = pre other (k + 1)) (ev : one[k]'(by omega) = one[k + 1]) :
    other[k]'(by omega) = one[k]'(by omega) ∧ other[k + 1]'(by omega) = one[k]'(by omega) := by
  have h1 := le k (by omega)
  have h2 := le (k + 2) (by omega)
  have p1 := pre_succ (l := one) (show k < one.length by omega)
  have p2 := pre_succ (l := other) (show k < other.length by omega)
  have p3 := pre_succ (l := one) (show k + 1 < one.length by omega)
  have p4 := pre_succ (l := other) (show k + 1 < other.length by omega)
  have h3 : other[k + 1]'(by omega) ≤ other[k]'(by omega) := dsc_at d2 (by omega) (by omega)
  have e2 : k + 2 = k + 1 + 1 := rfl
  rw [e2] at h2
  constructor <;> omega
theorem put_le {one other o2 t2 : List Int} (len : one.length = other.length) (d1 : one.Pairwise (· ≥ ·)) (d2 : other.Pairwise (· ≥ ·)) (le : ∀ k, k ≤ one.length → pre one k ≤ pre other k) {i j : Nat} (hi : i < one.length) (hji : j ≤ i)
    (p1 : o2.Perm (one.set i (one[i] + 1))) (q1 : o2.Pairwise (· ≥ ·)) (p2 : t2.Perm (other.set j (other[j]'(by omega) + 1))) (q2 : t2.Pairwise (· ≥ ·)) : ∀ k, k ≤ one.length → pre o2 k ≤ pre t2 k := by
  obtain ⟨i0, hi0, e1, f1, l1, g1⟩ := put_pre d1 hi p1 q1
  obtain ⟨j0, hj0, e2, f2, l2, g2⟩ := put_pre d2 (show j < other.length by omega) p2 q2
  intro k hk
  rw [g1 k hk, g2 k (by omega)]
  have h0 := le k hk
  by_cases c1 : i0 < k
  · rw [if_pos c1]
    by_cases c2 : j0 < k
    · rw [if_pos c2]; omega
    · rw [if_neg c2]
      have key : ∀ t m, m + t = j0 → i0 < m → pre one m = pre other m → False := by
        intro t
        induction t with
        | zero =>
          intro m hm him hE
          obtain ⟨m, rfl⟩ : ∃ m', m = m' + 1 := ⟨m - 1, by omega⟩
          have v1 := mid_eq d1 (m := m) hi (by omega) (by omega) e1
          have v2 := mid_eq d1 (m := m + 1) hi (by omega) (by omega) e1
          obtain ⟨u1, u2⟩ := meet len d2 le (k := m) (by omega) hE (by rw [v1, v2])
          have := f2 m (by omega)
          have e3 : other[m + 1]'(by omega) = other[j]'(by omega) := by
            have : m + 1 = j0 := by omega
            subst this
            exact e2
          omega
        | succ t ih =>
          intro m hm him hE
          obtain ⟨m, rfl⟩ : ∃ m', m = m' + 1 := ⟨m - 1, by omega⟩
          have v1 := mid_eq d1 (m := m) hi (by omega) (by omega) e1
          have v2 := mid_eq d1 (m := m + 1) hi (by omega) (by omega) e1
          obtain ⟨u1, u2⟩ := meet len d2 le (k := m) (by omega) hE (by rw [v1, v2])
          refine ih (m + 1 + 1) (by omega) (by omega) ?_
          rw [pre_succ (show m + 1 < one.length by omega), pre_succ (show m + 1 < other.length by omega), hE, u2, v1, v2]
      have ne : pre one k ≠ pre other k := fun z => key (j0 - k) k (by omega) c1 z
      omega
  · rw [if_neg c1]
    split <;> omega
theorem pre_mono {l : List Int} (h : ∀ x ∈ l, 0 ≤ x) {a b : Nat} (hab : a ≤ b) (hb : b ≤ l.length) : pre l a ≤ pre l b := by
  induction b with
  | zero =>
    have : a = 0 := by omega
    subst this
    exact Int.le_refl _
  | succ b ih =>
    by_cases c : a = b + 1
    · subst c; exact Int.le_refl _
    · have := ih (by omega) (by omega)
      rw [pre_succ (show b < l.length by omega)]
      have := h l[b] (List.getElem_mem _)
      omega
theorem take_le {one other o2 t2 : List Int} (len : one.length = other.length) (d1 : one.Pairwise (· ≥ ·)) (d2 : other.Pairwise (· ≥ ·)) (n1 : ∀ x ∈ one, 0 ≤ x) (n2 : ∀ x ∈ other, 0 ≤ x) (le : ∀ k, k ≤ one.length → pre one k ≤ pre other k) {ro rt : Nat} {ball : Int} (ho : ro < one.length) (ht : rt < other.length)
    (b1 : pre one ro < ball) (b2 : ball ≤ pre other (rt + 1)) (p1 : o2.Perm (one.set ro (one[ro] - 1))) (q1 : o2.Pairwise (· ≥ ·)) (p2 : t2.Perm (other.set rt (other[rt] - 1))) (q2 : t2.Pairwise (· ≥ ·)) : ∀ k, k ≤ one.length → pre o2 k ≤ pre t2 k := by
  obtain ⟨i0, hi0, c1, e1, f1, l1, g1⟩ := take_pre d1 ho p1 q1
  obtain ⟨j0, hj0, c2, e2, f2, l2, g2⟩ := take_pre d2 ht p2 q2
  intro k hk
  rw [g1 k hk, g2 k (by omega)]
  have h0 := le k hk
  by_cases a1 : j0 < k
  · rw [if_pos a1]
    by_cases a2 : i0 < k
    · rw [if_pos a2]; omega
    · rw [if_neg a2]
      have key : ∀ t m, j0 + 1 + t = m → m ≤ i0 → pre one m = pre other m → False := by
        intro t
        induction t with
        | zero =>
          intro m hm hi hE
          have r1 : ro < m := by
            refine Classical.byContradiction fun z => ?_
            have := pre_mono n1 (show m ≤ ro by omega) (by omega)
            have := pre_mono n2 (show rt + 1 ≤ m by omega) (by omega)
            omega
          obtain ⟨m, rfl⟩ : ∃ m', m = m' + 1 := ⟨m - 1, by omega⟩
          have v1 := mid_eq d1 (m := m) hi0 (by omega) (by omega) e1.symm
          have v2 := mid_eq d1 (m := m + 1) hi0 (by omega) (by omega) e1.symm
          obtain ⟨u1, u2⟩ := meet len d2 le (k := m) (by omega) hE (by rw [v1, v2])
          have := f2 (m + 1) (by omega) (by omega)
          have e3 : other[m]'(by omega) = other[rt] := by
            have : m = j0 := by omega
            subst this
            exact e2
          omega
        | succ t ih =>
          intro m hm hi hE
          have r1 : ro < m := by
            refine Classical.byContradiction fun z => ?_
            have := pre_mono n1 (show m ≤ ro by omega) (by omega)
            have := pre_mono n2 (show rt + 1 ≤ m by omega) (by omega)
            omega
          obtain ⟨m, rfl⟩ : ∃ m', m = m' + 1 := ⟨m - 1, by omega⟩
          have v1 := mid_eq d1 (m := m) hi0 (by omega) (by omega) e1.symm
          have v2 := mid_eq d1 (m := m + 1) hi0 (by omega) (by omega) e1.symm
          obtain ⟨u1, u2⟩ := meet len d2 le (k := m) (by omega) hE (by rw [v1, v2])
          refine ih m (by omega) (by omega) ?_
          have w1 := pre_succ (l := one) (show m < one.length by omega)
          have w2 := pre_succ (l := other) (show m < other.length by omega)
          omega
      have ne : pre one k ≠ pre other k := fun z => key (k - j0 - 1) k (by omega) (by omega) z
      omega
  · rw [if_neg a1]
    split <;> omega
end My

set_option Elab.async false
set_option linter.all false
set_option maxRecDepth 100000
set_option maxHeartbeats 4000000
namespace My
open PySem L2 MA
/-- a ball moved from a place to one that holds at least two fewer: no sum of the first ones grows -/
theorem move_le {l ms : List Int} (d : l.Pairwise (· ≥ ·)) {i j : Nat} (hi : i < l.length) (hj : j < l.length) (h : l[i] - l[j] > 1) (pm : ms.Perm ((l.set i (l[i] - 1)).set j (l[j] + 1))) (od : ms.Pairwise (· ≥ ·)) :
    ms.length = l.length ∧ ms.sum = l.sum ∧ ∀ k, k ≤ l.length → pre ms k ≤ pre l k := by
  obtain ⟨a, ha, hia, ea, fa⟩ := last_ex d hi
  obtain ⟨b, hb, eb, fb⟩ := first_ex d hj
  have hb' : b < l.length := by omega
  have hab : a < b := by
    refine Classical.byContradiction fun z => ?_
    have := dsc_at d (show b ≤ a by omega) ha
    omega
  have d1 := dn_dsc d ha (fun m hm hl => by rw [ea]; exact fa m hm hl)
  have hb1 : b < (l.set a (l[a] - 1)).length := by rw [List.length_set]; exact hb'
  have vb : (l.set a (l[a] - 1))[b] = l[j] := by rw [List.getElem_set, if_neg (by omega)]; exact eb
  have d2 := up_dsc d1 hb1 (fun m hm => by
    rw [vb, List.getElem_set]
    split
    · omega
    · exact fb m hm)
  have hij : i ≠ j := fun z => by subst z; omega
  have q1 : (l.set i (l[i] - 1)).Perm (l.set a (l[a] - 1)) := by
    rw [ea]
    exact set_perm2 (.refl _) (List.getElem?_eq_getElem hi) (by rw [List.getElem?_eq_getElem ha, ea])
  have q2 : ((l.set i (l[i] - 1)).set j (l[j] + 1)).Perm ((l.set a (l[a] - 1)).set b ((l.set a (l[a] - 1))[b] + 1)) := by
    rw [vb]
    refine set_perm2 q1 (x := l[j]) ?_ ?_
    · rw [List.getElem?_eq_getElem (by rw [List.length_set]; exact hj), List.getElem_set, if_neg hij]
    · rw [List.getElem?_eq_getElem hb1, vb]
  have em := desc_eq (pm.trans q2) od d2
  have hp : ∀ k, k ≤ l.length → pre ms k = pre l k + (if a < k then l[a] - 1 - l[a] else 0) + (if b < k then l[j] + 1 - l[j] else 0) := fun k hk => by
    rw [em, pre_set hb1 _ k (by rw [List.length_set]; exact hk), vb, pre_set ha _ k hk]
  have hl : ms.length = l.length := by rw [em]; simp
  refine ⟨hl, ?_, fun k hk => ?_⟩
  · have h1 := hp l.length (Nat.le_refl _)
    rw [pre_all (Nat.le_refl _), ← hl, pre_all (Nat.le_refl _), hl, if_pos ha, if_pos hb'] at h1
    omega
  · rw [hp k hk]
    split <;> split <;> omega
end My

set_option Elab.async false
set_option linter.all false
set_option maxRecDepth 100000
set_option maxHeartbeats 4000000
namespace My
open PySem L2 MA
def top (i : Nat) : Stmt := PySem.Challenge.pw_emptierbox_k13_whole_the_order_of_loads.main.body.getD i (.Pass ⟨0, 0, 0, 0⟩)
abbrev s_is_whole : Stmt := top 5
theorem sc_is_whole : FnScope ["thing"] ["thing"] (defScope s_is_whole) := ⟨rfl, rfl, rfl, by decide +kernel, rfl, by decide +kernel, by decide +kernel⟩
abbrev s_is_two_places : Stmt := top 6
theorem sc_is_two_places : FnScope ["thing", "many"] ["thing", "many"] (defScope s_is_two_places) := ⟨rfl, rfl, rfl, by decide +kernel, rfl, by decide +kernel, by decide +kernel⟩
abbrev s_falling : Stmt := top 8
theorem sc_falling : FnScope ["numbers"] ["numbers"] (defScope s_falling) := ⟨rfl, rfl, rfl, by decide +kernel, rfl, by decide +kernel, by decide +kernel⟩
abbrev s_put_at : Stmt := top 9
theorem sc_put_at : FnScope ["load", "rank", "numbers"] ["load", "rank"] (defScope s_put_at) := ⟨rfl, rfl, rfl, by decide +kernel, rfl, by decide +kernel, by decide +kernel⟩
abbrev s_taken_from : Stmt := top 10
theorem sc_taken_from : FnScope ["load", "rank", "numbers"] ["load", "rank"] (defScope s_taken_from) := ⟨rfl, rfl, rfl, by decide +kernel, rfl, by decide +kernel, by decide +kernel⟩
abbrev s_ask_alike : Stmt := top 12
theorem sc_ask_alike : FnScope ["one", "other"] ["one", "other"] (defScope s_ask_alike) := ⟨rfl, rfl, rfl, by decide +kernel, rfl, by decide +kernel, by decide +kernel⟩
abbrev s_first_fuller : Stmt := top 13
theorem sc_first_fuller : FnScope ["one", "other", "more", "k", "number", "beside"] ["one", "other"] (defScope s_first_fuller) := ⟨rfl, rfl, rfl, by decide +kernel, rfl, by decide +kernel, by decide +kernel⟩
abbrev s_can_move : Stmt := top 14
theorem sc_can_move : FnScope ["load", "thing"] ["load", "thing"] (defScope s_can_move) := ⟨rfl, rfl, rfl, by decide +kernel, rfl, by decide +kernel, by decide +kernel⟩
abbrev s_moved : Stmt := top 15
theorem sc_moved : FnScope ["load", "move", "numbers"] ["load", "move"] (defScope s_moved) := ⟨rfl, rfl, rfl, by decide +kernel, rfl, by decide +kernel, by decide +kernel⟩
abbrev s_next_move : Stmt := top 16
theorem sc_next_move : FnScope ["one", "load", "small", "great"] ["one", "load"] (defScope s_next_move) := ⟨rfl, rfl, rfl, by decide +kernel, rfl, by decide +kernel, by decide +kernel⟩
abbrev s_moves : Stmt := top 17
theorem sc_moves : FnScope ["one", "other", "load", "found", "move"] ["one", "other"] (defScope s_moves) := ⟨rfl, rfl, rfl, by decide +kernel, rfl, by decide +kernel, by decide +kernel⟩
abbrev s_lets_moves : Stmt := top 18
theorem sc_lets_moves : FnScope ["one", "other", "thing", "load", "move"] ["one", "other", "thing"] (defScope s_lets_moves) := ⟨rfl, rfl, rfl, by decide +kernel, rfl, by decide +kernel, by decide +kernel⟩
abbrev s_l_pen : Stmt := top 20
theorem sc_l_pen : FnScope ["_law_script"] ["_law_script"] (defScope s_l_pen) := ⟨rfl, rfl, rfl, by decide +kernel, rfl, by decide +kernel, by decide +kernel⟩
abbrev s_l_draw : Stmt := top 21
theorem sc_l_draw : FnScope ["_law_pen_here", "_law_many", "_law_at", "_law_cell", "_law_prime", "_law_number", "_law_found"] ["_law_pen_here", "_law_many"] (defScope s_l_draw) := ⟨rfl, rfl, rfl, by decide +kernel, rfl, by decide +kernel, by decide +kernel⟩
abbrev s_l_load : Stmt := top 22
theorem sc_l_load : FnScope ["_law_pen_here", "_law_most", "_law_way", "_law_n", "_law_numbers"] ["_law_pen_here", "_law_most"] (defScope s_l_load) := ⟨rfl, rfl, rfl, by decide +kernel, rfl, by decide +kernel, by decide +kernel⟩
abbrev s_l_moved : Stmt := top 23
theorem sc_l_moved : FnScope ["_law_load_here", "_law_i", "_law_j", "_law_numbers"] ["_law_load_here", "_law_i", "_law_j"] (defScope s_l_moved) := ⟨rfl, rfl, rfl, by decide +kernel, rfl, by decide +kernel, by decide +kernel⟩
abbrev s_l_can : Stmt := top 24
theorem sc_l_can : FnScope ["_law_load_here", "_law_found", "_law_i"] ["_law_load_here"] (defScope s_l_can) := ⟨rfl, rfl, rfl, by decide +kernel, rfl, by decide +kernel, by decide +kernel⟩
abbrev s_l_other : Stmt := top 25
theorem sc_l_other : FnScope ["_law_pen_here", "_law_load_here", "_law_way", "_law_numbers", "_law_k", "_law_some", "_law_i", "_law_j"] ["_law_pen_here", "_law_load_here"] (defScope s_l_other) := ⟨rfl, rfl, rfl, by decide +kernel, rfl, by decide +kernel, by decide +kernel⟩
abbrev s_l_no_fuller : Stmt := top 27
theorem sc_l_no_fuller : FnScope ["_law_one", "_law_other_here"] ["_law_one", "_law_other_here"] (defScope s_l_no_fuller) := ⟨rfl, rfl, rfl, by decide +kernel, rfl, by decide +kernel, by decide +kernel⟩
abbrev s_l_rank_of : Stmt := top 28
theorem sc_l_rank_of : FnScope ["_law_load_here", "_law_ball", "_law_rank"] ["_law_load_here", "_law_ball"] (defScope s_l_rank_of) := ⟨rfl, rfl, rfl, by decide +kernel, rfl, by decide +kernel, by decide +kernel⟩
abbrev s_l_kept : Stmt := top 29
theorem sc_l_kept : FnScope ["_law_one", "_law_other_here", "_law_n", "_law_i", "_law_ball", "_law_j", "_law_less"] ["_law_one", "_law_other_here"] (defScope s_l_kept) := ⟨rfl, rfl, rfl, by decide +kernel, rfl, by decide +kernel, by decide +kernel⟩
abbrev s_l_pair_right : Stmt := top 30
theorem sc_l_pair_right : FnScope ["_law_one", "_law_other_here", "_law_told"] ["_law_one", "_law_other_here"] (defScope s_l_pair_right) := ⟨rfl, rfl, rfl, by decide +kernel, rfl, by decide +kernel, by decide +kernel⟩
abbrev s_l_three_right : Stmt := top 31
theorem sc_l_three_right : FnScope ["_law_one", "_law_other_here", "_law_third", "_law_way"] ["_law_one", "_law_other_here", "_law_third"] (defScope s_l_three_right) := ⟨rfl, rfl, rfl, by decide +kernel, rfl, by decide +kernel, by decide +kernel⟩
abbrev s_l_forged_right : Stmt := top 32
theorem sc_l_forged_right : FnScope ["_law_pen_here", "_law_one", "_law_other_here", "_law_k", "_law_some"] ["_law_pen_here", "_law_one", "_law_other_here"] (defScope s_l_forged_right) := ⟨rfl, rfl, rfl, by decide +kernel, rfl, by decide +kernel, by decide +kernel⟩
abbrev s_law : Stmt := top 33
theorem sc_law : FnScope ["_law_script", "_law_pen_here", "_law_k", "_law_one", "_law_other_here", "_law_third", "_law_n", "_law_full", "_law_even", "_law_first", "_law_second", "_law_last"] ["_law_script"] (defScope s_law) := ⟨rfl, rfl, rfl, by decide +kernel, rfl, by decide +kernel, by decide +kernel⟩

section
variable {P : Program} {w : World} {K : PySem.W.Frag} {mg : Str → Option Value} {base : Heap}
theorem ok_whole (T : Txt mg) (F : FunAt K mg "is_whole" ["thing"] s_is_whole) : Cal P w K mg base "is_whole" ["thing"] 1 spWhole := by
  have S := sc_is_whole
  refine F.cal sc_is_whole (fun vs H Q E h => ?_) (fun f cdv A outer s H vs Q E hr h => ?_)
  · obtain ⟨a, rfl, _⟩ := h; rfl
  obtain ⟨a, rfl, k⟩ := h
  refine ⟨_, (@pss_one _ _ _ (@ps_ret _ _ _ _ (@pe_and _ _ _ _ _ _ _ (@pe_callB _ _ _ _ _ _ _ _ _ call_isi (by rfl) (by exact T.z_isinstance) (by exact bt_isinstance) (@pa_consN _ _ _ _ _ (pv 0) (@pa_consN _ _ _ _ _ (@pe_bltn _ _ (.ty "int") _ _ (by rfl) (by exact T.z_int) (by exact bt_int) (by rfl) (by first | rfl | decide | exact Or.inl rfl | exact Or.inr rfl | (intro _; rfl) | (intro _ _; rfl) | (intro _ _ _; rfl)) (by first | rfl | decide | exact Or.inl rfl | exact Or.inr rfl | (intro _; rfl) | (intro _ _; rfl) | (intro _ _ _; rfl))) pa_nil (by first | rfl | decide | exact Or.inl rfl | exact Or.inr rfl | (intro _; rfl) | (intro _ _; rfl) | (intro _ _ _; rfl))) (by first | rfl | decide | exact Or.inl rfl | exact Or.inr rfl | (intro _; rfl) | (intro _ _; rfl) | (intro _ _ _; rfl))) (by first | rfl | decide | exact Or.inl rfl | exact Or.inr rfl | (intro _; rfl) | (intro _ _; rfl) | (intro _ _ _; rfl)) (by first | rfl | decide | exact Or.inl rfl | exact Or.inr rfl | (intro _; rfl) | (intro _ _; rfl) | (intro _ _ _; rfl)) (by first | rfl | decide | exact Or.inl rfl | exact Or.inr rfl | (intro _; rfl) | (intro _ _; rfl) | (intro _ _ _; rfl)) (by first | rfl | decide | exact Or.inl rfl | exact Or.inr rfl | (intro _; rfl) | (intro _ _; rfl) | (intro _ _ _; rfl))) (@pe_one _ _ _ _ _ (@pe_not _ _ _ _ (@pe_callB _ _ _ _ _ _ _ _ _ call_isi (by rfl) (by exact T.z_isinstance) (by exact bt_isinstance) (@pa_consN _ _ _ _ _ (pv 0) (@pa_consN _ _ _ _ _ (@pe_bltn _ _ (.ty "bool") _ _ (by rfl) (by exact T.z_bool) (by exact bt_bool) (by rfl) (by first | rfl | decide | exact Or.inl rfl | exact Or.inr rfl | (intro _; rfl) | (intro _ _; rfl) | (intro _ _ _; rfl)) (by first | rfl | decide | exact Or.inl rfl | exact Or.inr rfl | (intro _; rfl) | (intro _ _; rfl) | (intro _ _ _; rfl))) pa_nil (by first | rfl | decide | exact Or.inl rfl | exact Or.inr rfl | (intro _; rfl) | (intro _ _; rfl) | (intro _ _ _; rfl))) (by first | rfl | decide | exact Or.inl rfl | exact Or.inr rfl | (intro _; rfl) | (intro _ _; rfl) | (intro _ _ _; rfl))) (by first | rfl | decide | exact Or.inl rfl | exact Or.inr rfl | (intro _; rfl) | (intro _ _; rfl) | (intro _ _ _; rfl)) (by first | rfl | decide | exact Or.inl rfl | exact Or.inr rfl | (intro _; rfl) | (intro _ _; rfl) | (intro _ _ _; rfl)) (by first | rfl | decide | exact Or.inl rfl | exact Or.inr rfl | (intro _; rfl) | (intro _ _; rfl) | (intro _ _ _; rfl)) (by first | rfl | decide | exact Or.inl rfl | exact Or.inr rfl | (intro _; rfl) | (intro _ _; rfl) | (intro _ _ _; rfl)))))))), ?_⟩
  refine ⟨_, rfl, _, _, _, _, rfl, .int a, rfl, _, rfl, iteT ?_⟩
  exact ⟨_, rfl, _, _, _, _, rfl, .int a, rfl, _, rfl, k⟩
theorem ok_pen (F : FunAt K mg "_law_pen" ["_law_script"] s_l_pen) : Cal P w K mg base "_law_pen" ["_law_script"] 1 (spPen K) := by
  have S := sc_l_pen
  refine F.cal sc_l_pen (fun vs H Q E h => ?_) (fun f cdv A outer s H vs Q E hr h => ?_)
  · obtain ⟨a, ns, rfl, _⟩ := h; rfl
  obtain ⟨a, ns, rfl, ha, k⟩ := h
  obtain ⟨ms, hms⟩ := cut_ints ns none (some 63)
  refine ⟨_, (@pss_one _ _ _ (@ps_ret _ _ _ _ (@pe_disp _ _ _ _ _ (@pps_cons _ _ _ _ _ _ _ _ _ pe_str (@pe_slice _ _ _ _ _ _ _ _ _ _ sl_list (pv 0) po_none (@po_some _ _ _ pe_int)) (@pps_cons _ _ _ _ _ _ _ _ _ pe_str pe_int (@pps_cons _ _ _ _ _ _ _ _ _ pe_str pe_int pps_nil))) (by rfl) (by rfl) (by simp) (by decide)))), ?_⟩
  intro p hp
  have s1 : Same H (upd H p (.dK [])) := same_new hp _
  refine ⟨_, rfl, _, rfl, a, _, rfl, s1.seq ha, fun c hc => ?_⟩
  have hpc : p ≠ c := fun e => by rw [← e, upd_same] at hc; cases hc
  refine ⟨by rw [upd_ne hpc]; exact upd_same, [(.inr "cells", .ref c), (.inr "at", .int 0), (.inr "left", .int 0)], rfl, (by show 3 ≤ 15; decide), ?_⟩
  refine k p _ (fun b o e => ?_) ⟨c, ms, 0, 0, ?_, ?_, by omega, by omega⟩
  · rw [upd_ne (ne_of_none e hp), upd_ne, upd_ne (ne_of_none e hp)]
    · exact e
    · intro z
      subst z
      rw [upd_ne (Ne.symm hpc), e] at hc
      cases hc
  · rw [upd_same]
    rfl
  · rw [upd_ne (Ne.symm hpc), upd_same, hms]
theorem ok_draw (T : Txt mg) (F : FunAt K mg "_law_draw" ["_law_pen_here", "_law_many"] s_l_draw) : Cal P w K mg base "_law_draw" ["_law_pen_here", "_law_many"] 1 spDraw := by
  have S := sc_l_draw
  refine F.cal sc_l_draw (fun vs H Q E h => ?_) (fun f cdv A outer s H vs Q E hr h => ?_)
  · obtain ⟨p, m, n, rfl, _⟩ := h; rfl
  obtain ⟨p, m, n, rfl, ⟨c, ns, a, l, hp, hc, ha0, han⟩, hn, hm, hm2, k⟩ := h
  have hu := hu_of hr
  have hcp : c ≠ p := ne_of hc hp (by intro z; cases z)
  refine ⟨_, (@pss_cons _ _ _ _ _ (@ps_if _ _ _ _ _ _ _ _ (@pt_cmpR _ _ _ _ _ _ _ _ op_gt (@pe_dget _ _ _ _ _ _ (by exact hu) (pv 0) pe_str (by exact (fun _ _ => rfl))) pe_int (by exact (nomark _))) (@pss_cons _ _ _ _ _ (@ps_set _ _ (6) _ _ _ _ (by exact S.nd) (by rfl) (by first | exact Or.inl rfl | exact Or.inr rfl) (@pe_op _ _ _ _ _ _ _ _ op_mod (@pe_dget _ _ _ _ _ _ (by exact hu) (pv 0) pe_str (by exact (fun _ _ => rfl))) (pv 1)) (by first | rfl | decide | exact Or.inl rfl | exact Or.inr rfl | (intro _; rfl) | (intro _ _; rfl) | (intro _ _ _; rfl)) (by first | rfl | decide | exact Or.inl rfl | exact Or.inr rfl | (intro _; rfl) | (intro _ _; rfl) | (intro _ _ _; rfl))) (@pss_cons _ _ _ _ _ (@ps_dput _ _ _ _ _ _ _ _ _ (by exact hu) (pv 0) pe_str (@pe_op _ _ _ _ _ _ _ _ op_fdiv (@pe_dget _ _ _ _ _ _ (by exact hu) (pv 0) pe_str (by exact (fun _ _ => rfl))) (pv 1)) (by rfl)) (@pss_one _ _ _ (@ps_ret _ _ _ _ (pv 6))))) pss_nil) (@pss_cons _ _ _ _ _ (@ps_set _ _ (2) _ _ _ _ (by exact S.nd) (by rfl) (by first | exact Or.inl rfl | exact Or.inr rfl) (@pe_dget _ _ _ _ _ _ (by exact hu) (pv 0) pe_str (by exact (fun _ _ => rfl))) (by first | rfl | decide | exact Or.inl rfl | exact Or.inr rfl | (intro _; rfl) | (intro _ _; rfl) | (intro _ _ _; rfl)) (by first | rfl | decide | exact Or.inl rfl | exact Or.inr rfl | (intro _; rfl) | (intro _ _; rfl) | (intro _ _ _; rfl))) (@pss_cons _ _ _ _ _ (@ps_dput _ _ _ _ _ _ _ _ _ (by exact hu) (pv 0) pe_str (@pe_op _ _ _ _ _ _ _ _ op_add (pv 2) pe_int) (by rfl)) (@pss_cons _ _ _ _ _ (@ps_set _ _ (3) _ _ _ _ (by exact S.nd) (by rfl) (by first | exact Or.inl rfl | exact Or.inr rfl) (@pe_op _ _ _ _ _ _ _ _ op_add (@pe_op _ _ _ _ _ _ _ _ op_mul pe_int (pv 2)) pe_int) (by first | rfl | decide | exact Or.inl rfl | exact Or.inr rfl | (intro _; rfl) | (intro _ _; rfl) | (intro _ _ _; rfl)) (by first | rfl | decide | exact Or.inl rfl | exact Or.inr rfl | (intro _; rfl) | (intro _ _; rfl) | (intro _ _ _; rfl))) (@pss_cons _ _ _ _ _ (@ps_if _ _ _ _ _ _ _ _ (@pt_cmpR _ _ _ _ _ _ _ _ op_gt (@pe_callB _ _ _ _ _ _ _ _ _ call_len_seq (by rfl) (by exact T.z_len) (by exact bt_len) (@pa_consN _ _ _ _ _ (@pe_dget _ _ _ _ _ _ (by exact hu) (pv 0) pe_str (by exact (fun _ _ => rfl))) pa_nil (by first | rfl | decide | exact Or.inl rfl | exact Or.inr rfl | (intro _; rfl) | (intro _ _; rfl) | (intro _ _ _; rfl))) (by first | rfl | decide | exact Or.inl rfl | exact Or.inr rfl | (intro _; rfl) | (intro _ _; rfl) | (intro _ _ _; rfl)) (by first | rfl | decide | exact Or.inl rfl | exact Or.inr rfl | (intro _; rfl) | (intro _ _; rfl) | (intro _ _ _; rfl)) (by first | rfl | decide | exact Or.inl rfl | exact Or.inr rfl | (intro _; rfl) | (intro _ _; rfl) | (intro _ _ _; rfl)) (by first | rfl | decide | exact Or.inl rfl | exact Or.inr rfl | (intro _; rfl) | (intro _ _; rfl) | (intro _ _ _; rfl))) pe_int (by exact (nomark _))) (@pss_one _ _ _ (@ps_set _ _ (3) _ _ _ _ (by exact S.nd) (by rfl) (by first | exact Or.inl rfl | exact Or.inr rfl) (@pe_ix _ _ _ _ _ _ _ ix_list (@pe_dget _ _ _ _ _ _ (by exact hu) (pv 0) pe_str (by exact (fun _ _ => rfl))) (@pe_op _ _ _ _ _ _ _ _ op_mod (pv 2) (@pe_callB _ _ _ _ _ _ _ _ _ call_len_seq (by rfl) (by exact T.z_len) (by exact bt_len) (@pa_consN _ _ _ _ _ (@pe_dget _ _ _ _ _ _ (by exact hu) (pv 0) pe_str (by exact (fun _ _ => rfl))) pa_nil (by first | rfl | decide | exact Or.inl rfl | exact Or.inr rfl | (intro _; rfl) | (intro _ _; rfl) | (intro _ _ _; rfl))) (by first | rfl | decide | exact Or.inl rfl | exact Or.inr rfl | (intro _; rfl) | (intro _ _; rfl) | (intro _ _ _; rfl)) (by first | rfl | decide | exact Or.inl rfl | exact Or.inr rfl | (intro _; rfl) | (intro _ _; rfl) | (intro _ _ _; rfl)) (by first | rfl | decide | exact Or.inl rfl | exact Or.inr rfl | (intro _; rfl) | (intro _ _; rfl) | (intro _ _ _; rfl)) (by first | rfl | decide | exact Or.inl rfl | exact Or.inr rfl | (intro _; rfl) | (intro _ _; rfl) | (intro _ _ _; rfl)))) (by exact (fun _ _ => rfl))) (by first | rfl | decide | exact Or.inl rfl | exact Or.inr rfl | (intro _; rfl) | (intro _ _; rfl) | (intro _ _ _; rfl)) (by first | rfl | decide | exact Or.inl rfl | exact Or.inr rfl | (intro _; rfl) | (intro _ _; rfl) | (intro _ _ _; rfl)))) pss_nil) (@pss_cons _ _ _ _ _ (@ps_if _ _ _ _ _ _ _ _ (@PW.pt _ _ _ (@pw_and _ _ _ _ _ _ _ (@pt_cmpR _ _ _ _ _ _ _ _ op_lt (pv 2) (@pe_callB _ _ _ _ _ _ _ _ _ call_len_seq (by rfl) (by exact T.z_len) (by exact bt_len) (@pa_consN _ _ _ _ _ (@pe_dget _ _ _ _ _ _ (by exact hu) (pv 0) pe_str (by exact (fun _ _ => rfl))) pa_nil (by first | rfl | decide | exact Or.inl rfl | exact Or.inr rfl | (intro _; rfl) | (intro _ _; rfl) | (intro _ _ _; rfl))) (by first | rfl | decide | exact Or.inl rfl | exact Or.inr rfl | (intro _; rfl) | (intro _ _; rfl) | (intro _ _ _; rfl)) (by first | rfl | decide | exact Or.inl rfl | exact Or.inr rfl | (intro _; rfl) | (intro _ _; rfl) | (intro _ _ _; rfl)) (by first | rfl | decide | exact Or.inl rfl | exact Or.inr rfl | (intro _; rfl) | (intro _ _; rfl) | (intro _ _ _; rfl)) (by first | rfl | decide | exact Or.inl rfl | exact Or.inr rfl | (intro _; rfl) | (intro _ _; rfl) | (intro _ _ _; rfl))) (by exact (nomark _))) (@pw_and1 _ _ _ _ (@pt_cmpR _ _ _ _ _ _ _ _ op_ge (@pe_callB _ _ _ _ _ _ _ _ _ call_abs (by rfl) (by exact T.z_abs) (by exact bt_abs) (@pa_consN _ _ _ _ _ (pv 3) pa_nil (by first | rfl | decide | exact Or.inl rfl | exact Or.inr rfl | (intro _; rfl) | (intro _ _; rfl) | (intro _ _ _; rfl))) (by first | rfl | decide | exact Or.inl rfl | exact Or.inr rfl | (intro _; rfl) | (intro _ _; rfl) | (intro _ _ _; rfl)) (by first | rfl | decide | exact Or.inl rfl | exact Or.inr rfl | (intro _; rfl) | (intro _ _; rfl) | (intro _ _ _; rfl)) (by first | rfl | decide | exact Or.inl rfl | exact Or.inr rfl | (intro _; rfl) | (intro _ _; rfl) | (intro _ _ _; rfl)) (by first | rfl | decide | exact Or.inl rfl | exact Or.inr rfl | (intro _; rfl) | (intro _ _; rfl) | (intro _ _ _; rfl))) (@pe_op _ _ _ _ _ _ _ _ op_pow pe_int pe_int) (by exact (nomark _)))))) (@pss_cons _ _ _ _ _ (@ps_dput _ _ _ _ _ _ _ _ _ (by exact hu) (pv 0) pe_str (@pe_op _ _ _ _ _ _ _ _ op_fdiv (@pe_callB _ _ _ _ _ _ _ _ _ call_abs (by rfl) (by exact T.z_abs) (by exact bt_abs) (@pa_consN _ _ _ _ _ (pv 3) pa_nil (by first | rfl | decide | exact Or.inl rfl | exact Or.inr rfl | (intro _; rfl) | (intro _ _; rfl) | (intro _ _ _; rfl))) (by first | rfl | decide | exact Or.inl rfl | exact Or.inr rfl | (intro _; rfl) | (intro _ _; rfl) | (intro _ _ _; rfl)) (by first | rfl | decide | exact Or.inl rfl | exact Or.inr rfl | (intro _; rfl) | (intro _ _; rfl) | (intro _ _ _; rfl)) (by first | rfl | decide | exact Or.inl rfl | exact Or.inr rfl | (intro _; rfl) | (intro _ _; rfl) | (intro _ _ _; rfl)) (by first | rfl | decide | exact Or.inl rfl | exact Or.inr rfl | (intro _; rfl) | (intro _ _; rfl) | (intro _ _ _; rfl))) (pv 1)) (by rfl)) (@pss_one _ _ _ (@ps_ret _ _ _ _ (@pe_op _ _ _ _ _ _ _ _ op_mod (@pe_callB _ _ _ _ _ _ _ _ _ call_abs (by rfl) (by exact T.z_abs) (by exact bt_abs) (@pa_consN _ _ _ _ _ (pv 3) pa_nil (by first | rfl | decide | exact Or.inl rfl | exact Or.inr rfl | (intro _; rfl) | (intro _ _; rfl) | (intro _ _ _; rfl))) (by first | rfl | decide | exact Or.inl rfl | exact Or.inr rfl | (intro _; rfl) | (intro _ _; rfl) | (intro _ _ _; rfl)) (by first | rfl | decide | exact Or.inl rfl | exact Or.inr rfl | (intro _; rfl) | (intro _ _; rfl) | (intro _ _ _; rfl)) (by first | rfl | decide | exact Or.inl rfl | exact Or.inr rfl | (intro _; rfl) | (intro _ _; rfl) | (intro _ _ _; rfl)) (by first | rfl | decide | exact Or.inl rfl | exact Or.inr rfl | (intro _; rfl) | (intro _ _; rfl) | (intro _ _ _; rfl))) (pv 1))))) pss_nil) (@pss_cons _ _ _ _ _ (@ps_set _ _ (4) _ _ _ _ (by exact S.nd) (by rfl) (by first | exact Or.inl rfl | exact Or.inr rfl) (@pe_ix _ _ _ _ _ _ _ ix_tup (@pe_tup _ _ _ _ _ (@pa_consN _ _ _ _ _ pe_int (@pa_consN _ _ _ _ _ pe_int (@pa_consN _ _ _ _ _ pe_int (@pa_consN _ _ _ _ _ pe_int (@pa_consN _ _ _ _ _ pe_int (@pa_consN _ _ _ _ _ pe_int (@pa_consN _ _ _ _ _ pe_int pa_nil (by first | rfl | decide | exact Or.inl rfl | exact Or.inr rfl | (intro _; rfl) | (intro _ _; rfl) | (intro _ _ _; rfl))) (by first | rfl | decide | exact Or.inl rfl | exact Or.inr rfl | (intro _; rfl) | (intro _ _; rfl) | (intro _ _ _; rfl))) (by first | rfl | decide | exact Or.inl rfl | exact Or.inr rfl | (intro _; rfl) | (intro _ _; rfl) | (intro _ _ _; rfl))) (by first | rfl | decide | exact Or.inl rfl | exact Or.inr rfl | (intro _; rfl) | (intro _ _; rfl) | (intro _ _ _; rfl))) (by first | rfl | decide | exact Or.inl rfl | exact Or.inr rfl | (intro _; rfl) | (intro _ _; rfl) | (intro _ _ _; rfl))) (by first | rfl | decide | exact Or.inl rfl | exact Or.inr rfl | (intro _; rfl) | (intro _ _; rfl) | (intro _ _ _; rfl))) (by first | rfl | decide | exact Or.inl rfl | exact Or.inr rfl | (intro _; rfl) | (intro _ _; rfl) | (intro _ _ _; rfl)))) (@pe_op _ _ _ _ _ _ _ _ op_mod (pv 2) pe_int) (by exact (fun _ _ => rfl))) (by first | rfl | decide | exact Or.inl rfl | exact Or.inr rfl | (intro _; rfl) | (intro _ _; rfl) | (intro _ _ _; rfl)) (by first | rfl | decide | exact Or.inl rfl | exact Or.inr rfl | (intro _; rfl) | (intro _ _; rfl) | (intro _ _ _; rfl))) (@pss_cons _ _ _ _ _ (@ps_set _ _ (5) _ _ _ _ (by exact S.nd) (by rfl) (by first | exact Or.inl rfl | exact Or.inr rfl) (@pe_op _ _ _ _ _ _ _ _ op_mod (@pe_op _ _ _ _ _ _ _ _ op_pow (@pe_op _ _ _ _ _ _ _ _ op_add (@pe_op _ _ _ _ _ _ _ _ op_add (@pe_op _ _ _ _ _ _ _ _ op_add (@pe_op _ _ _ _ _ _ _ _ op_mod (pv 3) pe_int) (@pe_op _ _ _ _ _ _ _ _ op_mul (@pe_op _ _ _ _ _ _ _ _ op_mul pe_int (pv 2)) (pv 2))) (@pe_op _ _ _ _ _ _ _ _ op_mul pe_int (pv 2))) pe_int) pe_int) (pv 4)) (by first | rfl | decide | exact Or.inl rfl | exact Or.inr rfl | (intro _; rfl) | (intro _ _; rfl) | (intro _ _ _; rfl)) (by first | rfl | decide | exact Or.inl rfl | exact Or.inr rfl | (intro _; rfl) | (intro _ _; rfl) | (intro _ _ _; rfl))) (@pss_cons _ _ _ _ _ (@ps_set _ _ (5) _ _ _ _ (by exact S.nd) (by rfl) (by first | exact Or.inl rfl | exact Or.inr rfl) (@pe_op _ _ _ _ _ _ _ _ op_mod (@pe_op _ _ _ _ _ _ _ _ op_pow (@pe_op _ _ _ _ _ _ _ _ op_add (@pe_op _ _ _ _ _ _ _ _ op_add (pv 5) (@pe_op _ _ _ _ _ _ _ _ op_mul pe_int (pv 2))) pe_int) pe_int) pe_int) (by first | rfl | decide | exact Or.inl rfl | exact Or.inr rfl | (intro _; rfl) | (intro _ _; rfl) | (intro _ _ _; rfl)) (by first | rfl | decide | exact Or.inl rfl | exact Or.inr rfl | (intro _; rfl) | (intro _ _; rfl) | (intro _ _ _; rfl))) (@pss_one _ _ _ (@ps_ret _ _ _ _ (@pe_op _ _ _ _ _ _ _ _ op_mod (@pe_op _ _ _ _ _ _ _ _ op_fdiv (@pe_op _ _ _ _ _ _ _ _ op_mod (@pe_op _ _ _ _ _ _ _ _ op_mul (pv 5) pe_int) pe_int) pe_int) (pv 1))))))))))))), ?_⟩
  have gl := get_left hp
  refine ⟨_, rfl, p, _, rfl, gl, _, _, rfl, rfl, _, rfl, ?_⟩
  refine ite2 (fun _ => ?_) (fun _ => ?_)
  · refine ⟨_, rfl, p, _, rfl, gl, _, rfl, _, _, rfl, rfl, hm, ?_⟩
    refine ⟨_, rfl, p, _, rfl, gl, _, rfl, _, _, rfl, rfl, ⟨hm, hm2⟩, _, rfl, p, _, rfl, dput_left hp, ?_⟩
    refine ⟨_, rfl, ?_⟩
    exact k _ _ (Int.emod_nonneg _ (by omega)) (Int.emod_lt_of_pos _ hm) ⟨c, ns, a, _, upd_same, by rw [upd_ne hcp]; exact hc, ha0, by omega⟩ (SameX.upd hp)
  refine ⟨_, rfl, p, _, rfl, get_at hp, ?_⟩
  refine ⟨_, rfl, _, _, rfl, rfl, _, rfl, p, _, rfl, dput_at hp, ?_⟩
  have hp1 : (upd H p (.dK (penL c (a + 1) l))) p = some (.dK (penL c (a + 1) l)) := upd_same
  have hc1 : (upd H p (.dK (penL c (a + 1) l))) c = some (.lst (ns.map V.int)) := by rw [upd_ne hcp]; exact hc
  have x1 : SameX p H (upd H p (.dK (penL c (a + 1) l))) := SameX.upd hp
  have gc := get_cells hp1
  obtain ⟨pr, pr0, pr1, hpr⟩ := prime_at a
  obtain ⟨sq0, sq1⟩ := sq_bound ha0 (show a ≤ 100000 by omega)
  refine ⟨_, rfl, _, _, rfl, rfl, .inl ⟨by decide, by decide⟩, _, _, rfl, rfl, ?_⟩
  refine ⟨_, rfl, p, _, rfl, gc, c, _, rfl, .inl (SqL.of hc1), _, _, rfl, rfl, _, rfl, ?_⟩
  refine ite2 (fun c0 => ?_) (fun c0 => ?_)
  · have hl : 0 < ns.length := by
      have : (0 : Int) < (((ns.map V.int).length : Nat) : Int) := of_decide_eq_true c0
      rw [List.length_map] at this
      omega
    obtain ⟨z, hz⟩ := cell_at (ns := ns) a hl
    refine ⟨_, rfl, p, _, rfl, gc, _, rfl, _, rfl, p, _, rfl, gc, c, _, rfl, .inl (SqL.of hc1), _, _, rfl, rfl, (by rw [List.length_map]; omega), c, _, _, _, rfl, rfl, SqL.of hc1, hz, ?_⟩
    refine ⟨_, rfl, _, rfl, p, _, rfl, gc, c, _, rfl, .inl (SqL.of hc1), _, _, rfl, rfl, _, rfl, ?_⟩
    refine ite2 (fun c1 => ?_) (fun c1 => iteF ?_)
    · refine ⟨_, rfl, _, rfl, _, _, rfl, rfl, ⟨by decide, by decide, by decide⟩, _, _, rfl, rfl, _, rfl, ?_⟩
      refine ite2 (fun c2 => ?_) (fun c2 => ?_)
      · refine ⟨_, rfl, _, rfl, _, rfl, _, _, rfl, rfl, ⟨hm, hm2⟩, _, rfl, p, _, rfl, dput_left hp1, ?_⟩
        refine ⟨_, rfl, _, rfl, _, rfl, _, _, rfl, rfl, hm, ?_⟩
        exact k _ _ (Int.emod_nonneg _ (by omega)) (Int.emod_lt_of_pos _ hm) ⟨c, ns, a + 1, _, upd_same, by rw [upd_ne hcp]; exact hc1, by omega, by omega⟩ (x1.trans (SameX.upd hp1))
      · exact draw_tail hm pr0 pr1 hpr ha0 (show a ≤ 100000 by omega) sq0 sq1 fun r t ht hr0 hrm => k _ _ hr0 hrm ⟨c, ns, a + 1, l, (same_new ht _) _ _ hp1, (same_new ht _) _ _ hc1, by omega, by omega⟩ (x1.trans (Same.x (same_new ht _)))
    · exact draw_tail hm pr0 pr1 hpr ha0 (show a ≤ 100000 by omega) sq0 sq1 fun r t ht hr0 hrm => k _ _ hr0 hrm ⟨c, ns, a + 1, l, (same_new ht _) _ _ hp1, (same_new ht _) _ _ hc1, by omega, by omega⟩ (x1.trans (Same.x (same_new ht _)))
  · refine ⟨_, rfl, _, rfl, p, _, rfl, gc, c, _, rfl, .inl (SqL.of hc1), _, _, rfl, rfl, _, rfl, ?_⟩
    refine ite2 (fun c1 => ?_) (fun c1 => iteF ?_)
    · exfalso
      have e1 : ¬ (0 : Int) < (((ns.map V.int).length : Nat) : Int) := by simpa using c0
      have e2 : a < (((ns.map V.int).length : Nat) : Int) := of_decide_eq_true c1
      omega
    · exact draw_tail hm pr0 pr1 hpr ha0 (show a ≤ 100000 by omega) sq0 sq1 fun r t ht hr0 hrm => k _ _ hr0 hrm ⟨c, ns, a + 1, l, (same_new ht _) _ _ hp1, (same_new ht _) _ _ hc1, by omega, by omega⟩ (x1.trans (Same.x (same_new ht _)))

/-- a load of small numbers -/
def LoadN (ns : List Int) : Prop := 1 ≤ ns.length ∧ ns.length ≤ 6 ∧ (∀ x ∈ ns, 0 ≤ x ∧ x ≤ 40) ∧ ns.Pairwise (· ≥ ·)
def spLoad : Sp := fun vs H Q _ => ∃ (p : Addr) (m : Nat) (M : Int), vs = [.ref p, .int M] ∧ 0 ≤ M ∧ M ≤ 40 ∧ Pen H p m ∧ m < 60000 ∧ ∀ (a : Addr) (ns : List Int) (H' : Hp), H' a = some (.tup (iv ns)) → LoadN ns → Pen H' p (m + 9) → SameX p H H' → Q (.ref a) H'

theorem iv_rep (x : Int) (k : Nat) : (List.replicate k [V.int x]).flatten = iv (List.replicate k x) := rep1 x k
theorem ok_load (T : Txt2 mg) (C_l_draw : Cal P w K mg base "_law_draw" ["_law_pen_here", "_law_many"] 1 spDraw) (F : FunAt K mg "_law_load" ["_law_pen_here", "_law_most"] s_l_load) : Cal P w K mg base "_law_load" ["_law_pen_here", "_law_most"] 2 spLoad := by
  have S := sc_l_load
  refine F.cal sc_l_load (fun vs H Q E h => ?_) (fun f cdv A outer s H vs Q E hr h => ?_)
  · obtain ⟨p, m, M, rfl, _⟩ := h; rfl
  obtain ⟨p, m, M, rfl, hM0, hM1, hp, hm, k⟩ := h
  refine ⟨_, (@pss_cons _ _ _ _ _ (@ps_set _ _ (2) _ _ _ _ (by exact S.nd) (by rfl) (by first | exact Or.inl rfl | exact Or.inr rfl) (@cc _ _ _ _ _ _ _ _ _ _ (by exact C_l_draw) (by exact (hr.mono (by decide))) (@pa_consN _ _ _ _ _ (pv 0) (@pa_consN _ _ _ _ _ pe_int pa_nil (by first | rfl | decide | exact Or.inl rfl | exact Or.inr rfl | (intro _; rfl) | (intro _ _; rfl) | (intro _ _ _; rfl))) (by first | rfl | decide | exact Or.inl rfl | exact Or.inr rfl | (intro _; rfl) | (intro _ _; rfl) | (intro _ _ _; rfl))) (by first | rfl | decide | exact Or.inl rfl | exact Or.inr rfl | (intro _; rfl) | (intro _ _; rfl) | (intro _ _ _; rfl)) (by first | rfl | decide | exact Or.inl rfl | exact Or.inr rfl | (intro _; rfl) | (intro _ _; rfl) | (intro _ _ _; rfl)) (by first | rfl | decide | exact Or.inl rfl | exact Or.inr rfl | (intro _; rfl) | (intro _ _; rfl) | (intro _ _ _; rfl)) (by first | rfl | decide | exact Or.inl rfl | exact Or.inr rfl | (intro _; rfl) | (intro _ _; rfl) | (intro _ _ _; rfl))) (by first | rfl | decide | exact Or.inl rfl | exact Or.inr rfl | (intro _; rfl) | (intro _ _; rfl) | (intro _ _ _; rfl)) (by first | rfl | decide | exact Or.inl rfl | exact Or.inr rfl | (intro _; rfl) | (intro _ _; rfl) | (intro _ _ _; rfl))) (@pss_cons _ _ _ _ _ (@ps_set _ _ (3) _ _ _ _ (by exact S.nd) (by rfl) (by first | exact Or.inl rfl | exact Or.inr rfl) (@pe_op _ _ _ _ _ _ _ _ op_add pe_int (@cc _ _ _ _ _ _ _ _ _ _ (by exact C_l_draw) (by exact (hr.mono (by decide))) (@pa_consN _ _ _ _ _ (pv 0) (@pa_consN _ _ _ _ _ pe_int pa_nil (by first | rfl | decide | exact Or.inl rfl | exact Or.inr rfl | (intro _; rfl) | (intro _ _; rfl) | (intro _ _ _; rfl))) (by first | rfl | decide | exact Or.inl rfl | exact Or.inr rfl | (intro _; rfl) | (intro _ _; rfl) | (intro _ _ _; rfl))) (by first | rfl | decide | exact Or.inl rfl | exact Or.inr rfl | (intro _; rfl) | (intro _ _; rfl) | (intro _ _ _; rfl)) (by first | rfl | decide | exact Or.inl rfl | exact Or.inr rfl | (intro _; rfl) | (intro _ _; rfl) | (intro _ _ _; rfl)) (by first | rfl | decide | exact Or.inl rfl | exact Or.inr rfl | (intro _; rfl) | (intro _ _; rfl) | (intro _ _ _; rfl)) (by first | rfl | decide | exact Or.inl rfl | exact Or.inr rfl | (intro _; rfl) | (intro _ _; rfl) | (intro _ _ _; rfl)))) (by first | rfl | decide | exact Or.inl rfl | exact Or.inr rfl | (intro _; rfl) | (intro _ _; rfl) | (intro _ _ _; rfl)) (by first | rfl | decide | exact Or.inl rfl | exact Or.inr rfl | (intro _; rfl) | (intro _ _; rfl) | (intro _ _ _; rfl))) (@pss_cons _ _ _ _ _ (@ps_comp _ _ _ _ _ _ _ _ _ _ _ _ _ _ _ (4) _ (by exact S.nd) (by rfl) (by first | exact Or.inl rfl | exact Or.inr rfl) (by rfl) (by exact (fun _ _ h => h)) (by decide +kernel) (by rfl) (by decide +kernel) (by exact hfr_of rfl) (by exact Sees.frees ["_law_box"] [("_law_pen_here", 0), ("_law_most", 1), ("_law_n", 3)] (fr_cons ⟨rfl, rfl⟩ (fr_cons ⟨rfl, rfl⟩ (fr_cons ⟨rfl, rfl⟩ fr_nil)))) (@pi_range1 _ _ _ _ _ _ (by rfl) (by exact T.z_range) (@pa_consN _ _ _ _ _ (pv 3) pa_nil (by first | rfl | decide | exact Or.inl rfl | exact Or.inr rfl | (intro _; rfl) | (intro _ _; rfl) | (intro _ _ _; rfl))) (by first | rfl | decide | exact Or.inl rfl | exact Or.inr rfl | (intro _; rfl) | (intro _ _; rfl) | (intro _ _ _; rfl))) (fun _ _ _ _ _ => @pg_name _ _ (0) _ (by exact (show (["_law_box", "_law_pen_here", "_law_most", "_law_n"] : List Str).Nodup by decide +kernel)) (by rfl) (by first | exact Or.inl rfl | exact Or.inr rfl) (by first | rfl | decide | exact Or.inl rfl | exact Or.inr rfl | (intro _; rfl) | (intro _ _; rfl) | (intro _ _ _; rfl))) (fun _ _ _ _ _ => pts_nil) (fun _ _ _ _ _ => (@cc _ _ _ _ _ _ _ _ _ _ (by exact C_l_draw) (by exact (hr.mono (by decide))) (@pa_consN _ _ _ _ _ (pv 1) (@pa_consN _ _ _ _ _ (@pe_op _ _ _ _ _ _ _ _ op_add (@pe_op _ _ _ _ _ _ _ _ op_fdiv (pv 2) (pv 3)) pe_int) pa_nil (by first | rfl | decide | exact Or.inl rfl | exact Or.inr rfl | (intro _; rfl) | (intro _ _; rfl) | (intro _ _ _; rfl))) (by first | rfl | decide | exact Or.inl rfl | exact Or.inr rfl | (intro _; rfl) | (intro _ _; rfl) | (intro _ _ _; rfl))) (by first | rfl | decide | exact Or.inl rfl | exact Or.inr rfl | (intro _; rfl) | (intro _ _; rfl) | (intro _ _ _; rfl)) (by first | rfl | decide | exact Or.inl rfl | exact Or.inr rfl | (intro _; rfl) | (intro _ _; rfl) | (intro _ _ _; rfl)) (by first | rfl | decide | exact Or.inl rfl | exact Or.inr rfl | (intro _; rfl) | (intro _ _; rfl) | (intro _ _ _; rfl)) (by first | rfl | decide | exact Or.inl rfl | exact Or.inr rfl | (intro _; rfl) | (intro _ _; rfl) | (intro _ _ _; rfl)))) (by first | rfl | decide | exact Or.inl rfl | exact Or.inr rfl | (intro _; rfl) | (intro _ _; rfl) | (intro _ _ _; rfl)) (by first | rfl | decide | exact Or.inl rfl | exact Or.inr rfl | (intro _; rfl) | (intro _ _; rfl) | (intro _ _ _; rfl)) (by first | rfl | decide | exact Or.inl rfl | exact Or.inr rfl | (intro _; rfl) | (intro _ _; rfl) | (intro _ _ _; rfl))) (@pss_cons _ _ _ _ _ (@ps_if _ _ _ _ _ _ _ _ (@pt_cmpR _ _ _ _ _ _ _ _ op_eq (pv 2) pe_int (by exact (nomark _))) (@pss_one _ _ _ (@ps_set _ _ (4) _ _ _ _ (by exact S.nd) (by rfl) (by first | exact Or.inl rfl | exact Or.inr rfl) (@pe_op _ _ _ _ _ _ _ _ op_rep (@pe_lst _ _ _ _ (@pa_consN _ _ _ _ _ (@pe_ix _ _ _ _ _ _ _ ix_list (pv 4) pe_int (by exact (fun _ _ => rfl))) pa_nil (by first | rfl | decide | exact Or.inl rfl | exact Or.inr rfl | (intro _; rfl) | (intro _ _; rfl) | (intro _ _ _; rfl)))) (pv 3)) (by first | rfl | decide | exact Or.inl rfl | exact Or.inr rfl | (intro _; rfl) | (intro _ _; rfl) | (intro _ _ _; rfl)) (by first | rfl | decide | exact Or.inl rfl | exact Or.inr rfl | (intro _; rfl) | (intro _ _; rfl) | (intro _ _ _; rfl)))) pss_nil) (@pss_cons _ _ _ _ _ (@ps_if _ _ _ _ _ _ _ _ (@pt_cmpR _ _ _ _ _ _ _ _ op_eq (pv 2) pe_int (by exact (nomark _))) (@pss_one _ _ _ (@ps_set _ _ (4) _ _ _ _ (by exact S.nd) (by rfl) (by first | exact Or.inl rfl | exact Or.inr rfl) (@pe_op _ _ _ _ _ _ _ _ op_cat (@pe_lst _ _ _ _ (@pa_consN _ _ _ _ _ (@cc _ _ _ _ _ _ _ _ _ _ (by exact C_l_draw) (by exact (hr.mono (by decide))) (@pa_consN _ _ _ _ _ (pv 0) (@pa_consN _ _ _ _ _ (@pe_op _ _ _ _ _ _ _ _ op_add (pv 1) pe_int) pa_nil (by first | rfl | decide | exact Or.inl rfl | exact Or.inr rfl | (intro _; rfl) | (intro _ _; rfl) | (intro _ _ _; rfl))) (by first | rfl | decide | exact Or.inl rfl | exact Or.inr rfl | (intro _; rfl) | (intro _ _; rfl) | (intro _ _ _; rfl))) (by first | rfl | decide | exact Or.inl rfl | exact Or.inr rfl | (intro _; rfl) | (intro _ _; rfl) | (intro _ _ _; rfl)) (by first | rfl | decide | exact Or.inl rfl | exact Or.inr rfl | (intro _; rfl) | (intro _ _; rfl) | (intro _ _ _; rfl)) (by first | rfl | decide | exact Or.inl rfl | exact Or.inr rfl | (intro _; rfl) | (intro _ _; rfl) | (intro _ _ _; rfl)) (by first | rfl | decide | exact Or.inl rfl | exact Or.inr rfl | (intro _; rfl) | (intro _ _; rfl) | (intro _ _ _; rfl))) pa_nil (by first | rfl | decide | exact Or.inl rfl | exact Or.inr rfl | (intro _; rfl) | (intro _ _; rfl) | (intro _ _ _; rfl)))) (@pe_op _ _ _ _ _ _ _ _ op_rep (@pe_lst _ _ _ _ (@pa_consN _ _ _ _ _ pe_int pa_nil (by first | rfl | decide | exact Or.inl rfl | exact Or.inr rfl | (intro _; rfl) | (intro _ _; rfl) | (intro _ _ _; rfl)))) (@pe_op _ _ _ _ _ _ _ _ op_sub (pv 3) pe_int))) (by first | rfl | decide | exact Or.inl rfl | exact Or.inr rfl | (intro _; rfl) | (intro _ _; rfl) | (intro _ _ _; rfl)) (by first | rfl | decide | exact Or.inl rfl | exact Or.inr rfl | (intro _; rfl) | (intro _ _; rfl) | (intro _ _ _; rfl)))) pss_nil) (@pss_cons _ _ _ _ _ (@ps_if _ _ _ _ _ _ _ _ (@pt_cmpR _ _ _ _ _ _ _ _ op_eq (pv 2) pe_int (by exact (nomark _))) (@pss_one _ _ _ (@ps_comp _ _ _ _ _ _ _ _ _ _ _ _ _ _ _ (4) _ (by exact S.nd) (by rfl) (by first | exact Or.inl rfl | exact Or.inr rfl) (by rfl) (by exact (fun _ _ h => h)) (by decide +kernel) (by rfl) (by decide +kernel) (by exact hfr_of rfl) (by exact Sees.frees ["_law_number"] [] fr_nil) (@pi_list _ _ _ _ (pv 4)) (fun _ _ _ _ _ => @pg_name _ _ (0) _ (by exact (show (["_law_number"] : List Str).Nodup by decide +kernel)) (by rfl) (by first | exact Or.inl rfl | exact Or.inr rfl) (by first | rfl | decide | exact Or.inl rfl | exact Or.inr rfl | (intro _; rfl) | (intro _ _; rfl) | (intro _ _ _; rfl))) (fun _ _ _ _ _ => pts_nil) (fun _ _ _ _ _ => (@pe_op _ _ _ _ _ _ _ _ op_mod (pv 0) pe_int)) (by first | rfl | decide | exact Or.inl rfl | exact Or.inr rfl | (intro _; rfl) | (intro _ _; rfl) | (intro _ _ _; rfl)) (by first | rfl | decide | exact Or.inl rfl | exact Or.inr rfl | (intro _; rfl) | (intro _ _; rfl) | (intro _ _ _; rfl)) (by first | rfl | decide | exact Or.inl rfl | exact Or.inr rfl | (intro _; rfl) | (intro _ _; rfl) | (intro _ _ _; rfl)))) pss_nil) (@pss_one _ _ _ (@ps_ret _ _ _ _ (@pe_callTy _ _ _ _ _ _ _ _ _ call_tuple_of (by rfl) (by exact T.z_tuple) (by exact bt_tuple) (@pa_consN _ _ _ _ _ (@pe_sortedR _ _ _ _ _ _ _ _ _ (by rfl) (by exact T.z_sorted) (@pa_consN _ _ _ _ _ (pv 4) pa_nil (by first | rfl | decide | exact Or.inl rfl | exact Or.inr rfl | (intro _; rfl) | (intro _ _; rfl) | (intro _ _ _; rfl))) (by first | rfl | decide | exact Or.inl rfl | exact Or.inr rfl | (intro _; rfl) | (intro _ _; rfl) | (intro _ _ _; rfl)) (by first | rfl | decide | exact Or.inl rfl | exact Or.inr rfl | (intro _; rfl) | (intro _ _; rfl) | (intro _ _ _; rfl))) pa_nil (by first | rfl | decide | exact Or.inl rfl | exact Or.inr rfl | (intro _; rfl) | (intro _ _; rfl) | (intro _ _ _; rfl))) (by first | rfl | decide | exact Or.inl rfl | exact Or.inr rfl | (intro _; rfl) | (intro _ _; rfl) | (intro _ _ _; rfl)) (by first | rfl | decide | exact Or.inl rfl | exact Or.inr rfl | (intro _; rfl) | (intro _ _; rfl) | (intro _ _ _; rfl)) (by first | rfl | decide | exact Or.inl rfl | exact Or.inr rfl | (intro _; rfl) | (intro _ _; rfl) | (intro _ _ _; rfl)) (by first | rfl | decide | exact Or.inl rfl | exact Or.inr rfl | (intro _; rfl) | (intro _ _; rfl) | (intro _ _ _; rfl))))))))))), ?_⟩
  refine ⟨_, rfl, p, _, m, rfl, hp, by omega, by decide, by decide, fun wy H1 w0 w6 p1 x1 => ?_⟩
  refine ⟨_, rfl, p, _, _, rfl, p1, by omega, by decide, by decide, fun d2 H2 d20 d21 p2 x2 => ⟨_, _, rfl, rfl, ?_⟩⟩
  dsimp only
  obtain ⟨N, hN⟩ : ∃ N : Nat, (1 : Int) + d2 = (N : Int) := ⟨(1 + d2).toNat, by omega⟩
  rw [hN]
  have n1 : 1 ≤ N := by omega
  have n6 : N ≤ 6 := by omega
  have xA := x1.trans x2
  have hq : M / (N : Int) ≤ 40 ∧ 0 ≤ M / (N : Int) := ⟨Int.le_trans (Int.ediv_le_self _ hM0) hM1, Int.ediv_nonneg hM0 (by omega)⟩
  have fin : ∀ (l : Addr) (ns : List Int) (H' : Hp), ns.length = N → (∀ x ∈ ns, 0 ≤ x ∧ x ≤ 40) → Pen H' p (m + 9) → SameX p H H' → ∀ (q : Addr) (ms : List Int), H' q = none → ms.Perm ns → PyProof.Rows.Ordered true ms →
      ∃ q' ys', [V.ref q] = [.ref q'] ∧ ((SqL K (upd H' q (.lst (iv ms))) q' ys' ∧ ∀ t, (upd H' q (.lst (iv ms))) t = none → Q (.ref t) (upd (upd H' q (.lst (iv ms))) t (.tup ys'))) ∨ (SqT K (upd H' q (.lst (iv ms))) q' ys' ∧ Q (.ref q') (upd H' q (.lst (iv ms))))) := fun l ns H' hl hb pp xx q ms hq' pm od => by
    have s1 := same_new hq' (.lst (iv ms))
    refine ⟨q, iv ms, rfl, .inl ⟨SqL.of upd_same, fun t ht => ?_⟩⟩
    have s2 := same_new ht (.tup (iv ms))
    have ss := s1.trans s2
    refine k t ms _ upd_same ⟨by rw [pm.length_eq]; omega, by rw [pm.length_eq]; omega, fun x hx => hb x (pm.mem_iff.mp hx), od⟩ (pp.same ss) (xx.trans (Same.x ss))
  refine ⟨_, rfl, _, rfl, by omega, by omega, comp_rng (n := (N : Int).toNat) (lo := 0) (fs := [some (.ref p), some (.int M), some (.int N)]) (fun acc i ys H' => Pen H' p (m + 2 + i) ∧ SameX p H2 H' ∧ ∃ ns : List Int, ys = iv ns ∧ ∀ x ∈ ns, 0 ≤ x ∧ x ≤ 40) (by omega) ?_ ?_ ?_⟩
  · exact fun acc hacc => ⟨p2.same (same_new hacc _), Same.x (same_new hacc _), [], rfl, fun x hx => by simp at hx⟩
  · rintro acc i ys H' hacc hi hl ⟨p', x', ns, rfl, hb⟩ hacc' Q' hQ
    refine ⟨_, rfl, _, rfl, _, rfl, _, _, rfl, rfl, ⟨by omega, by omega⟩, _, _, rfl, rfl, p, _, _, rfl, p', by omega, by omega, by omega, fun d H'' d0 d1 p'' x'' => ?_⟩
    have g := penX_upd hacc p2 (x'.trans x'') p'' (.lst (iv ns ++ [.int d]))
    refine hQ _ H'' (p'.keep x'' hacc') ⟨g.1, g.2, ns ++ [d], by simp, fun x hx => ?_⟩
    rcases List.mem_append.mp hx with z | z
    · exact hb x z
    · rw [List.mem_singleton.mp z]; omega
  rintro l ys H3 hl ⟨p3, x3, ns, rfl, hb⟩ hl3 hlen
  rw [Int.toNat_natCast, List.length_map] at hlen
  have xB := xA.trans x3
  rw [Int.toNat_natCast] at p3
  refine ⟨_, rfl, rfl, _, rfl, ?_⟩
  refine ite2 (fun c0 => ?_) (fun c0 => ?_)
  · have e0 : wy = 0 := V.int.inj (of_decide_eq_true c0)
    have h0 : 0 < ns.length := by omega
    refine ⟨_, rfl, l, _, _, _, rfl, rfl, SqL.of hl3, iv_atI h0, lz 1 rfl, fun q1 hq1 => ⟨_, rfl, q1, _, _, rfl, rfl, upd_same, by omega, by omega, lzz (by simp; omega), fun q2 hq2 => ?_⟩⟩
    rw [iv_rep, Int.toNat_natCast]
    have s1 := same_new hq1 (.lst [.int (ns.getD 0 0)])
    have s2 := same_new hq2 (.lst (iv (List.replicate N (ns.getD 0 0))))
    have ss := s1.trans s2
    refine ⟨_, rfl, rfl, _, rfl, ite2 (fun c => absurd (V.int.inj (of_decide_eq_true c)) (by omega)) (fun _ => ⟨_, rfl, rfl, _, rfl, ite2 (fun c => absurd (V.int.inj (of_decide_eq_true c)) (by omega)) (fun _ => ?_)⟩)⟩
    refine ⟨_, rfl, q2, List.replicate N (ns.getD 0 0), rfl, upd_same, by simp; omega, fun q ms hq' pm od => ?_⟩
    refine fin q2 _ _ (by simp) (fun x hx => ?_) ((p3.same ss).mono (by omega)) (xB.trans (Same.x ss)) q ms hq' pm od
    rw [List.eq_of_mem_replicate hx, getD_of h0]
    exact hb _ (List.getElem_mem h0)
  refine ⟨_, rfl, rfl, _, rfl, ?_⟩
  refine ite2 (fun c1 => ?_) (fun c1 => ?_)
  · have e0 : wy = 1 := V.int.inj (of_decide_eq_true c1)
    refine ⟨_, rfl, _, rfl, _, _, rfl, rfl, p, _, _, rfl, p3, by omega, by omega, by omega, fun d H4 d0 d1 p4 x4 => ⟨lz 1 rfl, fun q1 hq1 => ⟨lz 1 rfl, fun q2 hq2 => ?_⟩⟩⟩
    have s1 := same_new hq1 (.lst [.int d])
    have s2 := same_new hq2 (.lst [.int 0])
    refine ⟨_, rfl, _, _, rfl, rfl, q2, _, _, rfl, rfl, upd_same, by omega, by omega, lzz (by simp; omega), fun q3 hq3 => ?_⟩
    rw [iv_rep]
    have s3 := same_new hq3 (.lst (iv (List.replicate ((N : Int) - 1).toNat 0)))
    refine ⟨q1, q3, _, _, rfl, rfl, s3 _ _ (s2 _ _ upd_same), upd_same, lzz (by simp; omega), fun q4 hq4 => ?_⟩
    have e4 : ([V.int d] ++ iv (List.replicate ((N : Int) - 1).toNat 0)) = iv (d :: List.replicate ((N : Int) - 1).toNat 0) := rfl
    rw [e4]
    have s4 := same_new hq4 (.lst (iv (d :: List.replicate ((N : Int) - 1).toNat 0)))
    have ss := (s1.trans s2).trans (s3.trans s4)
    refine ⟨_, rfl, rfl, _, rfl, ite2 (fun c => absurd (V.int.inj (of_decide_eq_true c)) (by omega)) (fun _ => ?_)⟩
    refine ⟨_, rfl, q4, _, rfl, upd_same, by simp; omega, fun q ms hq' pm od => ?_⟩
    refine fin q4 _ _ (by simp; omega) (fun x hx => ?_) ((p4.same ss).mono (by omega)) ((xB.trans x4).trans (Same.x ss)) q ms hq' pm od
    rcases List.mem_cons.mp hx with rfl | z
    · omega
    · rw [List.eq_of_mem_replicate z]; decide
  refine ⟨_, rfl, rfl, _, rfl, ?_⟩
  refine ite2 (fun c2 => ?_) (fun c2 => ?_)
  · refine ⟨_, rfl, l, rfl, ⟨_, SqL.of hl3⟩, comp_lst (a := l) (xs := iv ns) (fs := []) (fun acc i ys H' => Same H3 H' ∧ ys = iv ((ns.take i).map (· % 2))) (by simp; omega) ?_ ?_ ?_ ?_⟩
    · exact fun acc hacc => ⟨same_new hacc _, rfl⟩
    · exact fun acc i ys H' hacc ⟨s', _⟩ => s' _ _ hl3
    · rintro acc i ys H' x hacc hx hlen' ⟨s', rfl⟩ hacc' Q' hQ
      obtain ⟨y, hy, rfl⟩ := iv_at hx
      refine ⟨_, rfl, _, _, rfl, rfl, (show (0 : Int) < 2 by decide), hQ _ H' hacc' ⟨same_updN hacc s' _, ?_⟩⟩
      rw [List.take_add_one, hy, List.map_append]
      simp
    · rintro q2 ys H' hq2 ⟨s', rfl⟩ hq2' _
      rw [List.length_map, List.take_length] at hq2'
      refine ⟨_, rfl, q2, _, rfl, hq2', by simp; omega, fun q ms hq' pm od => ?_⟩
      refine fin q2 _ _ (by simp; omega) (fun x hx => ?_) ((p3.same s').mono (by omega)) (xB.trans (Same.x s')) q ms hq' pm od
      obtain ⟨y, hy, rfl⟩ := List.mem_map.mp hx
      have := Int.emod_nonneg y (show (2 : Int) ≠ 0 by decide)
      have := Int.emod_lt_of_pos y (show (0 : Int) < 2 by decide)
      omega
  · refine ⟨_, rfl, l, ns, rfl, hl3, by omega, fun q ms hq' pm od => ?_⟩
    exact fin l ns _ (by omega) hb (p3.mono (by omega)) xB q ms hq' pm od

end
end My

set_option Elab.async false
set_option linter.all false
set_option maxRecDepth 100000
set_option maxHeartbeats 4000000
namespace My
open PySem L2 MA
def fullAt : Int → Int → List Int → List Int → V
  | acc, k, a :: as, b :: bs => if acc + (a - b) > 0 then .int k else fullAt (acc + (a - b)) (k + 1) as bs
  | _, _, _, _ => .non
def Alike (ns ms : List Int) : Prop := ns.length = ms.length ∧ ns.sum = ms.sum
theorem full_step {acc k : Int} {ns ms : List Int} {i : Nat} {x y : Int} (hx : ns[i]? = some x) (hy : ms[i]? = some y) : fullAt acc k (ns.drop i) (ms.drop i) = if acc + (x - y) > 0 then .int k else fullAt (acc + (x - y)) (k + 1) (ns.drop (i + 1)) (ms.drop (i + 1)) := by
  obtain ⟨h1, e1⟩ := List.getElem?_eq_some_iff.mp hx
  obtain ⟨h2, e2⟩ := List.getElem?_eq_some_iff.mp hy
  rw [List.drop_eq_getElem_cons h1, List.drop_eq_getElem_cons h2, e1, e2]
  rfl
theorem full_end {acc k : Int} {ns ms : List Int} : fullAt acc k (ns.drop ns.length) (ms.drop ns.length) = .non := by
  rw [List.drop_length]
  rfl
section
variable {P : Program} {w : World} {K : PySem.W.Frag} {mg : Str → Option Value} {base : Heap}
def spAlike : Sp := fun vs H Q _ => ∃ a b ns ms, vs = [.ref a, .ref b] ∧ H a = some (.tup (iv ns)) ∧ H b = some (.tup (iv ms)) ∧ Alike ns ms ∧ Q .non H
theorem ok_alike (T : Txt2 mg) (F : FunAt K mg "ask_alike" ["one", "other"] s_ask_alike) : Cal P w K mg base "ask_alike" ["one", "other"] 1 spAlike := by
  have S := sc_ask_alike
  refine F.cal sc_ask_alike (fun vs H Q E h => ?_) (fun f cdv A outer s H vs Q E hr h => ?_)
  · obtain ⟨a, b, xs, ys, rfl, _⟩ := h; rfl
  obtain ⟨a, b, ns, ms, rfl, ha, hb, al, k⟩ := h
  refine ⟨_, (@pss_one _ _ _ (@ps_if _ _ _ _ _ _ _ _ (@PW.pt _ _ _ (@pw_or _ _ _ _ _ _ _ (@pt_cmpR _ _ _ _ _ _ _ _ op_ne (@pe_callB _ _ _ _ _ _ _ _ _ call_len_seq (by rfl) (by exact T.z_len) (by exact bt_len) (@pa_consN _ _ _ _ _ (pv 0) pa_nil (by first | rfl | decide | exact Or.inl rfl | exact Or.inr rfl | (intro _; rfl) | (intro _ _; rfl) | (intro _ _ _; rfl))) (by first | rfl | decide | exact Or.inl rfl | exact Or.inr rfl | (intro _; rfl) | (intro _ _; rfl) | (intro _ _ _; rfl)) (by first | rfl | decide | exact Or.inl rfl | exact Or.inr rfl | (intro _; rfl) | (intro _ _; rfl) | (intro _ _ _; rfl)) (by first | rfl | decide | exact Or.inl rfl | exact Or.inr rfl | (intro _; rfl) | (intro _ _; rfl) | (intro _ _ _; rfl)) (by first | rfl | decide | exact Or.inl rfl | exact Or.inr rfl | (intro _; rfl) | (intro _ _; rfl) | (intro _ _ _; rfl))) (@pe_callB _ _ _ _ _ _ _ _ _ call_len_seq (by rfl) (by exact T.z_len) (by exact bt_len) (@pa_consN _ _ _ _ _ (pv 1) pa_nil (by first | rfl | decide | exact Or.inl rfl | exact Or.inr rfl | (intro _; rfl) | (intro _ _; rfl) | (intro _ _ _; rfl))) (by first | rfl | decide | exact Or.inl rfl | exact Or.inr rfl | (intro _; rfl) | (intro _ _; rfl) | (intro _ _ _; rfl)) (by first | rfl | decide | exact Or.inl rfl | exact Or.inr rfl | (intro _; rfl) | (intro _ _; rfl) | (intro _ _ _; rfl)) (by first | rfl | decide | exact Or.inl rfl | exact Or.inr rfl | (intro _; rfl) | (intro _ _; rfl) | (intro _ _ _; rfl)) (by first | rfl | decide | exact Or.inl rfl | exact Or.inr rfl | (intro _; rfl) | (intro _ _; rfl) | (intro _ _ _; rfl))) (by exact (nomark _))) (@pw_or1 _ _ _ _ (@pt_cmpR _ _ _ _ _ _ _ _ op_ne (@pe_callB _ _ _ _ _ _ _ _ _ (call_sumT (by rfl)) (by rfl) (by exact T.z_sum) (by exact bt_sum) (@pa_consN _ _ _ _ _ (pv 0) pa_nil (by first | rfl | decide | exact Or.inl rfl | exact Or.inr rfl | (intro _; rfl) | (intro _ _; rfl) | (intro _ _ _; rfl))) (by first | rfl | decide | exact Or.inl rfl | exact Or.inr rfl | (intro _; rfl) | (intro _ _; rfl) | (intro _ _ _; rfl)) (by first | rfl | decide | exact Or.inl rfl | exact Or.inr rfl | (intro _; rfl) | (intro _ _; rfl) | (intro _ _ _; rfl)) (by first | rfl | decide | exact Or.inl rfl | exact Or.inr rfl | (intro _; rfl) | (intro _ _; rfl) | (intro _ _ _; rfl)) (by first | rfl | decide | exact Or.inl rfl | exact Or.inr rfl | (intro _; rfl) | (intro _ _; rfl) | (intro _ _ _; rfl))) (@pe_callB _ _ _ _ _ _ _ _ _ (call_sumT (by rfl)) (by rfl) (by exact T.z_sum) (by exact bt_sum) (@pa_consN _ _ _ _ _ (pv 1) pa_nil (by first | rfl | decide | exact Or.inl rfl | exact Or.inr rfl | (intro _; rfl) | (intro _ _; rfl) | (intro _ _ _; rfl))) (by first | rfl | decide | exact Or.inl rfl | exact Or.inr rfl | (intro _; rfl) | (intro _ _; rfl) | (intro _ _ _; rfl)) (by first | rfl | decide | exact Or.inl rfl | exact Or.inr rfl | (intro _; rfl) | (intro _ _; rfl) | (intro _ _ _; rfl)) (by first | rfl | decide | exact Or.inl rfl | exact Or.inr rfl | (intro _; rfl) | (intro _ _; rfl) | (intro _ _ _; rfl)) (by first | rfl | decide | exact Or.inl rfl | exact Or.inr rfl | (intro _; rfl) | (intro _ _; rfl) | (intro _ _ _; rfl))) (by exact (nomark _)))))) (@pss_one _ _ _ ps_never) pss_nil)), ?_⟩
  refine ⟨_, rfl, a, _, rfl, .inr (SqT.of ha), _, rfl, b, _, rfl, .inr (SqT.of hb), rfl, _, rfl, ?_⟩
  refine ite2 (fun c => absurd (congrArg (fun n : Nat => V.int n) (show (iv ns).length = (iv ms).length by simpa using al.1)) (by simpa using c)) (fun _ => ?_)
  refine ⟨_, rfl, a, ns, rfl, ha, _, rfl, b, ms, rfl, hb, rfl, _, rfl, ?_⟩
  exact ite2 (fun c => absurd (congrArg V.int al.2) (by simpa using c)) (fun _ => k)
def spFirst : Sp := fun vs H Q _ => ∃ a b ns ms, vs = [.ref a, .ref b] ∧ H a = some (.tup (iv ns)) ∧ H b = some (.tup (iv ms)) ∧ Alike ns ms ∧ ∀ H', Same H H' → Q (fullAt 0 1 ns ms) H'
theorem ok_first (T : Txt2 mg) (C_ask_alike : Cal P w K mg base "ask_alike" ["one", "other"] 1 spAlike) (F : FunAt K mg "first_fuller" ["one", "other"] s_first_fuller) : Cal P w K mg base "first_fuller" ["one", "other"] 2 spFirst := by
  have S := sc_first_fuller
  refine F.cal sc_first_fuller (fun vs H Q E h => ?_) (fun f cdv A outer s H vs Q E hr h => ?_)
  · obtain ⟨a, b, xs, ys, rfl, _⟩ := h; rfl
  obtain ⟨a, b, ns, ms, rfl, ha, hb, al, k⟩ := h
  refine ⟨_, (@pss_cons _ _ _ _ _ (@ps_expr _ _ _ _ (@cc _ _ _ _ _ _ _ _ _ _ (by exact C_ask_alike) (by exact (hr.mono (by decide))) (@pa_consN _ _ _ _ _ (pv 0) (@pa_consN _ _ _ _ _ (pv 1) pa_nil (by first | rfl | decide | exact Or.inl rfl | exact Or.inr rfl | (intro _; rfl) | (intro _ _; rfl) | (intro _ _ _; rfl))) (by first | rfl | decide | exact Or.inl rfl | exact Or.inr rfl | (intro _; rfl) | (intro _ _; rfl) | (intro _ _ _; rfl))) (by first | rfl | decide | exact Or.inl rfl | exact Or.inr rfl | (intro _; rfl) | (intro _ _; rfl) | (intro _ _ _; rfl)) (by first | rfl | decide | exact Or.inl rfl | exact Or.inr rfl | (intro _; rfl) | (intro _ _; rfl) | (intro _ _ _; rfl)) (by first | rfl | decide | exact Or.inl rfl | exact Or.inr rfl | (intro _; rfl) | (intro _ _; rfl) | (intro _ _ _; rfl)) (by first | rfl | decide | exact Or.inl rfl | exact Or.inr rfl | (intro _; rfl) | (intro _ _; rfl) | (intro _ _ _; rfl))) (by first | rfl | decide | exact Or.inl rfl | exact Or.inr rfl | (intro _; rfl) | (intro _ _; rfl) | (intro _ _ _; rfl))) (@pss_cons _ _ _ _ _ (@ps_set _ _ (2) _ _ _ _ (by exact S.nd) (by rfl) (by first | exact Or.inl rfl | exact Or.inr rfl) pe_int (by first | rfl | decide | exact Or.inl rfl | exact Or.inr rfl | (intro _; rfl) | (intro _ _; rfl) | (intro _ _ _; rfl)) (by first | rfl | decide | exact Or.inl rfl | exact Or.inr rfl | (intro _; rfl) | (intro _ _; rfl) | (intro _ _ _; rfl))) (@pss_cons _ _ _ _ _ (@ps_for _ _ _ _ _ _ _ _ (by exact PassesOwn.never) (by rfl) (@pi_enumZ1 false false _ _ _ _ _ _ _ _ _ _ _ _ _ _ (by rfl) (by exact T.z_enumerate) (by rfl) (by exact T.z_zip) (@pa_consN _ _ _ _ _ (pv 0) (@pa_consN _ _ _ _ _ (pv 1) pa_nil (by first | rfl | decide | exact Or.inl rfl | exact Or.inr rfl | (intro _; rfl) | (intro _ _; rfl) | (intro _ _ _; rfl))) (by first | rfl | decide | exact Or.inl rfl | exact Or.inr rfl | (intro _; rfl) | (intro _ _; rfl) | (intro _ _ _; rfl))) (by first | rfl | decide | exact Or.inl rfl | exact Or.inr rfl | (intro _; rfl) | (intro _ _; rfl) | (intro _ _ _; rfl)) (by first | rfl | decide | exact Or.inl rfl | exact Or.inr rfl | (intro _; rfl) | (intro _ _; rfl) | (intro _ _ _; rfl)) (by first | rfl | decide | exact Or.inl rfl | exact Or.inr rfl | (intro _; rfl) | (intro _ _; rfl) | (intro _ _ _; rfl)) (by first | rfl | decide | exact Or.inl rfl | exact Or.inr rfl | (intro _; rfl) | (intro _ _; rfl) | (intro _ _ _; rfl))) (@pg_tup _ _ _ _ _ _ (by rfl) (@pgs_cons _ _ _ _ _ (@pg_name _ _ (3) _ (by exact S.nd) (by rfl) (by first | exact Or.inl rfl | exact Or.inr rfl) (by first | rfl | decide | exact Or.inl rfl | exact Or.inr rfl | (intro _; rfl) | (intro _ _; rfl) | (intro _ _ _; rfl))) (@pgs_cons _ _ _ _ _ (@pg_tup _ _ _ _ _ _ (by rfl) (@pgs_cons _ _ _ _ _ (@pg_name _ _ (4) _ (by exact S.nd) (by rfl) (by first | exact Or.inl rfl | exact Or.inr rfl) (by first | rfl | decide | exact Or.inl rfl | exact Or.inr rfl | (intro _; rfl) | (intro _ _; rfl) | (intro _ _ _; rfl))) (@pgs_cons _ _ _ _ _ (@pg_name _ _ (5) _ (by exact S.nd) (by rfl) (by first | exact Or.inl rfl | exact Or.inr rfl) (by first | rfl | decide | exact Or.inl rfl | exact Or.inr rfl | (intro _; rfl) | (intro _ _; rfl) | (intro _ _ _; rfl))) pgs_nil (by first | rfl | decide | exact Or.inl rfl | exact Or.inr rfl | (intro _; rfl) | (intro _ _; rfl) | (intro _ _ _; rfl))) (by first | rfl | decide | exact Or.inl rfl | exact Or.inr rfl | (intro _; rfl) | (intro _ _; rfl) | (intro _ _ _; rfl))) (by first | rfl | decide | exact Or.inl rfl | exact Or.inr rfl | (intro _; rfl) | (intro _ _; rfl) | (intro _ _ _; rfl)) (by first | rfl | decide | exact Or.inl rfl | exact Or.inr rfl | (intro _; rfl) | (intro _ _; rfl) | (intro _ _ _; rfl))) pgs_nil (by first | rfl | decide | exact Or.inl rfl | exact Or.inr rfl | (intro _; rfl) | (intro _ _; rfl) | (intro _ _ _; rfl))) (by first | rfl | decide | exact Or.inl rfl | exact Or.inr rfl | (intro _; rfl) | (intro _ _; rfl) | (intro _ _ _; rfl))) (by first | rfl | decide | exact Or.inl rfl | exact Or.inr rfl | (intro _; rfl) | (intro _ _; rfl) | (intro _ _ _; rfl)) (by first | rfl | decide | exact Or.inl rfl | exact Or.inr rfl | (intro _; rfl) | (intro _ _; rfl) | (intro _ _ _; rfl))) (@pss_cons _ _ _ _ _ (@ps_aug _ _ (2) _ _ _ _ _ _ (by exact S.nd) (by rfl) (by first | exact Or.inl rfl | exact Or.inr rfl) (@pe_op _ _ _ _ _ _ _ _ op_sub (pv 4) (pv 5)) ip_add (by first | rfl | decide | exact Or.inl rfl | exact Or.inr rfl | (intro _; rfl) | (intro _ _; rfl) | (intro _ _ _; rfl))) (@pss_one _ _ _ (@ps_if _ _ _ _ _ _ _ _ (@pt_cmpR _ _ _ _ _ _ _ _ op_gt (pv 2) pe_int (by exact (nomark _))) (@pss_one _ _ _ (@ps_ret _ _ _ _ (pv 3))) pss_nil))) (by first | rfl | decide | exact Or.inl rfl | exact Or.inr rfl | (intro _; rfl) | (intro _ _; rfl) | (intro _ _ _; rfl))) (@pss_one _ _ _ (@ps_ret _ _ _ _ pe_non))))), ?_⟩
  refine ⟨_, rfl, _, rfl, a, b, ns, ms, rfl, ha, hb, al, ?_⟩
  have el : (iv ns).length = (iv ms).length := by simpa using al.1
  refine ⟨_, rfl, _, rfl, a, b, rfl, ⟨iv ns, SqB.t ha⟩, ⟨iv ms, SqB.t hb⟩, for_enumZ (xs := iv ns) (ys := iv ms) (fun i σ H' => (∃ o3 o4 o5, ∃ acc : Int, σ = [some (.ref a), some (.ref b), some (.int acc), o3, o4, o5] ∧ fullAt 0 1 ns ms = fullAt acc (1 + i) (ns.drop i) (ms.drop i)) ∧ Same H H') el
    ⟨⟨_, _, _, 0, rfl, rfl⟩, Same.refl _⟩ (fun i σ H' _ h => ⟨SqB.t (h.2 _ _ ha), SqB.t (h.2 _ _ hb)⟩) ?_ ?_⟩
  · rintro i x y p q σ H' hx hy ⟨⟨o3, o4, o5, acc, rfl, he⟩, s'⟩ hp hq hpq
    obtain ⟨x, rfl, hx'⟩ : ∃ n, x = .int n ∧ ns[i]? = some n := by
      rw [List.getElem?_map] at hx
      obtain ⟨n, h1, h2⟩ := Option.map_eq_some_iff.mp hx
      exact ⟨n, h2.symm, h1⟩
    obtain ⟨y, rfl, hy'⟩ : ∃ n, y = .int n ∧ ms[i]? = some n := by
      rw [List.getElem?_map] at hy
      obtain ⟨n, h1, h2⟩ := Option.map_eq_some_iff.mp hy
      exact ⟨n, h2.symm, h1⟩
    have s1 := same_new hp (.tup [V.int x, .int y])
    have hq1 : (upd H' p (.tup [V.int x, .int y])) q = none := by rw [upd_ne (Ne.symm hpq)]; exact hq
    have s2 := same_new hq1 (.tup [.int (1 + (i : Int)), .ref p])
    have s12 := s1.trans s2
    have hp2 := s2 _ _ (upd_same (H := H') (a := p) (o := .tup [V.int x, .int y]))
    refine ⟨q, _, rfl, SqT.of upd_same, rfl, _, _, rfl, _, _, rfl, p, _, rfl, SqT.of hp2, rfl, _, _, rfl, _, _, rfl, rfl, rfl, ?_⟩
    refine ⟨_, rfl, _, rfl, _, rfl, _, _, rfl, rfl, ?_⟩
    refine ⟨acc, x - y, rfl, rfl, ?_⟩
    rw [full_step hx' hy'] at he
    refine ⟨_, rfl, _, _, rfl, rfl, _, rfl, ?_⟩
    refine ite2 (fun c => ?_) (fun c => ?_)
    · rw [if_pos (of_decide_eq_true c)] at he
      have := k _ (s'.trans s12)
      rw [he] at this
      exact ⟨_, rfl, this⟩
    · rw [if_neg (fun z => c (decide_eq_true z))] at he
      refine ⟨⟨_, _, _, _, rfl, ?_⟩, s'.trans s12⟩
      rw [he]
      have : (1 : Int) + ((i + 1 : Nat) : Int) = 1 + (i : Int) + 1 := by omega
      rw [this]
  · rintro σ H' ⟨⟨o3, o4, o5, acc, rfl, he⟩, s'⟩
    rw [List.length_map, full_end] at he
    have := k H' s'
    rw [he] at this
    exact this
theorem mem_setI {ns : List Int} {i : Nat} {v x : Int} (h : x ∈ ns.set i v) : x ∈ ns ∨ x = v := List.mem_or_eq_of_mem_set h
theorem gD {ns : List Int} {i : Nat} (h : i < ns.length) : ns.getD i 0 = ns[i] := by rw [List.getD_eq_getElem?_getD, List.getElem?_eq_getElem h]; rfl
def mvF (ns : List Int) (i j : Nat) : List Int := (ns.set i (ns.getD i 0 - 1)).set j ((ns.set i (ns.getD i 0 - 1)).getD j 0 + 1)
theorem mvF_step {ns : List Int} {i j : Nat} (h : i ≠ j) (hj : j < ns.length) : mvF ns i j = step ns i j := by
  unfold mvF step
  rw [gD (show j < (ns.set i (ns.getD i 0 - 1)).length by rw [List.length_set]; exact hj), List.getElem_set, if_neg h, gD hj]
def spMovedL : Sp := fun vs H Q _ => ∃ (a : Addr) (ns : List Int) (i j : Nat), vs = [.ref a, .int (i : Int), .int (j : Int)] ∧ H a = some (.tup (iv ns)) ∧ i < ns.length ∧ j < ns.length ∧ ns.length ≤ 10 ∧
  ∀ (b : Addr) (ms : List Int) (H' : Hp), Same H H' → H' b = some (.tup (iv ms)) → ms.Perm (mvF ns i j) → ms.Pairwise (· ≥ ·) → Q (.ref b) H'
theorem ok_lmoved (T : Txt2 mg) (F : FunAt K mg "_law_moved" ["_law_load_here", "_law_i", "_law_j"] s_l_moved) : Cal P w K mg base "_law_moved" ["_law_load_here", "_law_i", "_law_j"] 1 spMovedL := by
  have S := sc_l_moved
  refine F.cal sc_l_moved (fun vs H Q E h => ?_) (fun f cdv A outer s H vs Q E hr h => ?_)
  · obtain ⟨a, ns, i, j, rfl, _⟩ := h; rfl
  obtain ⟨a, ns, i, j, rfl, ha, hi, hj, l10, k⟩ := h
  refine ⟨_, (@pss_cons _ _ _ _ _ (@ps_set _ _ (3) _ _ _ _ (by exact S.nd) (by rfl) (by first | exact Or.inl rfl | exact Or.inr rfl) (@pe_callTy _ _ _ _ _ _ _ _ _ call_list_of (by rfl) (by exact T.z_list) (by exact bt_list) (@pa_consN _ _ _ _ _ (pv 0) pa_nil (by first | rfl | decide | exact Or.inl rfl | exact Or.inr rfl | (intro _; rfl) | (intro _ _; rfl) | (intro _ _ _; rfl))) (by first | rfl | decide | exact Or.inl rfl | exact Or.inr rfl | (intro _; rfl) | (intro _ _; rfl) | (intro _ _ _; rfl)) (by first | rfl | decide | exact Or.inl rfl | exact Or.inr rfl | (intro _; rfl) | (intro _ _; rfl) | (intro _ _ _; rfl)) (by first | rfl | decide | exact Or.inl rfl | exact Or.inr rfl | (intro _; rfl) | (intro _ _; rfl) | (intro _ _ _; rfl)) (by first | rfl | decide | exact Or.inl rfl | exact Or.inr rfl | (intro _; rfl) | (intro _ _; rfl) | (intro _ _ _; rfl))) (by first | rfl | decide | exact Or.inl rfl | exact Or.inr rfl | (intro _; rfl) | (intro _ _; rfl) | (intro _ _ _; rfl)) (by first | rfl | decide | exact Or.inl rfl | exact Or.inr rfl | (intro _; rfl) | (intro _ _; rfl) | (intro _ _ _; rfl))) (@pss_cons _ _ _ _ _ (@ps_asg _ _ _ _ _ _ (@pe_op _ _ _ _ _ _ _ _ op_sub (@pe_ix _ _ _ _ _ _ _ ix_list (pv 3) (pv 1) (by exact (fun _ _ => rfl))) pe_int) (@pg_sub _ _ _ _ _ _ _ (pv 3) (pv 1) set_list (by first | rfl | decide | exact Or.inl rfl | exact Or.inr rfl | (intro _; rfl) | (intro _ _; rfl) | (intro _ _ _; rfl))) (by first | rfl | decide | exact Or.inl rfl | exact Or.inr rfl | (intro _; rfl) | (intro _ _; rfl) | (intro _ _ _; rfl)) (by first | rfl | decide | exact Or.inl rfl | exact Or.inr rfl | (intro _; rfl) | (intro _ _; rfl) | (intro _ _ _; rfl)) (by first | rfl | decide | exact Or.inl rfl | exact Or.inr rfl | (intro _; rfl) | (intro _ _; rfl) | (intro _ _ _; rfl))) (@pss_cons _ _ _ _ _ (@ps_asg _ _ _ _ _ _ (@pe_op _ _ _ _ _ _ _ _ op_add (@pe_ix _ _ _ _ _ _ _ ix_list (pv 3) (pv 2) (by exact (fun _ _ => rfl))) pe_int) (@pg_sub _ _ _ _ _ _ _ (pv 3) (pv 2) set_list (by first | rfl | decide | exact Or.inl rfl | exact Or.inr rfl | (intro _; rfl) | (intro _ _; rfl) | (intro _ _ _; rfl))) (by first | rfl | decide | exact Or.inl rfl | exact Or.inr rfl | (intro _; rfl) | (intro _ _; rfl) | (intro _ _ _; rfl)) (by first | rfl | decide | exact Or.inl rfl | exact Or.inr rfl | (intro _; rfl) | (intro _ _; rfl) | (intro _ _ _; rfl)) (by first | rfl | decide | exact Or.inl rfl | exact Or.inr rfl | (intro _; rfl) | (intro _ _; rfl) | (intro _ _ _; rfl))) (@pss_one _ _ _ (@ps_ret _ _ _ _ (@pe_callTy _ _ _ _ _ _ _ _ _ call_tuple_of (by rfl) (by exact T.z_tuple) (by exact bt_tuple) (@pa_consN _ _ _ _ _ (@pe_sortedR _ _ _ _ _ _ _ _ _ (by rfl) (by exact T.z_sorted) (@pa_consN _ _ _ _ _ (pv 3) pa_nil (by first | rfl | decide | exact Or.inl rfl | exact Or.inr rfl | (intro _; rfl) | (intro _ _; rfl) | (intro _ _ _; rfl))) (by first | rfl | decide | exact Or.inl rfl | exact Or.inr rfl | (intro _; rfl) | (intro _ _; rfl) | (intro _ _ _; rfl)) (by first | rfl | decide | exact Or.inl rfl | exact Or.inr rfl | (intro _; rfl) | (intro _ _; rfl) | (intro _ _ _; rfl))) pa_nil (by first | rfl | decide | exact Or.inl rfl | exact Or.inr rfl | (intro _; rfl) | (intro _ _; rfl) | (intro _ _ _; rfl))) (by first | rfl | decide | exact Or.inl rfl | exact Or.inr rfl | (intro _; rfl) | (intro _ _; rfl) | (intro _ _ _; rfl)) (by first | rfl | decide | exact Or.inl rfl | exact Or.inr rfl | (intro _; rfl) | (intro _ _; rfl) | (intro _ _ _; rfl)) (by first | rfl | decide | exact Or.inl rfl | exact Or.inr rfl | (intro _; rfl) | (intro _ _; rfl) | (intro _ _ _; rfl)) (by first | rfl | decide | exact Or.inl rfl | exact Or.inr rfl | (intro _; rfl) | (intro _ _; rfl) | (intro _ _ _; rfl)))))))), ?_⟩
  refine ⟨_, rfl, a, _, rfl, .inr (SqT.of ha), fun l hl => ?_⟩
  have hx : ns[i]? = some ns[i] := List.getElem?_eq_getElem hi
  refine ⟨_, rfl, _, rfl, l, _, _, _, rfl, rfl, SqL.of upd_same, atI_iv hx, _, _, rfl, rfl, _, rfl, _, rfl, l, iv ns, (i : Int), i, rfl, rfl, upd_same, ixN_nat (by simpa using hi), ?_⟩
  rw [iv_set, upd_upd]
  have ed : mvF ns i j = (ns.set i (ns[i] - 1)).set j ((ns.set i (ns[i] - 1)).getD j 0 + 1) := by unfold mvF; rw [gD hi]
  have h2 : j < (ns.set i (ns[i] - 1)).length := by simpa using hj
  have l2 : (ns.set i (ns[i] - 1)).length = ns.length := by simp
  rw [gD h2] at ed
  generalize ns.set i (ns[i] - 1) = ns2 at h2 l2 ed
  have hy : ns2[j]? = some ns2[j] := List.getElem?_eq_getElem h2
  refine ⟨_, rfl, _, rfl, l, _, _, _, rfl, rfl, SqL.of upd_same, atI_iv hy, _, _, rfl, rfl, _, rfl, _, rfl, l, iv ns2, (j : Int), j, rfl, rfl, upd_same, ixN_nat (by simpa using h2), ?_⟩
  rw [iv_set, upd_upd]
  refine ⟨_, rfl, l, ns2.set j (ns2[j] + 1), rfl, upd_same, by simp; omega, fun q ms hq pm od => ?_⟩
  have s2 := (same_new hl (.lst (iv (ns2.set j (ns2[j] + 1))))).trans (same_new hq (.lst (iv ms)))
  refine ⟨q, iv ms, rfl, .inl ⟨SqL.of upd_same, fun t ht => ?_⟩⟩
  exact k t ms _ (s2.trans (same_new ht _)) upd_same (by rw [ed]; exact pm) od
def spFalling : Sp := fun vs H Q _ => ∃ l ns, vs = [.ref l] ∧ H l = some (.lst (iv ns)) ∧ ns.length < 64 ∧ ∀ (a : Addr) (ms : List Int) (H' : Hp), ms.Perm ns → ms.Pairwise (· ≥ ·) → H' a = some (.tup (iv ms)) → Same H H' → Q (.ref a) H'
theorem ok_falling (T : Txt2 mg) (F : FunAt K mg "falling" ["numbers"] s_falling) : Cal P w K mg base "falling" ["numbers"] 1 spFalling := by
  have S := sc_falling
  refine F.cal sc_falling (fun vs H Q E h => ?_) (fun f cdv A outer s H vs Q E hr h => ?_)
  · obtain ⟨l, ns, rfl, _⟩ := h; rfl
  obtain ⟨l, ns, rfl, hl, h64, k⟩ := h
  refine ⟨_, (@pss_one _ _ _ (@ps_ret _ _ _ _ (@pe_callTy _ _ _ _ _ _ _ _ _ call_tuple_of (by rfl) (by exact T.z_tuple) (by exact bt_tuple) (@pa_consN _ _ _ _ _ (@pe_sortedR _ _ _ _ _ _ _ _ _ (by rfl) (by exact T.z_sorted) (@pa_consN _ _ _ _ _ (pv 0) pa_nil (by first | rfl | decide | exact Or.inl rfl | exact Or.inr rfl | (intro _; rfl) | (intro _ _; rfl) | (intro _ _ _; rfl))) (by first | rfl | decide | exact Or.inl rfl | exact Or.inr rfl | (intro _; rfl) | (intro _ _; rfl) | (intro _ _ _; rfl)) (by first | rfl | decide | exact Or.inl rfl | exact Or.inr rfl | (intro _; rfl) | (intro _ _; rfl) | (intro _ _ _; rfl))) pa_nil (by first | rfl | decide | exact Or.inl rfl | exact Or.inr rfl | (intro _; rfl) | (intro _ _; rfl) | (intro _ _ _; rfl))) (by first | rfl | decide | exact Or.inl rfl | exact Or.inr rfl | (intro _; rfl) | (intro _ _; rfl) | (intro _ _ _; rfl)) (by first | rfl | decide | exact Or.inl rfl | exact Or.inr rfl | (intro _; rfl) | (intro _ _; rfl) | (intro _ _ _; rfl)) (by first | rfl | decide | exact Or.inl rfl | exact Or.inr rfl | (intro _; rfl) | (intro _ _; rfl) | (intro _ _ _; rfl)) (by first | rfl | decide | exact Or.inl rfl | exact Or.inr rfl | (intro _; rfl) | (intro _ _; rfl) | (intro _ _ _; rfl))))), ?_⟩
  refine ⟨_, rfl, l, ns, rfl, hl, h64, fun q ms hq pm od => ?_⟩
  have s1 := same_new hq (.lst (iv ms))
  refine ⟨q, iv ms, rfl, .inl ⟨SqL.of upd_same, fun t ht => ?_⟩⟩
  exact k t ms _ pm od upd_same (s1.trans (same_new ht _))
def spMovedM : Sp := fun vs H Q _ => ∃ (a mv : Addr) (ns : List Int) (i j : Nat), vs = [.ref a, .ref mv] ∧ H a = some (.tup (iv ns)) ∧ H mv = some (.tup [.int (i : Int), .int (j : Int)]) ∧ i < ns.length ∧ j < ns.length ∧ ns.length ≤ 10 ∧
  ∀ (b : Addr) (ms : List Int) (H' : Hp), Same H H' → H' b = some (.tup (iv ms)) → ms.Perm (mvF ns i j) → ms.Pairwise (· ≥ ·) → Q (.ref b) H'
theorem ok_moved (T : Txt2 mg) (C_falling : Cal P w K mg base "falling" ["numbers"] 1 spFalling) (F : FunAt K mg "moved" ["load", "move"] s_moved) : Cal P w K mg base "moved" ["load", "move"] 2 spMovedM := by
  have S := sc_moved
  refine F.cal sc_moved (fun vs H Q E h => ?_) (fun f cdv A outer s H vs Q E hr h => ?_)
  · obtain ⟨a, mv, ns, i, j, rfl, _⟩ := h; rfl
  obtain ⟨a, mv, ns, i, j, rfl, ha, hm, hi, hj, l10, k⟩ := h
  refine ⟨_, (@pss_cons _ _ _ _ _ (@ps_set _ _ (2) _ _ _ _ (by exact S.nd) (by rfl) (by first | exact Or.inl rfl | exact Or.inr rfl) (@pe_callTy _ _ _ _ _ _ _ _ _ call_list_of (by rfl) (by exact T.z_list) (by exact bt_list) (@pa_consN _ _ _ _ _ (pv 0) pa_nil (by first | rfl | decide | exact Or.inl rfl | exact Or.inr rfl | (intro _; rfl) | (intro _ _; rfl) | (intro _ _ _; rfl))) (by first | rfl | decide | exact Or.inl rfl | exact Or.inr rfl | (intro _; rfl) | (intro _ _; rfl) | (intro _ _ _; rfl)) (by first | rfl | decide | exact Or.inl rfl | exact Or.inr rfl | (intro _; rfl) | (intro _ _; rfl) | (intro _ _ _; rfl)) (by first | rfl | decide | exact Or.inl rfl | exact Or.inr rfl | (intro _; rfl) | (intro _ _; rfl) | (intro _ _ _; rfl)) (by first | rfl | decide | exact Or.inl rfl | exact Or.inr rfl | (intro _; rfl) | (intro _ _; rfl) | (intro _ _ _; rfl))) (by first | rfl | decide | exact Or.inl rfl | exact Or.inr rfl | (intro _; rfl) | (intro _ _; rfl) | (intro _ _ _; rfl)) (by first | rfl | decide | exact Or.inl rfl | exact Or.inr rfl | (intro _; rfl) | (intro _ _; rfl) | (intro _ _ _; rfl))) (@pss_cons _ _ _ _ _ (@ps_augS _ _ _ _ _ _ _ _ _ _ _ _ _ (pv 2) (@pe_ix _ _ _ _ _ _ _ ix_tup0 (pv 1) pe_int (by exact (fun _ _ => rfl))) get_list pe_int ip_sub set_list (by first | rfl | decide | exact Or.inl rfl | exact Or.inr rfl | (intro _; rfl) | (intro _ _; rfl) | (intro _ _ _; rfl))) (@pss_cons _ _ _ _ _ (@ps_augS _ _ _ _ _ _ _ _ _ _ _ _ _ (pv 2) (@pe_ix _ _ _ _ _ _ _ ix_tup0 (pv 1) pe_int (by exact (fun _ _ => rfl))) get_list pe_int ip_add set_list (by first | rfl | decide | exact Or.inl rfl | exact Or.inr rfl | (intro _; rfl) | (intro _ _; rfl) | (intro _ _ _; rfl))) (@pss_one _ _ _ (@ps_ret _ _ _ _ (@cc _ _ _ _ _ _ _ _ _ _ (by exact C_falling) (by exact (hr.mono (by decide))) (@pa_consN _ _ _ _ _ (pv 2) pa_nil (by first | rfl | decide | exact Or.inl rfl | exact Or.inr rfl | (intro _; rfl) | (intro _ _; rfl) | (intro _ _ _; rfl))) (by first | rfl | decide | exact Or.inl rfl | exact Or.inr rfl | (intro _; rfl) | (intro _ _; rfl) | (intro _ _ _; rfl)) (by first | rfl | decide | exact Or.inl rfl | exact Or.inr rfl | (intro _; rfl) | (intro _ _; rfl) | (intro _ _ _; rfl)) (by first | rfl | decide | exact Or.inl rfl | exact Or.inr rfl | (intro _; rfl) | (intro _ _; rfl) | (intro _ _ _; rfl)) (by first | rfl | decide | exact Or.inl rfl | exact Or.inr rfl | (intro _; rfl) | (intro _ _; rfl) | (intro _ _ _; rfl)))))))), ?_⟩
  refine ⟨_, rfl, a, _, rfl, .inr (SqT.of ha), fun l hl => ?_⟩
  have hx : ns[i]? = some ns[i] := List.getElem?_eq_getElem hi
  have hm1 := same_new hl (.lst (iv ns)) _ _ hm
  refine ⟨_, rfl, _, rfl, mv, _, _, _, rfl, rfl, hm1, rfl, l, iv ns, (i : Int), .int ns[i], rfl, rfl, by omega, upd_same, atI_iv hx, ns[i], 1, rfl, rfl, l, iv ns, (i : Int), i, rfl, rfl, upd_same, ixN_nat (by simpa using hi), ?_⟩
  rw [iv_set, upd_upd]
  have ed : mvF ns i j = (ns.set i (ns[i] - 1)).set j ((ns.set i (ns[i] - 1)).getD j 0 + 1) := by unfold mvF; rw [gD hi]
  have h2 : j < (ns.set i (ns[i] - 1)).length := by simpa using hj
  have l2 : (ns.set i (ns[i] - 1)).length = ns.length := by simp
  rw [gD h2] at ed
  generalize ns.set i (ns[i] - 1) = ns2 at h2 l2 ed
  have hy : ns2[j]? = some ns2[j] := List.getElem?_eq_getElem h2
  have hm2 := same_new hl (.lst (iv ns2)) _ _ hm
  refine ⟨_, rfl, _, rfl, mv, _, _, _, rfl, rfl, hm2, rfl, l, iv ns2, (j : Int), .int ns2[j], rfl, rfl, by omega, upd_same, atI_iv hy, ns2[j], 1, rfl, rfl, l, iv ns2, (j : Int), j, rfl, rfl, upd_same, ixN_nat (by simpa using h2), ?_⟩
  rw [iv_set, upd_upd]
  refine ⟨_, rfl, l, ns2.set j (ns2[j] + 1), rfl, upd_same, by simp; omega, fun b ms H' pm od hb s2 => ?_⟩
  exact k b ms H' ((same_new hl _).trans s2) hb (by rw [ed]; exact pm) od
/-- pairs of places below n -/
def Plc (H : Hp) (n : Nat) (v : V) : Prop := ∃ (t : Addr) (i j : Nat), v = .ref t ∧ H t = some (.tup [.int (i : Int), .int (j : Int)]) ∧ i < n ∧ j < n
theorem Plc.same {H H' : Hp} {n : Nat} {v : V} (h : Plc H n v) (s : Same H H') : Plc H' n v := let ⟨t, i, j, e, h1, h2⟩ := h; ⟨t, i, j, e, s _ _ h1, h2⟩
theorem Plc.updL {H : Hp} {n : Nat} {v : V} {l : Addr} {zs : List V} {o : HO} (hl : H l = some (.lst zs)) (h : Plc H n v) : Plc (upd H l o) n v := let ⟨t, i, j, e, h1, h2⟩ := h; ⟨t, i, j, e, by rw [upd_ne (ne_of h1 hl (by intro z; cases z))]; exact h1, h2⟩
def Has (H : Hp) (zs : List V) (i j : Nat) : Prop := ∃ t, V.ref t ∈ zs ∧ H t = some (.tup [.int (i : Int), .int (j : Int)])
theorem Has.same {H H' : Hp} {zs : List V} {i j : Nat} (h : Has H zs i j) (s : Same H H') : Has H' zs i j := let ⟨t, a, b⟩ := h; ⟨t, a, s _ _ b⟩
theorem Has.updL {H : Hp} {zs xs : List V} {i j : Nat} {l : Addr} {o : HO} (hl : H l = some (.lst xs)) (h : Has H zs i j) : Has (upd H l o) zs i j := let ⟨t, a, b⟩ := h; ⟨t, a, by rw [upd_ne (ne_of b hl (by intro z; cases z))]; exact b⟩
theorem Has.app {H : Hp} {zs ys : List V} {i j : Nat} (h : Has H zs i j) : Has H (zs ++ ys) i j := let ⟨t, a, b⟩ := h; ⟨t, List.mem_append_left _ a, b⟩
theorem Has.app2 {H : Hp} {zs ys : List V} {i j : Nat} (h : Has H ys i j) : Has H (zs ++ ys) i j := let ⟨t, a, b⟩ := h; ⟨t, List.mem_append_right _ a, b⟩
def spCan : Sp := fun vs H Q _ => ∃ (a : Addr) (ns : List Int), vs = [.ref a] ∧ H a = some (.tup (iv ns)) ∧ ns.length ≤ 10 ∧ ∀ (l : Addr) (zs : List V) (H' : Hp), Same H H' → H' l = some (.lst zs) → zs.length ≤ 100 → (∀ v ∈ zs, Plc H' ns.length v) → (∀ i j (hi : i < ns.length) (hj : j < ns.length), ns[i] - ns[j] > 1 → Has H' zs i j) → Q (.ref l) H'
theorem ok_can (T : Txt2 mg) (F : FunAt K mg "_law_can" ["_law_load_here"] s_l_can) : Cal P w K mg base "_law_can" ["_law_load_here"] 1 spCan := by
  have S := sc_l_can
  refine F.cal sc_l_can (fun vs H Q E h => ?_) (fun f cdv A outer s H vs Q E hr h => ?_)
  · obtain ⟨a, ns, rfl, _⟩ := h; rfl
  obtain ⟨a, ns, rfl, ha, l10, k⟩ := h
  refine ⟨_, (@pss_cons _ _ _ _ _ (@ps_set _ _ (1) _ _ _ _ (by exact S.nd) (by rfl) (by first | exact Or.inl rfl | exact Or.inr rfl) (@pe_lst _ _ _ _ pa_nil) (by first | rfl | decide | exact Or.inl rfl | exact Or.inr rfl | (intro _; rfl) | (intro _ _; rfl) | (intro _ _ _; rfl)) (by first | rfl | decide | exact Or.inl rfl | exact Or.inr rfl | (intro _; rfl) | (intro _ _; rfl) | (intro _ _ _; rfl))) (@pss_cons _ _ _ _ _ (@ps_for _ _ _ _ _ _ _ _ (by exact PassesOwn.never) (by rfl) (@pi_range1 _ _ _ _ _ _ (by rfl) (by exact T.z_range) (@pa_consN _ _ _ _ _ (@pe_callB _ _ _ _ _ _ _ _ _ call_len_seq (by rfl) (by exact T.z_len) (by exact bt_len) (@pa_consN _ _ _ _ _ (pv 0) pa_nil (by first | rfl | decide | exact Or.inl rfl | exact Or.inr rfl | (intro _; rfl) | (intro _ _; rfl) | (intro _ _ _; rfl))) (by first | rfl | decide | exact Or.inl rfl | exact Or.inr rfl | (intro _; rfl) | (intro _ _; rfl) | (intro _ _ _; rfl)) (by first | rfl | decide | exact Or.inl rfl | exact Or.inr rfl | (intro _; rfl) | (intro _ _; rfl) | (intro _ _ _; rfl)) (by first | rfl | decide | exact Or.inl rfl | exact Or.inr rfl | (intro _; rfl) | (intro _ _; rfl) | (intro _ _ _; rfl)) (by first | rfl | decide | exact Or.inl rfl | exact Or.inr rfl | (intro _; rfl) | (intro _ _; rfl) | (intro _ _ _; rfl))) pa_nil (by first | rfl | decide | exact Or.inl rfl | exact Or.inr rfl | (intro _; rfl) | (intro _ _; rfl) | (intro _ _ _; rfl))) (by first | rfl | decide | exact Or.inl rfl | exact Or.inr rfl | (intro _; rfl) | (intro _ _; rfl) | (intro _ _ _; rfl))) (@pg_name _ _ (2) _ (by exact S.nd) (by rfl) (by first | exact Or.inl rfl | exact Or.inr rfl) (by first | rfl | decide | exact Or.inl rfl | exact Or.inr rfl | (intro _; rfl) | (intro _ _; rfl) | (intro _ _ _; rfl))) (@pss_one _ _ _ (@ps_expr _ _ _ _ (@pe_bm _ _ _ _ _ _ _ _ _ _ _ _ (by exact PySem.F.plainAttrs_list) (by exact PySem.F.slot_list_extend) (by exact PySem.F.type_list_extend) mt_extend (pv 1) (@pa_consN _ _ _ _ _ (@pe_comp _ _ _ _ _ _ _ _ _ _ _ _ _ (by rfl) (by exact (fun _ _ h => h)) (by decide +kernel) (by rfl) (by decide +kernel) (by exact hfr_of rfl) (by exact Sees.frees ["_law_j"] [("_law_i", 2), ("_law_load_here", 0)] (fr_cons ⟨rfl, rfl⟩ (fr_cons ⟨rfl, rfl⟩ fr_nil))) (@pi_range1 _ _ _ _ _ _ (by rfl) (by exact T.z_range) (@pa_consN _ _ _ _ _ (@pe_callB _ _ _ _ _ _ _ _ _ call_len_seq (by rfl) (by exact T.z_len) (by exact bt_len) (@pa_consN _ _ _ _ _ (pv 0) pa_nil (by first | rfl | decide | exact Or.inl rfl | exact Or.inr rfl | (intro _; rfl) | (intro _ _; rfl) | (intro _ _ _; rfl))) (by first | rfl | decide | exact Or.inl rfl | exact Or.inr rfl | (intro _; rfl) | (intro _ _; rfl) | (intro _ _ _; rfl)) (by first | rfl | decide | exact Or.inl rfl | exact Or.inr rfl | (intro _; rfl) | (intro _ _; rfl) | (intro _ _ _; rfl)) (by first | rfl | decide | exact Or.inl rfl | exact Or.inr rfl | (intro _; rfl) | (intro _ _; rfl) | (intro _ _ _; rfl)) (by first | rfl | decide | exact Or.inl rfl | exact Or.inr rfl | (intro _; rfl) | (intro _ _; rfl) | (intro _ _ _; rfl))) pa_nil (by first | rfl | decide | exact Or.inl rfl | exact Or.inr rfl | (intro _; rfl) | (intro _ _; rfl) | (intro _ _ _; rfl))) (by first | rfl | decide | exact Or.inl rfl | exact Or.inr rfl | (intro _; rfl) | (intro _ _; rfl) | (intro _ _ _; rfl))) (fun _ _ _ _ _ => @pg_name _ _ (0) _ (by exact (show (["_law_j", "_law_i", "_law_load_here"] : List Str).Nodup by decide +kernel)) (by rfl) (by first | exact Or.inl rfl | exact Or.inr rfl) (by first | rfl | decide | exact Or.inl rfl | exact Or.inr rfl | (intro _; rfl) | (intro _ _; rfl) | (intro _ _ _; rfl))) (fun _ _ _ _ _ => (@pts_one _ _ _ (@pt_cmpR _ _ _ _ _ _ _ _ op_gt (@pe_op _ _ _ _ _ _ _ _ op_sub (@pe_ix _ _ _ _ _ _ _ ix_tup0 (pv 2) (pv 1) (by exact (fun _ _ => rfl))) (@pe_ix _ _ _ _ _ _ _ ix_tup0 (pv 2) (pv 0) (by exact (fun _ _ => rfl)))) pe_int (by exact (nomark _))))) (fun _ _ _ _ _ => (@pe_tup _ _ _ _ _ (@pa_consN _ _ _ _ _ (pv 1) (@pa_consN _ _ _ _ _ (pv 0) pa_nil (by first | rfl | decide | exact Or.inl rfl | exact Or.inr rfl | (intro _; rfl) | (intro _ _; rfl) | (intro _ _ _; rfl))) (by first | rfl | decide | exact Or.inl rfl | exact Or.inr rfl | (intro _; rfl) | (intro _ _; rfl) | (intro _ _ _; rfl))))) (by first | rfl | decide | exact Or.inl rfl | exact Or.inr rfl | (intro _; rfl) | (intro _ _; rfl) | (intro _ _ _; rfl))) pa_nil (by first | rfl | decide | exact Or.inl rfl | exact Or.inr rfl | (intro _; rfl) | (intro _ _; rfl) | (intro _ _ _; rfl))) (by first | rfl | decide | exact Or.inl rfl | exact Or.inr rfl | (intro _; rfl) | (intro _ _; rfl) | (intro _ _ _; rfl)) (by first | rfl | decide | exact Or.inl rfl | exact Or.inr rfl | (intro _; rfl) | (intro _ _; rfl) | (intro _ _ _; rfl)) (by first | rfl | decide | exact Or.inl rfl | exact Or.inr rfl | (intro _; rfl) | (intro _ _; rfl) | (intro _ _ _; rfl)) (by first | rfl | decide | exact Or.inl rfl | exact Or.inr rfl | (intro _; rfl) | (intro _ _; rfl) | (intro _ _ _; rfl)) (by first | rfl | decide | exact Or.inl rfl | exact Or.inr rfl | (intro _; rfl) | (intro _ _; rfl) | (intro _ _ _; rfl))) (by first | rfl | decide | exact Or.inl rfl | exact Or.inr rfl | (intro _; rfl) | (intro _ _; rfl) | (intro _ _ _; rfl)))) (by first | rfl | decide | exact Or.inl rfl | exact Or.inr rfl | (intro _; rfl) | (intro _ _; rfl) | (intro _ _ _; rfl))) (@pss_one _ _ _ (@ps_ret _ _ _ _ (pv 1))))), ?_⟩
  refine ⟨(by show 0 ≤ sizeLine; exact Nat.zero_le _), fun l hl => ?_⟩
  have s1 := same_new hl (.lst [])
  refine ⟨_, rfl, a, _, rfl, .inr (SqT.of (s1 _ _ ha)), _, rfl, by omega, by simp; omega, for_range (n := ((((iv ns).length : Nat) : Int)).toNat) (fun i σ H' => ∃ o2 zs, σ = [some (.ref a), some (.ref l), o2] ∧ Same H H' ∧ H' l = some (.lst zs) ∧ zs.length ≤ 10 * i ∧ (∀ v ∈ zs, Plc H' ns.length v) ∧ ∀ m j (hm : m < ns.length) (hj : j < ns.length), m < i → ns[m] - ns[j] > 1 → Has H' zs m j) ⟨_, [], rfl, s1, upd_same, by simp, fun v hv => absurd hv (by simp), fun m j _ _ h => absurd h (by omega)⟩ ?_ ?_⟩
  · rintro i σ H' hi ⟨o2, zs, rfl, s', hz, zl, hzs, hC⟩
    have hi' : i < ns.length := by simpa using hi
    have hx : ns[i]? = some ns[i] := List.getElem?_eq_getElem hi'
    have hal := s' _ _ ha
    refine ⟨_, rfl, .inl ⟨rfl, _, SqL.of hz⟩, _, rfl, a, _, rfl, .inr (SqT.of hal), _, rfl, by omega, by simp; omega, comp_rngT (n := ((((iv ns).length : Nat) : Int)).toNat) (lo := 0) (fs := [some (.int (0 + (i : Int))), some (.ref a)])
      (fun p j ys H2 => ys.length ≤ j ∧ Same H' H2 ∧ (∀ v ∈ ys, Plc H2 ns.length v) ∧ ∀ q (hq : q < ns.length), q < j → ns[i] - ns[q] > 1 → Has H2 ys i q) (by simp; omega) (fun p hp => ⟨Nat.le_refl _, same_new hp _, fun v hv => absurd hv (by simp), fun q _ h => absurd h (by omega)⟩) ?_ ?_⟩
    · rintro p j ys H2 hp hj ⟨yl, s2, hys, hK⟩ hp2 Qf Q' hQf hQ
      have hj' : j < ns.length := by simpa using hj
      have hy : ns[j]? = some ns[j] := List.getElem?_eq_getElem hj'
      refine ⟨_, rfl, _, rfl, a, _, _, _, rfl, rfl, s2 _ _ hal, (by show atI (iv ns) (0 + (i : Int)) = _; rw [Int.zero_add]; exact atI_iv hx), _, rfl, _, rfl, a, _, _, _, rfl, rfl, s2 _ _ hal, (by show atI (iv ns) (0 + (j : Int)) = _; rw [Int.zero_add]; exact atI_iv hy), _, _, rfl, rfl, _, _, rfl, rfl, _, rfl, ?_⟩
      refine ite2 (fun _ => ?_) (fun c => hQf H2 hp2 ⟨by omega, s2, hys, fun q hq h g => ?_⟩)
      rotate_left 1
      · by_cases e : q = j
        · subst e; exact absurd (decide_eq_true (by omega)) c
        · exact hK q hq (by omega) g
      refine ⟨_, rfl, _, rfl, (by show 2 ≤ sizeLine; decide), fun t ht => ?_⟩
      have s3 := same_new ht (.tup [.int (0 + (i : Int)), .int (0 + (j : Int))])
      have ht3 : (upd H2 t (.tup [.int (0 + (i : Int)), .int (0 + (j : Int))])) t = some (.tup [.int (i : Int), .int (j : Int)]) := by rw [upd_same, Int.zero_add, Int.zero_add]
      generalize upd H2 t (.tup [.int (0 + (i : Int)), .int (0 + (j : Int))]) = H3 at s3 ht3
      refine hQ _ H3 (s3 _ _ hp2) ⟨by simp; omega, same_updN hp (s2.trans s3) _, fun v hv => Plc.updL (s3 _ _ hp2) ?_, fun q hq h g => Has.updL (s3 _ _ hp2) ?_⟩
      rotate_left 1
      · by_cases e : q = j
        · subst e; exact ⟨t, by simp, ht3⟩
        · exact ((hK q hq (by omega) g).same s3).app
      rcases List.mem_append.mp hv with z | z
      · exact (hys v z).same s3
      · rw [List.mem_singleton.mp z]
        exact ⟨t, i, j, rfl, ht3, hi', hj'⟩
    rintro p ys H2 hp ⟨yl, s2, hys, hK⟩ hp2
    have yl' : ys.length ≤ ns.length := by simpa using yl
    refine ⟨l, p, zs, ys, rfl, rfl, s2 _ _ hz, hp2, (by rw [sizeLine_eq]; omega), ?_⟩
    refine ⟨_, zs ++ ys, rfl, same_updN hl (s'.trans s2) _, upd_same, by simp; omega, fun v hv => Plc.updL (s2 _ _ hz) ?_, fun m j hm hj h g => Has.updL (s2 _ _ hz) ?_⟩
    rotate_left 1
    · by_cases e : m = i
      · subst e; exact (hK j hj (by simpa using hj) g).app2
      · exact ((hC m j hm hj (by omega) g).same s2).app
    rcases List.mem_append.mp hv with z | z
    · exact (hzs v z).same s2
    · exact hys v z
  · rintro σ H' ⟨o2, zs, rfl, s', hz, zl, hzs, hC⟩
    exact ⟨_, rfl, k l zs H' s' hz (by simp at zl; omega) hzs fun i j hi hj g => hC i j hi hj (by simpa using hi) g⟩
def spPutAt : Sp := fun vs H Q _ => ∃ a ns j x, vs = [.ref a, .int ((j : Nat) : Int)] ∧ H a = some (.tup (iv ns)) ∧ ns.length ≤ 6 ∧ ns[j]? = some x ∧ ∀ (b : Addr) (ms : List Int) (H' : Hp), ms.Perm (ns.set j (x + 1)) → ms.Pairwise (· ≥ ·) → H' b = some (.tup (iv ms)) → Same H H' → Q (.ref b) H'
theorem ok_putat (T : Txt2 mg) (C_falling : Cal P w K mg base "falling" ["numbers"] 1 spFalling) (F : FunAt K mg "put_at" ["load", "rank"] s_put_at) : Cal P w K mg base "put_at" ["load", "rank"] 2 spPutAt := by
  have S := sc_put_at
  refine F.cal sc_put_at (fun vs H Q E h => ?_) (fun f cdv A outer s H vs Q E hr h => ?_)
  · obtain ⟨a, ns, j, x, rfl, _⟩ := h; rfl
  obtain ⟨a, ns, j, x, rfl, ha, h6, hx, k⟩ := h
  have hj : j < ns.length := (List.getElem?_eq_some_iff.mp hx).1
  refine ⟨_, (@pss_cons _ _ _ _ _ (@ps_set _ _ (2) _ _ _ _ (by exact S.nd) (by rfl) (by first | exact Or.inl rfl | exact Or.inr rfl) (@pe_callTy _ _ _ _ _ _ _ _ _ call_list_of (by rfl) (by exact T.z_list) (by exact bt_list) (@pa_consN _ _ _ _ _ (pv 0) pa_nil (by first | rfl | decide | exact Or.inl rfl | exact Or.inr rfl | (intro _; rfl) | (intro _ _; rfl) | (intro _ _ _; rfl))) (by first | rfl | decide | exact Or.inl rfl | exact Or.inr rfl | (intro _; rfl) | (intro _ _; rfl) | (intro _ _ _; rfl)) (by first | rfl | decide | exact Or.inl rfl | exact Or.inr rfl | (intro _; rfl) | (intro _ _; rfl) | (intro _ _ _; rfl)) (by first | rfl | decide | exact Or.inl rfl | exact Or.inr rfl | (intro _; rfl) | (intro _ _; rfl) | (intro _ _ _; rfl)) (by first | rfl | decide | exact Or.inl rfl | exact Or.inr rfl | (intro _; rfl) | (intro _ _; rfl) | (intro _ _ _; rfl))) (by first | rfl | decide | exact Or.inl rfl | exact Or.inr rfl | (intro _; rfl) | (intro _ _; rfl) | (intro _ _ _; rfl)) (by first | rfl | decide | exact Or.inl rfl | exact Or.inr rfl | (intro _; rfl) | (intro _ _; rfl) | (intro _ _ _; rfl))) (@pss_cons _ _ _ _ _ (@ps_augS _ _ _ _ _ _ _ _ _ _ _ _ _ (pv 2) (pv 1) get_list pe_int ip_add set_list (by first | rfl | decide | exact Or.inl rfl | exact Or.inr rfl | (intro _; rfl) | (intro _ _; rfl) | (intro _ _ _; rfl))) (@pss_one _ _ _ (@ps_ret _ _ _ _ (@cc _ _ _ _ _ _ _ _ _ _ (by exact C_falling) (by exact (hr.mono (by decide))) (@pa_consN _ _ _ _ _ (pv 2) pa_nil (by first | rfl | decide | exact Or.inl rfl | exact Or.inr rfl | (intro _; rfl) | (intro _ _; rfl) | (intro _ _ _; rfl))) (by first | rfl | decide | exact Or.inl rfl | exact Or.inr rfl | (intro _; rfl) | (intro _ _; rfl) | (intro _ _ _; rfl)) (by first | rfl | decide | exact Or.inl rfl | exact Or.inr rfl | (intro _; rfl) | (intro _ _; rfl) | (intro _ _ _; rfl)) (by first | rfl | decide | exact Or.inl rfl | exact Or.inr rfl | (intro _; rfl) | (intro _ _; rfl) | (intro _ _ _; rfl)) (by first | rfl | decide | exact Or.inl rfl | exact Or.inr rfl | (intro _; rfl) | (intro _ _; rfl) | (intro _ _ _; rfl))))))), ?_⟩
  refine ⟨_, rfl, a, _, rfl, .inr (SqT.of ha), fun l hl => ?_⟩
  have s1 := same_new hl (.lst (iv ns))
  refine ⟨_, rfl, _, rfl, l, iv ns, (j : Int), .int x, rfl, rfl, by omega, upd_same, atI_iv hx, x, 1, rfl, rfl, l, iv ns, (j : Int), j, rfl, rfl, upd_same, ixN_nat (by simpa using hj), ?_⟩
  rw [iv_set, upd_upd]
  refine ⟨_, rfl, l, ns.set j (x + 1), rfl, upd_same, by simp; omega, fun b ms H' pm od hb s2 => ?_⟩
  exact k b ms H' pm od hb ((same_new hl _).trans s2)
end
end My

set_option Elab.async false
set_option linter.all false
set_option maxRecDepth 100000
set_option maxHeartbeats 4000000
namespace My
open PySem L2 MA
/-- a way by moves -/
inductive Path (H : Hp) (one : List Int) : List Int → List V → List Int → Prop
  | nil (a) : Path H one a [] a
  | cons {a : List Int} {zs : List V} {b : List Int} {t : Addr} {g s : Nat} : H t = some (.tup [.int (g : Int), .int (s : Int)]) → Way one a → Move one a g s → Path H one (step a g s) zs b → Path H one a (.ref t :: zs) b
theorem Path.same {H H' : Hp} (s : Same H H') {one : List Int} : ∀ {a : List Int} {zs : List V} {b : List Int}, Path H one a zs b → Path H' one a zs b
  | _, _, _, .nil a => .nil a
  | _, _, _, .cons h w m p => .cons (s _ _ h) w m (Path.same s p)
theorem Path.updL {H : Hp} {l : Addr} {xs : List V} {o : HO} (hl : H l = some (.lst xs)) {one : List Int} : ∀ {a : List Int} {zs : List V} {b : List Int}, Path H one a zs b → Path (upd H l o) one a zs b
  | _, _, _, .nil a => .nil a
  | _, _, _, .cons h w m p => .cons (by rw [upd_ne (ne_of h hl (by intro z; cases z))]; exact h) w m (Path.updL hl p)
theorem Path.snoc {H : Hp} {one : List Int} {t : Addr} {g s : Nat} (h : H t = some (.tup [.int (g : Int), .int (s : Int)])) : ∀ {a : List Int} {zs : List V} {b : List Int}, Path H one a zs b → Way one b → Move one b g s → Path H one a (zs ++ [.ref t]) (step b g s)
  | _, _, _, .nil a, w, m => .cons h w m (.nil _)
  | _, _, _, .cons h' w' m' p, w, m => .cons h' w' m' (Path.snoc h p w m)
theorem moved_eq {one load ms : List Int} {g s : Nat} (W : Way one load) (M : Move one load g s) (pm : ms.Perm (mvF load g s)) (od : ms.Pairwise (· ≥ ·)) : ms = step load g s := by
  rw [mvF_step (Nat.ne_of_lt M.gs) M.sl] at pm
  exact desc_eq pm od (W.next M).d2
theorem move_far {one load : List Int} {g s : Nat} (W : Way one load) (M : Move one load g s) : load[g]'(by have := M.gs; have := M.sl; omega) - load[s]'M.sl > 1 := by
  have h1 := M.lt
  have h2 := M.gt
  have h3 : one[s]'M.so ≤ one[g]'(by have := M.gs; have := M.so; omega) := dsc_at W.d1 (by have := M.gs; omega) M.so
  omega
theorem trues_all (n : Nat) : (List.replicate n true).all id = true := by simp
theorem trues_snoc (n : Nat) : (List.replicate n true).map V.bl ++ [V.bl true] = (List.replicate (n + 1) true).map V.bl := by
  rw [List.replicate_succ', List.map_append]; rfl
theorem seq_iv : ∀ ns ms : List Int, eqSeq (iv ns) (iv ms) = decide (ns = ms) := by
  intro ns ms
  by_cases e : ns = ms
  · subst e
    rw [decide_eq_true rfl]
    unfold eqSeq
    rw [Bool.and_eq_true]
    refine ⟨?_, by simp⟩
    rw [Nat.min_self]
    exact all_self (iv ns) (eq_iv ns)
  · rw [decide_eq_false e]
    refine Bool.eq_false_iff.mpr fun h => e ?_
    unfold eqSeq at h
    rw [Bool.and_eq_true] at h
    obtain ⟨h1, h2⟩ := h
    have hl : ns.length = ms.length := by simpa using h2
    refine List.ext_getElem hl fun i hi hj => ?_
    have := List.all_eq_true.mp h1 i (by simp; omega)
    rw [getD_of (show i < (iv ns).length by simpa using hi), getD_of (show i < (iv ms).length by simpa using hj)] at this
    simpa [iv, eqV] using this
section
variable {P : Program} {w : World} {K : PySem.W.Frag} {mg : Str → Option Value} {base : Heap}
def spTwo2 : Sp := fun vs H Q _ => ∃ (t : Addr) (i j n : Nat), vs = [.ref t, .int (n : Int)] ∧ H t = some (.tup [.int (i : Int), .int (j : Int)]) ∧ i < n ∧ j < n ∧ ∀ H', Same H H' → Q (.bl true) H'
theorem ok_two (T : Txt2 mg) (C_is_whole : Cal P w K mg base "is_whole" ["thing"] 1 spWhole) (F : FunAt K mg "is_two_places" ["thing", "many"] s_is_two_places) : Cal P w K mg base "is_two_places" ["thing", "many"] 2 spTwo2 := by
  have S := sc_is_two_places
  refine F.cal sc_is_two_places (fun vs H Q E h => ?_) (fun f cdv A outer s H vs Q E hr h => ?_)
  · obtain ⟨t, i, j, n, rfl, _⟩ := h; rfl
  obtain ⟨t, i, j, n, rfl, ht, hi, hj, k⟩ := h
  refine ⟨_, (@pss_cons _ _ _ _ _ (@ps_if _ _ _ _ _ _ _ _ (@PW.pt _ _ _ (@pw_or _ _ _ _ _ _ _ (@pt_not _ _ _ _ (@pt_val _ _ _ (@pe_callB _ _ _ _ _ _ _ _ _ call_isi (by rfl) (by exact T.z_isinstance) (by exact bt_isinstance) (@pa_consN _ _ _ _ _ (pv 0) (@pa_consN _ _ _ _ _ (@pe_bltn _ _ (.ty "tuple") _ _ (by rfl) (by exact T.z_tuple) (by exact bt_tuple) (by rfl) (by first | rfl | decide | exact Or.inl rfl | exact Or.inr rfl | (intro _; rfl) | (intro _ _; rfl) | (intro _ _ _; rfl)) (by first | rfl | decide | exact Or.inl rfl | exact Or.inr rfl | (intro _; rfl) | (intro _ _; rfl) | (intro _ _ _; rfl))) pa_nil (by first | rfl | decide | exact Or.inl rfl | exact Or.inr rfl | (intro _; rfl) | (intro _ _; rfl) | (intro _ _ _; rfl))) (by first | rfl | decide | exact Or.inl rfl | exact Or.inr rfl | (intro _; rfl) | (intro _ _; rfl) | (intro _ _ _; rfl))) (by first | rfl | decide | exact Or.inl rfl | exact Or.inr rfl | (intro _; rfl) | (intro _ _; rfl) | (intro _ _ _; rfl)) (by first | rfl | decide | exact Or.inl rfl | exact Or.inr rfl | (intro _; rfl) | (intro _ _; rfl) | (intro _ _ _; rfl)) (by first | rfl | decide | exact Or.inl rfl | exact Or.inr rfl | (intro _; rfl) | (intro _ _; rfl) | (intro _ _ _; rfl)) (by first | rfl | decide | exact Or.inl rfl | exact Or.inr rfl | (intro _; rfl) | (intro _ _; rfl) | (intro _ _ _; rfl))) (by first | rfl | decide | exact Or.inl rfl | exact Or.inr rfl | (intro _; rfl) | (intro _ _; rfl) | (intro _ _ _; rfl)))) (@pw_or1 _ _ _ _ (@pt_cmpR _ _ _ _ _ _ _ _ op_ne (@pe_callB _ _ _ _ _ _ _ _ _ call_len_seq (by rfl) (by exact T.z_len) (by exact bt_len) (@pa_consN _ _ _ _ _ (pv 0) pa_nil (by first | rfl | decide | exact Or.inl rfl | exact Or.inr rfl | (intro _; rfl) | (intro _ _; rfl) | (intro _ _ _; rfl))) (by first | rfl | decide | exact Or.inl rfl | exact Or.inr rfl | (intro _; rfl) | (intro _ _; rfl) | (intro _ _ _; rfl)) (by first | rfl | decide | exact Or.inl rfl | exact Or.inr rfl | (intro _; rfl) | (intro _ _; rfl) | (intro _ _ _; rfl)) (by first | rfl | decide | exact Or.inl rfl | exact Or.inr rfl | (intro _; rfl) | (intro _ _; rfl) | (intro _ _ _; rfl)) (by first | rfl | decide | exact Or.inl rfl | exact Or.inr rfl | (intro _; rfl) | (intro _ _; rfl) | (intro _ _ _; rfl))) pe_int (by exact (nomark _)))))) (@pss_one _ _ _ (@ps_ret _ _ _ _ pe_bl)) pss_nil) (@pss_one _ _ _ (@ps_ret _ _ _ _ (@pe_callB _ _ _ _ _ _ _ _ _ (call_all (by rfl)) (by rfl) (by exact T.z_all) (by exact bt_all) (@pa_consN _ _ _ _ _ (@pe_comp _ _ _ _ _ _ _ _ _ _ _ _ _ (by rfl) (by exact (fun _ _ h => h)) (by decide +kernel) (by rfl) (by decide +kernel) (by exact hfr_of rfl) (by exact Sees.frees ["place"] [("many", 1)] (fr_cons ⟨rfl, rfl⟩ fr_nil)) (@pi_tup _ _ _ _ (pv 0)) (fun _ _ _ _ _ => @pg_name _ _ (0) _ (by exact (show (["place", "many"] : List Str).Nodup by decide +kernel)) (by rfl) (by first | exact Or.inl rfl | exact Or.inr rfl) (by first | rfl | decide | exact Or.inl rfl | exact Or.inr rfl | (intro _; rfl) | (intro _ _; rfl) | (intro _ _ _; rfl))) (fun _ _ _ _ _ => pts_nil) (fun _ _ _ _ _ => (@pe_and _ _ _ _ _ _ _ (@cc _ _ _ _ _ _ _ _ _ _ (by exact C_is_whole) (by exact (hr.mono (by decide))) (@pa_consN _ _ _ _ _ (pv 0) pa_nil (by first | rfl | decide | exact Or.inl rfl | exact Or.inr rfl | (intro _; rfl) | (intro _ _; rfl) | (intro _ _ _; rfl))) (by first | rfl | decide | exact Or.inl rfl | exact Or.inr rfl | (intro _; rfl) | (intro _ _; rfl) | (intro _ _ _; rfl)) (by first | rfl | decide | exact Or.inl rfl | exact Or.inr rfl | (intro _; rfl) | (intro _ _; rfl) | (intro _ _ _; rfl)) (by first | rfl | decide | exact Or.inl rfl | exact Or.inr rfl | (intro _; rfl) | (intro _ _; rfl) | (intro _ _ _; rfl)) (by first | rfl | decide | exact Or.inl rfl | exact Or.inr rfl | (intro _; rfl) | (intro _ _; rfl) | (intro _ _ _; rfl))) (@pe_and _ _ _ _ _ _ _ (@pe_cmpR _ _ _ _ _ _ _ _ op_ge (pv 0) pe_int (by exact (nomark _))) (@pe_one _ _ _ _ _ (@pe_cmpR _ _ _ _ _ _ _ _ op_lt (pv 0) (pv 1) (by exact (nomark _))))))) (by first | rfl | decide | exact Or.inl rfl | exact Or.inr rfl | (intro _; rfl) | (intro _ _; rfl) | (intro _ _ _; rfl))) pa_nil (by first | rfl | decide | exact Or.inl rfl | exact Or.inr rfl | (intro _; rfl) | (intro _ _; rfl) | (intro _ _ _; rfl))) (by first | rfl | decide | exact Or.inl rfl | exact Or.inr rfl | (intro _; rfl) | (intro _ _; rfl) | (intro _ _ _; rfl)) (by first | rfl | decide | exact Or.inl rfl | exact Or.inr rfl | (intro _; rfl) | (intro _ _; rfl) | (intro _ _ _; rfl)) (by first | rfl | decide | exact Or.inl rfl | exact Or.inr rfl | (intro _; rfl) | (intro _ _; rfl) | (intro _ _ _; rfl)) (by first | rfl | decide | exact Or.inl rfl | exact Or.inr rfl | (intro _; rfl) | (intro _ _; rfl) | (intro _ _ _; rfl)))))), ?_⟩
  refine ⟨_, rfl, _, _, _, _, rfl, .tup ht, rfl, _, rfl, iteF ?_⟩
  refine ⟨_, rfl, t, _, rfl, .inr (SqT.of ht), rfl, _, rfl, iteNS rfl ?_⟩
  refine ⟨_, rfl, t, rfl, ⟨_, SqT.of ht⟩, comp_tp (a := t) (xs := [.int (i : Int), .int (j : Int)]) (fs := [some (.int n)]) (fun acc m ys H' => Same H H' ∧ ys = (List.replicate m true).map V.bl) (by simp) ?_ ?_ ?_ ?_⟩
  · exact fun acc hacc => ⟨same_new hacc _, rfl⟩
  · rintro acc m ys H' hacc ⟨s', _⟩
    exact s' _ _ ht
  · rintro acc m ys H' x hacc hx hlen ⟨s', rfl⟩ hH' Q' hQ
    obtain ⟨v, rfl, hv⟩ : ∃ v : Nat, x = .int (v : Int) ∧ v < n := by
      have : m = 0 ∨ m = 1 := by have := (List.getElem?_eq_some_iff.mp hx).1; simp at this; omega
      rcases this with rfl | rfl
      · exact ⟨i, (by simpa using hx.symm), hi⟩
      · exact ⟨j, (by simpa using hx.symm), hj⟩
    refine ⟨_, rfl, (v : Int), rfl, _, rfl, iteT ⟨_, rfl, _, _, rfl, rfl, _, rfl, ?_⟩⟩
    refine ite2 (fun _ => ?_) (fun c => absurd (decide_eq_true (by omega)) c)
    refine ⟨_, rfl, _, rfl, _, _, rfl, rfl, ?_⟩
    dsimp only
    rw [decide_eq_true (show (v : Int) < n by omega)]
    exact hQ _ H' hH' ⟨same_updN hacc s' _, trues_snoc m⟩
  · rintro acc ys H' hacc ⟨s', rfl⟩ hH' _
    refine ⟨acc, _, rfl, hH', ?_⟩
    rw [trues_all]
    exact k H' s'
def spNext : Sp := fun vs H Q _ => ∃ (a b : Addr) (one load : List Int), vs = [.ref a, .ref b] ∧ H a = some (.tup (iv one)) ∧ H b = some (.tup (iv load)) ∧ Way one load ∧ load ≠ one ∧ load.length ≤ 10 ∧ ∀ (t : Addr) (g s : Nat) (H' : Hp), Same H H' → H' t = some (.tup [.int (g : Int), .int (s : Int)]) → Move one load g s → Q (.ref t) H'
theorem ok_next (T : Txt2 mg) (F : FunAt K mg "next_move" ["one", "load"] s_next_move) : Cal P w K mg base "next_move" ["one", "load"] 1 spNext := by
  have S := sc_next_move
  refine F.cal sc_next_move (fun vs H Q E h => ?_) (fun f cdv A outer s H vs Q E hr h => ?_)
  · obtain ⟨a, b, one, load, rfl, _⟩ := h; rfl
  obtain ⟨a, b, one, load, rfl, ha, hb, W, ne, l10, k⟩ := h
  refine ⟨_, (@pss_cons _ _ _ _ _ (@ps_set _ _ (2) _ _ _ _ (by exact S.nd) (by rfl) (by first | exact Or.inl rfl | exact Or.inr rfl) (@pe_callB _ _ _ _ _ _ _ _ _ (call_minB true (by rfl)) (by rfl) (by exact T.z_min) (by exact bt_min) (@pa_consN _ _ _ _ _ (@pe_comp _ _ _ _ _ _ _ _ _ _ _ _ _ (by rfl) (by exact (fun _ _ h => h)) (by decide +kernel) (by rfl) (by decide +kernel) (by exact hfr_of rfl) (by exact Sees.frees ["at", "number"] [("one", 0)] (fr_cons ⟨rfl, rfl⟩ fr_nil)) (@pi_enumB false _ _ _ _ _ _ _ _ (by rfl) (by exact T.z_enumerate) (@pa_consN _ _ _ _ _ (pv 1) pa_nil (by first | rfl | decide | exact Or.inl rfl | exact Or.inr rfl | (intro _; rfl) | (intro _ _; rfl) | (intro _ _ _; rfl))) (by first | rfl | decide | exact Or.inl rfl | exact Or.inr rfl | (intro _; rfl) | (intro _ _; rfl) | (intro _ _ _; rfl))) (fun _ _ _ _ _ => @pg_tup0 _ _ _ _ _ (2) (by rfl) (@pgs_cons _ _ _ _ _ (@pg_name _ _ (0) _ (by exact (show (["at", "number", "one"] : List Str).Nodup by decide +kernel)) (by rfl) (by first | exact Or.inl rfl | exact Or.inr rfl) (by first | rfl | decide | exact Or.inl rfl | exact Or.inr rfl | (intro _; rfl) | (intro _ _; rfl) | (intro _ _ _; rfl))) (@pgs_cons _ _ _ _ _ (@pg_name _ _ (1) _ (by exact (show (["at", "number", "one"] : List Str).Nodup by decide +kernel)) (by rfl) (by first | exact Or.inl rfl | exact Or.inr rfl) (by first | rfl | decide | exact Or.inl rfl | exact Or.inr rfl | (intro _; rfl) | (intro _ _; rfl) | (intro _ _ _; rfl))) pgs_nil (by first | rfl | decide | exact Or.inl rfl | exact Or.inr rfl | (intro _; rfl) | (intro _ _; rfl) | (intro _ _ _; rfl))) (by first | rfl | decide | exact Or.inl rfl | exact Or.inr rfl | (intro _; rfl) | (intro _ _; rfl) | (intro _ _ _; rfl))) (by first | rfl | decide | exact Or.inl rfl | exact Or.inr rfl | (intro _; rfl) | (intro _ _; rfl) | (intro _ _ _; rfl)) (by first | rfl | decide | exact Or.inl rfl | exact Or.inr rfl | (intro _; rfl) | (intro _ _; rfl) | (intro _ _ _; rfl))) (fun _ _ _ _ _ => (@pts_one _ _ _ (@pt_cmpR _ _ _ _ _ _ _ _ op_lt (pv 1) (@pe_ix _ _ _ _ _ _ _ ix_tup0 (pv 2) (pv 0) (by exact (fun _ _ => rfl))) (by exact (nomark _))))) (fun _ _ _ _ _ => (pv 0)) (by first | rfl | decide | exact Or.inl rfl | exact Or.inr rfl | (intro _; rfl) | (intro _ _; rfl) | (intro _ _ _; rfl))) pa_nil (by first | rfl | decide | exact Or.inl rfl | exact Or.inr rfl | (intro _; rfl) | (intro _ _; rfl) | (intro _ _ _; rfl))) (by first | rfl | decide | exact Or.inl rfl | exact Or.inr rfl | (intro _; rfl) | (intro _ _; rfl) | (intro _ _ _; rfl)) (by first | rfl | decide | exact Or.inl rfl | exact Or.inr rfl | (intro _; rfl) | (intro _ _; rfl) | (intro _ _ _; rfl)) (by first | rfl | decide | exact Or.inl rfl | exact Or.inr rfl | (intro _; rfl) | (intro _ _; rfl) | (intro _ _ _; rfl)) (by first | rfl | decide | exact Or.inl rfl | exact Or.inr rfl | (intro _; rfl) | (intro _ _; rfl) | (intro _ _ _; rfl))) (by first | rfl | decide | exact Or.inl rfl | exact Or.inr rfl | (intro _; rfl) | (intro _ _; rfl) | (intro _ _ _; rfl)) (by first | rfl | decide | exact Or.inl rfl | exact Or.inr rfl | (intro _; rfl) | (intro _ _; rfl) | (intro _ _ _; rfl))) (@pss_cons _ _ _ _ _ (@ps_set _ _ (3) _ _ _ _ (by exact S.nd) (by rfl) (by first | exact Or.inl rfl | exact Or.inr rfl) (@pe_callB _ _ _ _ _ _ _ _ _ (call_maxB true (by rfl)) (by rfl) (by exact T.z_max) (by exact bt_max) (@pa_consN _ _ _ _ _ (@pe_comp _ _ _ _ _ _ _ _ _ _ _ _ _ (by rfl) (by exact (fun _ _ h => h)) (by decide +kernel) (by rfl) (by decide +kernel) (by exact hfr_of rfl) (by exact Sees.frees ["at"] [("load", 1), ("one", 0)] (fr_cons ⟨rfl, rfl⟩ (fr_cons ⟨rfl, rfl⟩ fr_nil))) (@pi_range1 _ _ _ _ _ _ (by rfl) (by exact T.z_range) (@pa_consN _ _ _ _ _ (pv 2) pa_nil (by first | rfl | decide | exact Or.inl rfl | exact Or.inr rfl | (intro _; rfl) | (intro _ _; rfl) | (intro _ _ _; rfl))) (by first | rfl | decide | exact Or.inl rfl | exact Or.inr rfl | (intro _; rfl) | (intro _ _; rfl) | (intro _ _ _; rfl))) (fun _ _ _ _ _ => @pg_name _ _ (0) _ (by exact (show (["at", "load", "one"] : List Str).Nodup by decide +kernel)) (by rfl) (by first | exact Or.inl rfl | exact Or.inr rfl) (by first | rfl | decide | exact Or.inl rfl | exact Or.inr rfl | (intro _; rfl) | (intro _ _; rfl) | (intro _ _ _; rfl))) (fun _ _ _ _ _ => (@pts_one _ _ _ (@pt_cmpR _ _ _ _ _ _ _ _ op_gt (@pe_ix _ _ _ _ _ _ _ ix_tup0 (pv 1) (pv 0) (by exact (fun _ _ => rfl))) (@pe_ix _ _ _ _ _ _ _ ix_tup0 (pv 2) (pv 0) (by exact (fun _ _ => rfl))) (by exact (nomark _))))) (fun _ _ _ _ _ => (pv 0)) (by first | rfl | decide | exact Or.inl rfl | exact Or.inr rfl | (intro _; rfl) | (intro _ _; rfl) | (intro _ _ _; rfl))) pa_nil (by first | rfl | decide | exact Or.inl rfl | exact Or.inr rfl | (intro _; rfl) | (intro _ _; rfl) | (intro _ _ _; rfl))) (by first | rfl | decide | exact Or.inl rfl | exact Or.inr rfl | (intro _; rfl) | (intro _ _; rfl) | (intro _ _ _; rfl)) (by first | rfl | decide | exact Or.inl rfl | exact Or.inr rfl | (intro _; rfl) | (intro _ _; rfl) | (intro _ _ _; rfl)) (by first | rfl | decide | exact Or.inl rfl | exact Or.inr rfl | (intro _; rfl) | (intro _ _; rfl) | (intro _ _ _; rfl)) (by first | rfl | decide | exact Or.inl rfl | exact Or.inr rfl | (intro _; rfl) | (intro _ _; rfl) | (intro _ _ _; rfl))) (by first | rfl | decide | exact Or.inl rfl | exact Or.inr rfl | (intro _; rfl) | (intro _ _; rfl) | (intro _ _ _; rfl)) (by first | rfl | decide | exact Or.inl rfl | exact Or.inr rfl | (intro _; rfl) | (intro _ _; rfl) | (intro _ _ _; rfl))) (@pss_one _ _ _ (@ps_ret _ _ _ _ (@pe_tup _ _ _ _ _ (@pa_consN _ _ _ _ _ (pv 3) (@pa_consN _ _ _ _ _ (pv 2) pa_nil (by first | rfl | decide | exact Or.inl rfl | exact Or.inr rfl | (intro _; rfl) | (intro _ _; rfl) | (intro _ _ _; rfl))) (by first | rfl | decide | exact Or.inl rfl | exact Or.inr rfl | (intro _; rfl) | (intro _ _; rfl) | (intro _ _ _; rfl)))))))), ?_⟩
  have len := W.len
  refine ⟨_, rfl, b, rfl, ⟨_, SqB.t hb⟩, comp_enumT (b := false) (xs := iv load) (fs := [some (.ref a)]) (fun p i ys H' => Same H H' ∧ ∃ ns : List Int, ys = iv ns ∧ (∀ m ∈ ns, ∃ j : Nat, m = (j : Int) ∧ ∃ (h1 : j < load.length) (h2 : j < one.length), load[j] < one[j]) ∧ ∀ j (h1 : j < load.length) (h2 : j < one.length), j < i → load[j] < one[j] → (j : Int) ∈ ns) (by simp; omega) ?_ ?_ ?_ ?_⟩
  · exact fun p hp => ⟨same_new hp _, [], rfl, fun m hm => absurd hm (by simp), fun j _ _ h => absurd h (by omega)⟩
  · exact fun p i zs H' _ h => h.1 _ _ hb
  · rintro p i ys H' x t hp hx ⟨s', ns, rfl, c1, c2⟩ hp' ht Qf Q' hQf hQ
    obtain ⟨x, rfl, hx'⟩ : ∃ n, x = .int n ∧ load[i]? = some n := by
      rw [List.getElem?_map] at hx
      obtain ⟨n, h1, h2⟩ := Option.map_eq_some_iff.mp hx
      exact ⟨n, h2.symm, h1⟩
    obtain ⟨hi, hxi⟩ := List.getElem?_eq_some_iff.mp hx'
    have hi2 : i < one.length := by omega
    have s1 := s'.trans (same_new ht (.tup [.int (i : Int), .int x]))
    have hp1 := same_new ht (.tup [.int (i : Int), .int x]) _ _ hp'
    generalize upd H' t (.tup [.int (i : Int), .int x]) = H1 at s1 hp1
    refine ⟨_, rfl, _, rfl, _, rfl, a, _, _, _, rfl, rfl, s1 _ _ ha, atI_iv (List.getElem?_eq_getElem hi2), _, _, rfl, rfl, _, rfl, ?_⟩
    refine ite2 (fun c => ?_) (fun c => ?_)
    · have hlt : x < one[i] := of_decide_eq_true c
      refine ⟨_, rfl, hQ _ H1 hp1 ⟨same_updN hp s1 _, ns ++ [(i : Int)], by simp [iv], fun m hm => ?_, fun j h1 h2 h g => ?_⟩⟩
      · rcases List.mem_append.mp hm with z | z
        · exact c1 m z
        · exact ⟨i, List.mem_singleton.mp z, hi, hi2, by omega⟩
      · by_cases e : j = i
        · subst e; simp
        · exact List.mem_append_left _ (c2 j h1 h2 (by omega) g)
    · refine hQf H1 hp1 ⟨s1, ns, rfl, c1, fun j h1 h2 h g => ?_⟩
      by_cases e : j = i
      · subst e; exact absurd (decide_eq_true (by omega)) c
      · exact c2 j h1 h2 (by omega) g
  rintro p ys H1 hp ⟨s1, ns, rfl, c1, c2⟩ hp1
  rw [List.length_map] at c2
  obtain ⟨i0, e1, e2, e3⟩ := few_ex W ne
  have m0 := c2 i0 e1 e2 e1 e3
  refine ⟨p, ns, rfl, SqB.of hp1, fun z => (by rw [z] at m0; simp at m0), fun M hM hmin => ?_⟩
  obtain ⟨s0, rfl, sl, so, slt⟩ := c1 M hM
  have all : ∀ i (h : i < s0) (ha : i < load.length) (hb : i < one.length), one[i] ≤ load[i] := fun i h h1 h2 => by
    refine Classical.byContradiction fun c => ?_
    have := hmin _ (c2 i h1 h2 h1 (by omega))
    omega
  have ha1 := s1 _ _ ha
  have hb1 := s1 _ _ hb
  refine ⟨_, rfl, (s0 : Int), rfl, by omega, by omega, comp_rngT (n := ((s0 : Int)).toNat) (lo := 0) (fs := [some (.ref b), some (.ref a)]) (fun p i ys H' => Same H1 H' ∧ ∃ ns : List Int, ys = iv ns ∧ (∀ m ∈ ns, ∃ j : Nat, m = (j : Int) ∧ j < s0 ∧ ∃ (h1 : j < load.length) (h2 : j < one.length), one[j] < load[j]) ∧ ∀ j (h1 : j < load.length) (h2 : j < one.length), j < i → one[j] < load[j] → (j : Int) ∈ ns) (by omega) ?_ ?_ ?_⟩
  · exact fun p hp => ⟨same_new hp _, [], rfl, fun m hm => absurd hm (by simp), fun j _ _ h => absurd h (by omega)⟩
  · rintro p2 i ys H' hp2 hi ⟨s', ns2, rfl, d1, d2⟩ hp' Qf Q' hQf hQ
    have hi' : i < s0 := by omega
    have h1 : i < load.length := by omega
    have h2 : i < one.length := by omega
    refine ⟨_, rfl, _, rfl, b, _, _, _, rfl, rfl, s' _ _ hb1, (by show atI (iv load) (0 + (i : Int)) = _; rw [Int.zero_add]; exact atI_iv (List.getElem?_eq_getElem h1)), _, rfl, _, rfl, a, _, _, _, rfl, rfl, s' _ _ ha1, (by show atI (iv one) (0 + (i : Int)) = _; rw [Int.zero_add]; exact atI_iv (List.getElem?_eq_getElem h2)), _, _, rfl, rfl, _, rfl, ?_⟩
    refine ite2 (fun c => ?_) (fun c => ?_)
    · have hlt : one[i] < load[i] := of_decide_eq_true c
      refine ⟨_, rfl, hQ _ H' hp' ⟨same_updN hp2 s' _, ns2 ++ [(i : Int)], by simp [iv], fun m hm => ?_, fun j g1 g2 h g => ?_⟩⟩
      · rcases List.mem_append.mp hm with z | z
        · exact d1 m z
        · exact ⟨i, List.mem_singleton.mp z, hi', h1, h2, hlt⟩
      · by_cases e : j = i
        · subst e; simp
        · exact List.mem_append_left _ (d2 j g1 g2 (by omega) g)
    · refine hQf H' hp' ⟨s', ns2, rfl, d1, fun j g1 g2 h g => ?_⟩
      by_cases e : j = i
      · subst e; exact absurd (decide_eq_true g) c
      · exact d2 j g1 g2 (by omega) g
  rintro p2 ys H2 hp2 ⟨s2, ns2, rfl, d1, d2⟩ hp2'
  rw [Int.toNat_natCast] at d2
  obtain ⟨g0, f1, f2, f3, f4⟩ := many_ex W sl so slt all
  have m1 := d2 g0 f2 f3 f1 f4
  refine ⟨p2, ns2, rfl, SqB.of hp2', fun z => (by rw [z] at m1; simp at m1), fun M2 hM2 hmax => ?_⟩
  obtain ⟨g, rfl, gs, gl, go, ggt⟩ := d1 M2 hM2
  refine ⟨_, rfl, _, rfl, (by show 2 ≤ sizeLine; decide), fun t ht => ?_⟩
  refine k t g s0 _ ((s1.trans s2).trans (same_new ht _)) upd_same ⟨gs, sl, so, slt, all, ggt, fun i h h1 h2 hg => ?_⟩
  refine Classical.byContradiction fun c => ?_
  have a1 := all i h h1 h2
  have := hmax _ (d2 i h1 h2 h (by omega))
  omega
def spTaken : Sp := fun vs H Q E => ∃ a ns j x, vs = [.ref a, .int ((j : Nat) : Int)] ∧ H a = some (.tup (iv ns)) ∧ ns.length ≤ 6 ∧ ns[j]? = some x ∧ x ≠ 0 ∧
  (∀ (b : Addr) (ms : List Int) (H' : Hp), ms.Perm (ns.set j (x - 1)) → ms.Pairwise (· ≥ ·) → H' b = some (.tup (iv ms)) → Same H H' → Q (.ref b) H')
theorem ok_taken (T : Txt2 mg) (C_falling : Cal P w K mg base "falling" ["numbers"] 1 spFalling) (F : FunAt K mg "taken_from" ["load", "rank"] s_taken_from) : Cal P w K mg base "taken_from" ["load", "rank"] 2 spTaken := by
  have S := sc_taken_from
  refine F.cal sc_taken_from (fun vs H Q E h => ?_) (fun f cdv A outer s H vs Q E hr h => ?_)
  · obtain ⟨a, ns, j, x, rfl, _⟩ := h; rfl
  obtain ⟨a, ns, j, x, rfl, ha, h6, hx, hx0, k⟩ := h
  have hj : j < ns.length := (List.getElem?_eq_some_iff.mp hx).1
  refine ⟨_, (@pss_cons _ _ _ _ _ (@ps_if _ _ _ _ _ _ _ _ (@pt_cmpR _ _ _ _ _ _ _ _ op_eq (@pe_ix _ _ _ _ _ _ _ ix_tup (pv 0) (pv 1) (by exact (fun _ _ => rfl))) pe_int (by exact (nomark _))) (@pss_one _ _ _ ps_never) pss_nil) (@pss_cons _ _ _ _ _ (@ps_set _ _ (2) _ _ _ _ (by exact S.nd) (by rfl) (by first | exact Or.inl rfl | exact Or.inr rfl) (@pe_callTy _ _ _ _ _ _ _ _ _ call_list_of (by rfl) (by exact T.z_list) (by exact bt_list) (@pa_consN _ _ _ _ _ (pv 0) pa_nil (by first | rfl | decide | exact Or.inl rfl | exact Or.inr rfl | (intro _; rfl) | (intro _ _; rfl) | (intro _ _ _; rfl))) (by first | rfl | decide | exact Or.inl rfl | exact Or.inr rfl | (intro _; rfl) | (intro _ _; rfl) | (intro _ _ _; rfl)) (by first | rfl | decide | exact Or.inl rfl | exact Or.inr rfl | (intro _; rfl) | (intro _ _; rfl) | (intro _ _ _; rfl)) (by first | rfl | decide | exact Or.inl rfl | exact Or.inr rfl | (intro _; rfl) | (intro _ _; rfl) | (intro _ _ _; rfl)) (by first | rfl | decide | exact Or.inl rfl | exact Or.inr rfl | (intro _; rfl) | (intro _ _; rfl) | (intro _ _ _; rfl))) (by first | rfl | decide | exact Or.inl rfl | exact Or.inr rfl | (intro _; rfl) | (intro _ _; rfl) | (intro _ _ _; rfl)) (by first | rfl | decide | exact Or.inl rfl | exact Or.inr rfl | (intro _; rfl) | (intro _ _; rfl) | (intro _ _ _; rfl))) (@pss_cons _ _ _ _ _ (@ps_augS _ _ _ _ _ _ _ _ _ _ _ _ _ (pv 2) (pv 1) get_list pe_int ip_sub set_list (by first | rfl | decide | exact Or.inl rfl | exact Or.inr rfl | (intro _; rfl) | (intro _ _; rfl) | (intro _ _ _; rfl))) (@pss_one _ _ _ (@ps_ret _ _ _ _ (@cc _ _ _ _ _ _ _ _ _ _ (by exact C_falling) (by exact (hr.mono (by decide))) (@pa_consN _ _ _ _ _ (pv 2) pa_nil (by first | rfl | decide | exact Or.inl rfl | exact Or.inr rfl | (intro _; rfl) | (intro _ _; rfl) | (intro _ _ _; rfl))) (by first | rfl | decide | exact Or.inl rfl | exact Or.inr rfl | (intro _; rfl) | (intro _ _; rfl) | (intro _ _ _; rfl)) (by first | rfl | decide | exact Or.inl rfl | exact Or.inr rfl | (intro _; rfl) | (intro _ _; rfl) | (intro _ _ _; rfl)) (by first | rfl | decide | exact Or.inl rfl | exact Or.inr rfl | (intro _; rfl) | (intro _ _; rfl) | (intro _ _ _; rfl)) (by first | rfl | decide | exact Or.inl rfl | exact Or.inr rfl | (intro _; rfl) | (intro _ _; rfl) | (intro _ _ _; rfl)))))))), ?_⟩
  refine ⟨_, rfl, _, rfl, a, _, _, _, rfl, rfl, SqT.of ha, atI_iv hx, rfl, _, rfl, ?_⟩
  refine ite2 (fun c => absurd (V.int.inj (of_decide_eq_true c)) hx0) (fun _ => ?_)
  refine ⟨_, rfl, a, _, rfl, .inr (SqT.of ha), fun l hl => ?_⟩
  refine ⟨_, rfl, _, rfl, l, iv ns, (j : Int), .int x, rfl, rfl, by omega, upd_same, atI_iv hx, x, 1, rfl, rfl, l, iv ns, (j : Int), j, rfl, rfl, upd_same, ixN_nat (by simpa using hj), ?_⟩
  rw [iv_set, upd_upd]
  refine ⟨_, rfl, l, ns.set j (x - 1), rfl, upd_same, by simp; omega, fun b ms H' pm od hb s2 => ?_⟩
  exact k b ms H' pm od hb ((same_new hl _).trans s2)
end
end My

set_option Elab.async false
set_option linter.all false
set_option maxRecDepth 100000
set_option maxHeartbeats 4000000
namespace My
open PySem L2 MA
theorem full_non {acc k : Int} : ∀ {ns ms : List Int} {j : Nat}, ns.length = ms.length → fullAt acc k ns ms = .non → acc ≤ 0 → j ≤ ns.length → acc + pre ns j ≤ pre ms j := by
  intro ns
  induction ns generalizing acc k with
  | nil =>
    intro ms j hl h h0 hj
    have e1 : j = 0 := by simpa using hj
    subst e1
    rw [pre_zero, pre_zero]
    omega
  | cons a r ih =>
    intro ms j hl h h0 hj
    cases ms with
    | nil => simp at hl
    | cons b t =>
      have hh : (if acc + (a - b) > 0 then V.int k else fullAt (acc + (a - b)) (k + 1) r t) = .non := h
      by_cases c : acc + (a - b) > 0
      · rw [if_pos c] at hh; cases hh
      · rw [if_neg c] at hh
        cases j with
        | zero => rw [pre_zero, pre_zero]; omega
        | succ j =>
          have := ih (j := j) (by simpa using hl) hh (by omega) (by simpa using hj)
          have e1 : pre (a :: r) (j + 1) = a + pre r j := by simp [pre]
          have e2 : pre (b :: t) (j + 1) = b + pre t j := by simp [pre]
          rw [e1, e2]
          omega
theorem full_or (acc k : Int) (ns ms : List Int) : fullAt acc k ns ms = .non ∨ ∃ i, fullAt acc k ns ms = .int i := by
  induction ns generalizing acc k ms with
  | nil => exact .inl rfl
  | cons a r ih =>
    cases ms with
    | nil => exact .inl rfl
    | cons b t =>
      show (if acc + (a - b) > 0 then V.int k else fullAt (acc + (a - b)) (k + 1) r t) = _ ∨ ∃ i, (if acc + (a - b) > 0 then V.int k else fullAt (acc + (a - b)) (k + 1) r t) = _
      split
      · exact .inr ⟨k, rfl⟩
      · exact ih _ _ _
theorem way_of {one other : List Int} (al : Alike one other) (d1 : one.Pairwise (· ≥ ·)) (d2 : other.Pairwise (· ≥ ·)) (h : fullAt 0 1 one other = .non) : Way one other :=
  ⟨al.1, d1, d2, al.2, fun k hk => by have := full_non (j := k) al.1 h (Int.le_refl _) hk; omega⟩
def Sml (B : Int) (ns : List Int) : Prop := ∀ x ∈ ns, -B ≤ x ∧ x ≤ B
theorem Sml.mono {B C : Int} {ns : List Int} (h : Sml B ns) (l : B ≤ C) : Sml C ns := fun x hx => by have := h x hx; omega
theorem mv_sml {B : Int} {ns ms : List Int} {i j : Nat} (h : Sml B ns) (hi : i < ns.length) (hj : j < ns.length) (pm : ms.Perm (mvF ns i j)) : ∀ x ∈ ms, -(B + 2) ≤ x ∧ x ≤ B + 2 := by
  have h2 : ∀ x ∈ ns.set i (ns.getD i 0 - 1), -(B + 1) ≤ x ∧ x ≤ B + 1 := fun x hx => by
    rcases mem_setI hx with z | z
    · have := h x z; omega
    · rw [gD hi] at z
      have := h ns[i] (List.getElem_mem hi); omega
  intro x hx
  rcases mem_setI (pm.mem_iff.mp hx) with z | z
  · have := h2 x z; omega
  · have hj2 : j < (ns.set i (ns.getD i 0 - 1)).length := by rw [List.length_set]; exact hj
    rw [gD hj2] at z
    have := h2 _ (List.getElem_mem hj2)
    omega
theorem sum_set {l : List Int} {i : Nat} (hi : i < l.length) (v : Int) : (l.set i v).sum = l.sum + (v - l[i]) := by
  have := pre_set hi v l.length (Nat.le_refl _)
  rw [if_pos hi, pre_all (by rw [List.length_set]; exact Nat.le_refl _), pre_all (Nat.le_refl _)] at this
  exact this
theorem perm_sum {a b : List Int} (h : a.Perm b) : a.sum = b.sum := by
  induction h with
  | nil => rfl
  | cons x _ ih => simp [ih]
  | swap x y l => simp; omega
  | trans _ _ a b => rw [a, b]
theorem mv_sum {ns ms : List Int} {i j : Nat} (hi : i < ns.length) (hj : j < ns.length) (pm : ms.Perm (mvF ns i j)) : ms.sum = ns.sum := by
  have hj2 : j < (ns.set i (ns.getD i 0 - 1)).length := by rw [List.length_set]; exact hj
  have e1 := sum_set hi (ns.getD i 0 - 1)
  have e2 := sum_set hj2 ((ns.set i (ns.getD i 0 - 1)).getD j 0 + 1)
  have a1 := gD hi
  have a2 := gD hj2
  rw [perm_sum pm]
  unfold mvF
  omega
theorem mv_nn {ns ms : List Int} {i j : Nat} (h : ∀ x ∈ ns, 0 ≤ x) (hi : i < ns.length) (hj : j < ns.length) (g : 0 < ns[i]) (pm : ms.Perm (mvF ns i j)) : ∀ x ∈ ms, 0 ≤ x := by
  have h2 : ∀ x ∈ ns.set i (ns.getD i 0 - 1), 0 ≤ x := fun x hx => by
    rcases mem_setI hx with z | z
    · exact h x z
    · rw [gD hi] at z; omega
  intro x hx
  rcases mem_setI (pm.mem_iff.mp hx) with z | z
  · exact h2 x z
  · have hj2 : j < (ns.set i (ns.getD i 0 - 1)).length := by rw [List.length_set]; exact hj
    rw [gD hj2] at z
    have := h2 _ (List.getElem_mem hj2)
    omega
section
variable {P : Program} {w : World} {K : PySem.W.Frag} {mg : Str → Option Value} {base : Heap}
def spMoves : Sp := fun vs H Q _ => ∃ a b ns ms, vs = [.ref a, .ref b] ∧ H a = some (.tup (iv ns)) ∧ H b = some (.tup (iv ms)) ∧ ns.length ≤ 10 ∧ far ns ms ≤ 1000000 ∧ ns.Pairwise (· ≥ ·) ∧ ms.Pairwise (· ≥ ·) ∧ Alike ns ms ∧
  ((fullAt 0 1 ns ms ≠ .non → ∀ H', Same H H' → Q .non H') ∧ (fullAt 0 1 ns ms = .non → ∀ l zs H', Same H H' → H l = none → H' l = some (.lst zs) → Path H' ns ms zs ns → zs.length ≤ far ns ms → Q (.ref l) H'))
theorem ok_moves (T : Txt2 mg) (C_first_fuller : Cal P w K mg base "first_fuller" ["one", "other"] 2 spFirst) (C_next_move : Cal P w K mg base "next_move" ["one", "load"] 1 spNext) (C_moved : Cal P w K mg base "moved" ["load", "move"] 2 spMovedM) (F : FunAt K mg "moves" ["one", "other"] s_moves) : Cal P w K mg base "moves" ["one", "other"] 3 spMoves := by
  have S := sc_moves
  refine F.cal sc_moves (fun vs H Q E h => ?_) (fun f cdv A outer s H vs Q E hr h => ?_)
  · obtain ⟨a, b, xs, ys, rfl, _⟩ := h; rfl
  obtain ⟨a, b, ns, ms, rfl, ha, hb, l10, lf, d1, d2, al, k1, k2⟩ := h
  have hu := hr.units0
  refine ⟨_, (@pss_cons _ _ _ _ _ (@ps_if _ _ _ _ _ _ _ _ (@pt_cmpR _ _ _ _ _ _ _ _ op_notN (@cc _ _ _ _ _ _ _ _ _ _ (by exact C_first_fuller) (by exact (hr.mono (by decide))) (@pa_consN _ _ _ _ _ (pv 0) (@pa_consN _ _ _ _ _ (pv 1) pa_nil (by first | rfl | decide | exact Or.inl rfl | exact Or.inr rfl | (intro _; rfl) | (intro _ _; rfl) | (intro _ _ _; rfl))) (by first | rfl | decide | exact Or.inl rfl | exact Or.inr rfl | (intro _; rfl) | (intro _ _; rfl) | (intro _ _ _; rfl))) (by first | rfl | decide | exact Or.inl rfl | exact Or.inr rfl | (intro _; rfl) | (intro _ _; rfl) | (intro _ _ _; rfl)) (by first | rfl | decide | exact Or.inl rfl | exact Or.inr rfl | (intro _; rfl) | (intro _ _; rfl) | (intro _ _ _; rfl)) (by first | rfl | decide | exact Or.inl rfl | exact Or.inr rfl | (intro _; rfl) | (intro _ _; rfl) | (intro _ _ _; rfl)) (by first | rfl | decide | exact Or.inl rfl | exact Or.inr rfl | (intro _; rfl) | (intro _ _; rfl) | (intro _ _ _; rfl))) pe_non (by exact (nomark _))) (@pss_one _ _ _ (@ps_ret _ _ _ _ pe_non)) pss_nil) (@pss_cons _ _ _ _ _ (@ps_set _ _ (2) _ _ _ _ (by exact S.nd) (by rfl) (by first | exact Or.inl rfl | exact Or.inr rfl) (pv 1) (by first | rfl | decide | exact Or.inl rfl | exact Or.inr rfl | (intro _; rfl) | (intro _ _; rfl) | (intro _ _ _; rfl)) (by first | rfl | decide | exact Or.inl rfl | exact Or.inr rfl | (intro _; rfl) | (intro _ _; rfl) | (intro _ _ _; rfl))) (@pss_cons _ _ _ _ _ (@ps_set _ _ (3) _ _ _ _ (by exact S.nd) (by rfl) (by first | exact Or.inl rfl | exact Or.inr rfl) (@pe_lst _ _ _ _ pa_nil) (by first | rfl | decide | exact Or.inl rfl | exact Or.inr rfl | (intro _; rfl) | (intro _ _; rfl) | (intro _ _ _; rfl)) (by first | rfl | decide | exact Or.inl rfl | exact Or.inr rfl | (intro _; rfl) | (intro _ _; rfl) | (intro _ _ _; rfl))) (@pss_cons _ _ _ _ _ (@ps_while _ _ _ _ _ _ (by exact PassesOwn.never) (@pt_cmpR _ _ _ _ _ _ _ _ (op_neT hu) (pv 2) (pv 0) (by exact (nomark _))) (@pss_cons _ _ _ _ _ (@ps_set _ _ (4) _ _ _ _ (by exact S.nd) (by rfl) (by first | exact Or.inl rfl | exact Or.inr rfl) (@cc _ _ _ _ _ _ _ _ _ _ (by exact C_next_move) (by exact (hr.mono (by decide))) (@pa_consN _ _ _ _ _ (pv 0) (@pa_consN _ _ _ _ _ (pv 2) pa_nil (by first | rfl | decide | exact Or.inl rfl | exact Or.inr rfl | (intro _; rfl) | (intro _ _; rfl) | (intro _ _ _; rfl))) (by first | rfl | decide | exact Or.inl rfl | exact Or.inr rfl | (intro _; rfl) | (intro _ _; rfl) | (intro _ _ _; rfl))) (by first | rfl | decide | exact Or.inl rfl | exact Or.inr rfl | (intro _; rfl) | (intro _ _; rfl) | (intro _ _ _; rfl)) (by first | rfl | decide | exact Or.inl rfl | exact Or.inr rfl | (intro _; rfl) | (intro _ _; rfl) | (intro _ _ _; rfl)) (by first | rfl | decide | exact Or.inl rfl | exact Or.inr rfl | (intro _; rfl) | (intro _ _; rfl) | (intro _ _ _; rfl)) (by first | rfl | decide | exact Or.inl rfl | exact Or.inr rfl | (intro _; rfl) | (intro _ _; rfl) | (intro _ _ _; rfl))) (by first | rfl | decide | exact Or.inl rfl | exact Or.inr rfl | (intro _; rfl) | (intro _ _; rfl) | (intro _ _ _; rfl)) (by first | rfl | decide | exact Or.inl rfl | exact Or.inr rfl | (intro _; rfl) | (intro _ _; rfl) | (intro _ _ _; rfl))) (@pss_cons _ _ _ _ _ (@ps_expr _ _ _ _ (@pe_bm _ _ _ _ _ _ _ _ _ _ _ _ (by exact PySem.F.plainAttrs_list) (by exact PySem.F.slot_list_append) (by exact PySem.F.type_list_append) mt_append (pv 3) (@pa_consN _ _ _ _ _ (pv 4) pa_nil (by first | rfl | decide | exact Or.inl rfl | exact Or.inr rfl | (intro _; rfl) | (intro _ _; rfl) | (intro _ _ _; rfl))) (by first | rfl | decide | exact Or.inl rfl | exact Or.inr rfl | (intro _; rfl) | (intro _ _; rfl) | (intro _ _ _; rfl)) (by first | rfl | decide | exact Or.inl rfl | exact Or.inr rfl | (intro _; rfl) | (intro _ _; rfl) | (intro _ _ _; rfl)) (by first | rfl | decide | exact Or.inl rfl | exact Or.inr rfl | (intro _; rfl) | (intro _ _; rfl) | (intro _ _ _; rfl)) (by first | rfl | decide | exact Or.inl rfl | exact Or.inr rfl | (intro _; rfl) | (intro _ _; rfl) | (intro _ _ _; rfl)) (by first | rfl | decide | exact Or.inl rfl | exact Or.inr rfl | (intro _; rfl) | (intro _ _; rfl) | (intro _ _ _; rfl))) (by first | rfl | decide | exact Or.inl rfl | exact Or.inr rfl | (intro _; rfl) | (intro _ _; rfl) | (intro _ _ _; rfl))) (@pss_one _ _ _ (@ps_set _ _ (2) _ _ _ _ (by exact S.nd) (by rfl) (by first | exact Or.inl rfl | exact Or.inr rfl) (@cc _ _ _ _ _ _ _ _ _ _ (by exact C_moved) (by exact (hr.mono (by decide))) (@pa_consN _ _ _ _ _ (pv 2) (@pa_consN _ _ _ _ _ (pv 4) pa_nil (by first | rfl | decide | exact Or.inl rfl | exact Or.inr rfl | (intro _; rfl) | (intro _ _; rfl) | (intro _ _ _; rfl))) (by first | rfl | decide | exact Or.inl rfl | exact Or.inr rfl | (intro _; rfl) | (intro _ _; rfl) | (intro _ _ _; rfl))) (by first | rfl | decide | exact Or.inl rfl | exact Or.inr rfl | (intro _; rfl) | (intro _ _; rfl) | (intro _ _ _; rfl)) (by first | rfl | decide | exact Or.inl rfl | exact Or.inr rfl | (intro _; rfl) | (intro _ _; rfl) | (intro _ _ _; rfl)) (by first | rfl | decide | exact Or.inl rfl | exact Or.inr rfl | (intro _; rfl) | (intro _ _; rfl) | (intro _ _ _; rfl)) (by first | rfl | decide | exact Or.inl rfl | exact Or.inr rfl | (intro _; rfl) | (intro _ _; rfl) | (intro _ _ _; rfl))) (by first | rfl | decide | exact Or.inl rfl | exact Or.inr rfl | (intro _; rfl) | (intro _ _; rfl) | (intro _ _ _; rfl)) (by first | rfl | decide | exact Or.inl rfl | exact Or.inr rfl | (intro _; rfl) | (intro _ _; rfl) | (intro _ _ _; rfl))))))) (@pss_one _ _ _ (@ps_ret _ _ _ _ (pv 3))))))), ?_⟩
  refine ⟨_, rfl, _, rfl, a, b, ns, ms, rfl, ha, hb, al, fun H1 s1 => ?_⟩
  refine ⟨rfl, _, rfl, ?_⟩
  rcases full_or 0 1 ns ms with fo | ⟨i, fo⟩
  · rw [fo]
    refine iteF ?_
    have W0 := way_of al d1 d2 fo
    refine ⟨_, rfl, (by show 0 ≤ sizeLine; exact Nat.zero_le _), fun l hl => ?_⟩
    have s2 := s1.trans (same_new hl (.lst []))
    have hl0 : H l = none := by
      cases e : H l with
      | none => rfl
      | some o => rw [s1 _ _ e] at hl; cases hl
    refine ⟨fun m σ H' => ∃ (lo : Addr) (load : List Int) (zs : List V) (o4 : Option V), σ = [some (.ref a), some (.ref b), some (.ref lo), some (.ref l), o4] ∧ Same H H' ∧ H' lo = some (.tup (iv load)) ∧ H' l = some (.lst zs) ∧ Way ns load ∧ Path H' ns ms zs load ∧ m = far ns load ∧ zs.length + far ns load ≤ far ns ms,
      ⟨far ns ms, b, ms, [], _, rfl, s2, s2 _ _ hb, upd_same, W0, .nil _, rfl, by simp⟩, ?_⟩
    rintro m σ H' ⟨lo, load, zs, o4, rfl, s', hlo, hl', Wl, pth, rfl, hf⟩
    refine ⟨_, rfl, _, rfl, lo, a, _, _, rfl, rfl, SqT.of hlo, SqT.of (s' _ _ ha), flat_iv _, flat_iv _, _, rfl, ?_⟩
    rw [seq_iv]
    by_cases e : load = ns
    · subst e
      rw [decide_eq_true rfl]
      refine iteF ?_
      exact ⟨_, rfl, k2 fo l zs H' s' hl0 hl' pth (by omega)⟩
    · rw [decide_eq_false e]
      refine iteT ⟨fun σ' H' => ∃ m', m' < far ns load ∧ ∃ (lo : Addr) (load : List Int) (zs : List V) (o4 : Option V), σ' = [some (.ref a), some (.ref b), some (.ref lo), some (.ref l), o4] ∧ Same H H' ∧ H' lo = some (.tup (iv load)) ∧ H' l = some (.lst zs) ∧ Way ns load ∧ Path H' ns ms zs load ∧ m' = far ns load ∧ zs.length + far ns load ≤ far ns ms, fun _ _ h => h, ?_⟩
      have ll := Wl.len
      refine ⟨_, rfl, _, rfl, a, lo, ns, load, rfl, s' _ _ ha, hlo, Wl, e, by omega, fun t g s3 H3 sm3 ht Mv => ?_⟩
      have hl3 := sm3 _ _ hl'
      have hlt := far_step Wl Mv
      refine ⟨_, rfl, .inl ⟨rfl, _, SqL.of hl3⟩, _, rfl, l, zs, .ref t, rfl, rfl, hl3, (by rw [sizeLine_eq]; omega), ?_⟩
      have su := same_updN hl0 (s'.trans sm3) (.lst (zs ++ [.ref t]))
      have hlo4 : (upd H3 l (.lst (zs ++ [.ref t]))) lo = some (.tup (iv load)) := by rw [upd_ne (ne_of (sm3 _ _ hlo) hl3 (by intro z; cases z))]; exact sm3 _ _ hlo
      have ht4 : (upd H3 l (.lst (zs ++ [.ref t]))) t = some (.tup [.int (g : Int), .int (s3 : Int)]) := by rw [upd_ne (ne_of ht hl3 (by intro z; cases z))]; exact ht
      have hl4 : (upd H3 l (.lst (zs ++ [.ref t]))) l = some (.lst (zs ++ [.ref t])) := upd_same
      have p4 : Path (upd H3 l (.lst (zs ++ [.ref t]))) ns ms zs load := (pth.same sm3).updL hl3
      generalize upd H3 l (.lst (zs ++ [.ref t])) = H4 at su hlo4 ht4 hl4 p4
      refine ⟨_, rfl, _, rfl, lo, t, load, g, s3, rfl, hlo4, ht4, (by have := Mv.gs; have := Mv.sl; omega), Mv.sl, by omega, fun b5 ms5 H5 s5 hb5 pm od => ?_⟩
      have e5 := moved_eq Wl Mv pm od
      subst e5
      exact ⟨_, hlt, b5, _, zs ++ [.ref t], _, rfl, su.trans s5, hb5, s5 _ _ hl4, Wl.next Mv, (Path.snoc ht4 p4 Wl Mv).same s5, rfl, by simp; omega⟩
  · rw [fo]
    refine iteT ?_
    exact k1 (by rw [fo]; intro z; cases z) H1 s1
theorem joinII {C R : Int → Int → Hp → Prop} {G : Prop} (main : (∀ i a h, C i a h → R i a h) → G) (key : ∀ i a h, C i a h → R i a h) : G := main key
def spOther : Sp := fun vs H Q _ => ∃ (p a : Addr) (ns : List Int) (m : Nat) (B : Int), vs = [.ref p, .ref a] ∧ Pen H p m ∧ m < 50000 ∧ H a = some (.tup (iv ns)) ∧ 1 ≤ ns.length ∧ ns.length ≤ 6 ∧ Sml B ns ∧ (∀ x ∈ ns, 0 ≤ x) ∧
  ∀ (b : Addr) (ms : List Int) (H' : Hp), H' b = some (.tup (iv ms)) → ms.length = ns.length → Sml (B + 20) ms → ms.sum = ns.sum → (∀ x ∈ ms, 0 ≤ x) → ms.Pairwise (· ≥ ·) → Pen H' p (m + 20) → SameX p H H' → Q (.ref b) H'
theorem ok_other (T : Txt2 mg) (C_l_draw : Cal P w K mg base "_law_draw" ["_law_pen_here", "_law_many"] 1 spDraw) (C_l_moved : Cal P w K mg base "_law_moved" ["_law_load_here", "_law_i", "_law_j"] 1 spMovedL) (C_l_can : Cal P w K mg base "_law_can" ["_law_load_here"] 1 spCan)
    (F : FunAt K mg "_law_other" ["_law_pen_here", "_law_load_here"] s_l_other) : Cal P w K mg base "_law_other" ["_law_pen_here", "_law_load_here"] 2 spOther := by
  have S := sc_l_other
  refine F.cal sc_l_other (fun vs H Q E h => ?_) (fun f cdv A outer s H vs Q E hr h => ?_)
  · obtain ⟨p, a, ns, m, B, rfl, _⟩ := h; rfl
  obtain ⟨p, a, ns, m, B, rfl, pen, hm, ha, n1, n6, sm, nn, k⟩ := h
  have hu := hr.units0
  refine ⟨_, (@pss_cons _ _ _ _ _ (@ps_set _ _ (2) _ _ _ _ (by exact S.nd) (by rfl) (by first | exact Or.inl rfl | exact Or.inr rfl) (@cc _ _ _ _ _ _ _ _ _ _ (by exact C_l_draw) (by exact (hr.mono (by decide))) (@pa_consN _ _ _ _ _ (pv 0) (@pa_consN _ _ _ _ _ pe_int pa_nil (by first | rfl | decide | exact Or.inl rfl | exact Or.inr rfl | (intro _; rfl) | (intro _ _; rfl) | (intro _ _ _; rfl))) (by first | rfl | decide | exact Or.inl rfl | exact Or.inr rfl | (intro _; rfl) | (intro _ _; rfl) | (intro _ _ _; rfl))) (by first | rfl | decide | exact Or.inl rfl | exact Or.inr rfl | (intro _; rfl) | (intro _ _; rfl) | (intro _ _ _; rfl)) (by first | rfl | decide | exact Or.inl rfl | exact Or.inr rfl | (intro _; rfl) | (intro _ _; rfl) | (intro _ _ _; rfl)) (by first | rfl | decide | exact Or.inl rfl | exact Or.inr rfl | (intro _; rfl) | (intro _ _; rfl) | (intro _ _ _; rfl)) (by first | rfl | decide | exact Or.inl rfl | exact Or.inr rfl | (intro _; rfl) | (intro _ _; rfl) | (intro _ _ _; rfl))) (by first | rfl | decide | exact Or.inl rfl | exact Or.inr rfl | (intro _; rfl) | (intro _ _; rfl) | (intro _ _ _; rfl)) (by first | rfl | decide | exact Or.inl rfl | exact Or.inr rfl | (intro _; rfl) | (intro _ _; rfl) | (intro _ _ _; rfl))) (@pss_cons _ _ _ _ _ (@ps_set _ _ (3) _ _ _ _ (by exact S.nd) (by rfl) (by first | exact Or.inl rfl | exact Or.inr rfl) (@pe_callTy _ _ _ _ _ _ _ _ _ call_list_of (by rfl) (by exact T.z_list) (by exact bt_list) (@pa_consN _ _ _ _ _ (pv 1) pa_nil (by first | rfl | decide | exact Or.inl rfl | exact Or.inr rfl | (intro _; rfl) | (intro _ _; rfl) | (intro _ _ _; rfl))) (by first | rfl | decide | exact Or.inl rfl | exact Or.inr rfl | (intro _; rfl) | (intro _ _; rfl) | (intro _ _ _; rfl)) (by first | rfl | decide | exact Or.inl rfl | exact Or.inr rfl | (intro _; rfl) | (intro _ _; rfl) | (intro _ _ _; rfl)) (by first | rfl | decide | exact Or.inl rfl | exact Or.inr rfl | (intro _; rfl) | (intro _ _; rfl) | (intro _ _ _; rfl)) (by first | rfl | decide | exact Or.inl rfl | exact Or.inr rfl | (intro _; rfl) | (intro _ _; rfl) | (intro _ _ _; rfl))) (by first | rfl | decide | exact Or.inl rfl | exact Or.inr rfl | (intro _; rfl) | (intro _ _; rfl) | (intro _ _ _; rfl)) (by first | rfl | decide | exact Or.inl rfl | exact Or.inr rfl | (intro _; rfl) | (intro _ _; rfl) | (intro _ _ _; rfl))) (@pss_cons _ _ _ _ _ (@ps_for _ _ _ _ _ _ _ _ (by exact PassesOwn.never) (by rfl) (@pi_range1 _ _ _ _ _ _ (by rfl) (by exact T.z_range) (@pa_consN _ _ _ _ _ (@cc _ _ _ _ _ _ _ _ _ _ (by exact C_l_draw) (by exact (hr.mono (by decide))) (@pa_consN _ _ _ _ _ (pv 0) (@pa_consN _ _ _ _ _ pe_int pa_nil (by first | rfl | decide | exact Or.inl rfl | exact Or.inr rfl | (intro _; rfl) | (intro _ _; rfl) | (intro _ _ _; rfl))) (by first | rfl | decide | exact Or.inl rfl | exact Or.inr rfl | (intro _; rfl) | (intro _ _; rfl) | (intro _ _ _; rfl))) (by first | rfl | decide | exact Or.inl rfl | exact Or.inr rfl | (intro _; rfl) | (intro _ _; rfl) | (intro _ _ _; rfl)) (by first | rfl | decide | exact Or.inl rfl | exact Or.inr rfl | (intro _; rfl) | (intro _ _; rfl) | (intro _ _ _; rfl)) (by first | rfl | decide | exact Or.inl rfl | exact Or.inr rfl | (intro _; rfl) | (intro _ _; rfl) | (intro _ _ _; rfl)) (by first | rfl | decide | exact Or.inl rfl | exact Or.inr rfl | (intro _; rfl) | (intro _ _; rfl) | (intro _ _ _; rfl))) pa_nil (by first | rfl | decide | exact Or.inl rfl | exact Or.inr rfl | (intro _; rfl) | (intro _ _; rfl) | (intro _ _ _; rfl))) (by first | rfl | decide | exact Or.inl rfl | exact Or.inr rfl | (intro _; rfl) | (intro _ _; rfl) | (intro _ _ _; rfl))) (@pg_name _ _ (4) _ (by exact S.nd) (by rfl) (by first | exact Or.inl rfl | exact Or.inr rfl) (by first | rfl | decide | exact Or.inl rfl | exact Or.inr rfl | (intro _; rfl) | (intro _ _; rfl) | (intro _ _ _; rfl))) (@pss_cons _ _ _ _ _ (@ps_set _ _ (5) _ _ _ _ (by exact S.nd) (by rfl) (by first | exact Or.inl rfl | exact Or.inr rfl) (@cc _ _ _ _ _ _ _ _ _ _ (by exact C_l_can) (by exact (hr.mono (by decide))) (@pa_consN _ _ _ _ _ (@pe_callTy _ _ _ _ _ _ _ _ _ call_tuple_of (by rfl) (by exact T.z_tuple) (by exact bt_tuple) (@pa_consN _ _ _ _ _ (pv 3) pa_nil (by first | rfl | decide | exact Or.inl rfl | exact Or.inr rfl | (intro _; rfl) | (intro _ _; rfl) | (intro _ _ _; rfl))) (by first | rfl | decide | exact Or.inl rfl | exact Or.inr rfl | (intro _; rfl) | (intro _ _; rfl) | (intro _ _ _; rfl)) (by first | rfl | decide | exact Or.inl rfl | exact Or.inr rfl | (intro _; rfl) | (intro _ _; rfl) | (intro _ _ _; rfl)) (by first | rfl | decide | exact Or.inl rfl | exact Or.inr rfl | (intro _; rfl) | (intro _ _; rfl) | (intro _ _ _; rfl)) (by first | rfl | decide | exact Or.inl rfl | exact Or.inr rfl | (intro _; rfl) | (intro _ _; rfl) | (intro _ _ _; rfl))) pa_nil (by first | rfl | decide | exact Or.inl rfl | exact Or.inr rfl | (intro _; rfl) | (intro _ _; rfl) | (intro _ _ _; rfl))) (by first | rfl | decide | exact Or.inl rfl | exact Or.inr rfl | (intro _; rfl) | (intro _ _; rfl) | (intro _ _ _; rfl)) (by first | rfl | decide | exact Or.inl rfl | exact Or.inr rfl | (intro _; rfl) | (intro _ _; rfl) | (intro _ _ _; rfl)) (by first | rfl | decide | exact Or.inl rfl | exact Or.inr rfl | (intro _; rfl) | (intro _ _; rfl) | (intro _ _ _; rfl)) (by first | rfl | decide | exact Or.inl rfl | exact Or.inr rfl | (intro _; rfl) | (intro _ _; rfl) | (intro _ _ _; rfl))) (by first | rfl | decide | exact Or.inl rfl | exact Or.inr rfl | (intro _; rfl) | (intro _ _; rfl) | (intro _ _ _; rfl)) (by first | rfl | decide | exact Or.inl rfl | exact Or.inr rfl | (intro _; rfl) | (intro _ _; rfl) | (intro _ _ _; rfl))) (@pss_cons _ _ _ _ _ (@ps_set _ _ (6) _ _ _ _ (by exact S.nd) (by rfl) (by first | exact Or.inl rfl | exact Or.inr rfl) (@cc _ _ _ _ _ _ _ _ _ _ (by exact C_l_draw) (by exact (hr.mono (by decide))) (@pa_consN _ _ _ _ _ (pv 0) (@pa_consN _ _ _ _ _ (@pe_callB _ _ _ _ _ _ _ _ _ call_len_seq (by rfl) (by exact T.z_len) (by exact bt_len) (@pa_consN _ _ _ _ _ (pv 1) pa_nil (by first | rfl | decide | exact Or.inl rfl | exact Or.inr rfl | (intro _; rfl) | (intro _ _; rfl) | (intro _ _ _; rfl))) (by first | rfl | decide | exact Or.inl rfl | exact Or.inr rfl | (intro _; rfl) | (intro _ _; rfl) | (intro _ _ _; rfl)) (by first | rfl | decide | exact Or.inl rfl | exact Or.inr rfl | (intro _; rfl) | (intro _ _; rfl) | (intro _ _ _; rfl)) (by first | rfl | decide | exact Or.inl rfl | exact Or.inr rfl | (intro _; rfl) | (intro _ _; rfl) | (intro _ _ _; rfl)) (by first | rfl | decide | exact Or.inl rfl | exact Or.inr rfl | (intro _; rfl) | (intro _ _; rfl) | (intro _ _ _; rfl))) pa_nil (by first | rfl | decide | exact Or.inl rfl | exact Or.inr rfl | (intro _; rfl) | (intro _ _; rfl) | (intro _ _ _; rfl))) (by first | rfl | decide | exact Or.inl rfl | exact Or.inr rfl | (intro _; rfl) | (intro _ _; rfl) | (intro _ _ _; rfl))) (by first | rfl | decide | exact Or.inl rfl | exact Or.inr rfl | (intro _; rfl) | (intro _ _; rfl) | (intro _ _ _; rfl)) (by first | rfl | decide | exact Or.inl rfl | exact Or.inr rfl | (intro _; rfl) | (intro _ _; rfl) | (intro _ _ _; rfl)) (by first | rfl | decide | exact Or.inl rfl | exact Or.inr rfl | (intro _; rfl) | (intro _ _; rfl) | (intro _ _ _; rfl)) (by first | rfl | decide | exact Or.inl rfl | exact Or.inr rfl | (intro _; rfl) | (intro _ _; rfl) | (intro _ _ _; rfl))) (by first | rfl | decide | exact Or.inl rfl | exact Or.inr rfl | (intro _; rfl) | (intro _ _; rfl) | (intro _ _ _; rfl)) (by first | rfl | decide | exact Or.inl rfl | exact Or.inr rfl | (intro _; rfl) | (intro _ _; rfl) | (intro _ _ _; rfl))) (@pss_cons _ _ _ _ _ (@ps_set _ _ (7) _ _ _ _ (by exact S.nd) (by rfl) (by first | exact Or.inl rfl | exact Or.inr rfl) (@cc _ _ _ _ _ _ _ _ _ _ (by exact C_l_draw) (by exact (hr.mono (by decide))) (@pa_consN _ _ _ _ _ (pv 0) (@pa_consN _ _ _ _ _ (@pe_callB _ _ _ _ _ _ _ _ _ call_len_seq (by rfl) (by exact T.z_len) (by exact bt_len) (@pa_consN _ _ _ _ _ (pv 1) pa_nil (by first | rfl | decide | exact Or.inl rfl | exact Or.inr rfl | (intro _; rfl) | (intro _ _; rfl) | (intro _ _ _; rfl))) (by first | rfl | decide | exact Or.inl rfl | exact Or.inr rfl | (intro _; rfl) | (intro _ _; rfl) | (intro _ _ _; rfl)) (by first | rfl | decide | exact Or.inl rfl | exact Or.inr rfl | (intro _; rfl) | (intro _ _; rfl) | (intro _ _ _; rfl)) (by first | rfl | decide | exact Or.inl rfl | exact Or.inr rfl | (intro _; rfl) | (intro _ _; rfl) | (intro _ _ _; rfl)) (by first | rfl | decide | exact Or.inl rfl | exact Or.inr rfl | (intro _; rfl) | (intro _ _; rfl) | (intro _ _ _; rfl))) pa_nil (by first | rfl | decide | exact Or.inl rfl | exact Or.inr rfl | (intro _; rfl) | (intro _ _; rfl) | (intro _ _ _; rfl))) (by first | rfl | decide | exact Or.inl rfl | exact Or.inr rfl | (intro _; rfl) | (intro _ _; rfl) | (intro _ _ _; rfl))) (by first | rfl | decide | exact Or.inl rfl | exact Or.inr rfl | (intro _; rfl) | (intro _ _; rfl) | (intro _ _ _; rfl)) (by first | rfl | decide | exact Or.inl rfl | exact Or.inr rfl | (intro _; rfl) | (intro _ _; rfl) | (intro _ _ _; rfl)) (by first | rfl | decide | exact Or.inl rfl | exact Or.inr rfl | (intro _; rfl) | (intro _ _; rfl) | (intro _ _ _; rfl)) (by first | rfl | decide | exact Or.inl rfl | exact Or.inr rfl | (intro _; rfl) | (intro _ _; rfl) | (intro _ _ _; rfl))) (by first | rfl | decide | exact Or.inl rfl | exact Or.inr rfl | (intro _; rfl) | (intro _ _; rfl) | (intro _ _ _; rfl)) (by first | rfl | decide | exact Or.inl rfl | exact Or.inr rfl | (intro _; rfl) | (intro _ _; rfl) | (intro _ _ _; rfl))) (@pss_cons _ _ _ _ _ (@ps_if _ _ _ _ _ _ _ _ (@PW.pt _ _ _ (@pw_and _ _ _ _ _ _ _ (@pt_cmpR _ _ _ _ _ _ _ _ op_eq (pv 2) pe_int (by exact (nomark _))) (@pw_and1 _ _ _ _ (@pt_cmpR _ _ _ _ _ _ _ _ (op_neE hu) (pv 5) (@pe_lst _ _ _ _ pa_nil) (by exact (nomark _)))))) (@pss_one _ _ _ (@ps_asg _ _ _ _ _ _ (@pe_ix _ _ _ _ _ _ _ ix_list (pv 5) (@cc _ _ _ _ _ _ _ _ _ _ (by exact C_l_draw) (by exact (hr.mono (by decide))) (@pa_consN _ _ _ _ _ (pv 0) (@pa_consN _ _ _ _ _ (@pe_callB _ _ _ _ _ _ _ _ _ call_len_seq (by rfl) (by exact T.z_len) (by exact bt_len) (@pa_consN _ _ _ _ _ (pv 5) pa_nil (by first | rfl | decide | exact Or.inl rfl | exact Or.inr rfl | (intro _; rfl) | (intro _ _; rfl) | (intro _ _ _; rfl))) (by first | rfl | decide | exact Or.inl rfl | exact Or.inr rfl | (intro _; rfl) | (intro _ _; rfl) | (intro _ _ _; rfl)) (by first | rfl | decide | exact Or.inl rfl | exact Or.inr rfl | (intro _; rfl) | (intro _ _; rfl) | (intro _ _ _; rfl)) (by first | rfl | decide | exact Or.inl rfl | exact Or.inr rfl | (intro _; rfl) | (intro _ _; rfl) | (intro _ _ _; rfl)) (by first | rfl | decide | exact Or.inl rfl | exact Or.inr rfl | (intro _; rfl) | (intro _ _; rfl) | (intro _ _ _; rfl))) pa_nil (by first | rfl | decide | exact Or.inl rfl | exact Or.inr rfl | (intro _; rfl) | (intro _ _; rfl) | (intro _ _ _; rfl))) (by first | rfl | decide | exact Or.inl rfl | exact Or.inr rfl | (intro _; rfl) | (intro _ _; rfl) | (intro _ _ _; rfl))) (by first | rfl | decide | exact Or.inl rfl | exact Or.inr rfl | (intro _; rfl) | (intro _ _; rfl) | (intro _ _ _; rfl)) (by first | rfl | decide | exact Or.inl rfl | exact Or.inr rfl | (intro _; rfl) | (intro _ _; rfl) | (intro _ _ _; rfl)) (by first | rfl | decide | exact Or.inl rfl | exact Or.inr rfl | (intro _; rfl) | (intro _ _; rfl) | (intro _ _ _; rfl)) (by first | rfl | decide | exact Or.inl rfl | exact Or.inr rfl | (intro _; rfl) | (intro _ _; rfl) | (intro _ _ _; rfl))) (by exact (fun _ _ => rfl))) (@pg_tup _ _ _ _ _ _ (by rfl) (@pgs_cons _ _ _ _ _ (@pg_name _ _ (6) _ (by exact S.nd) (by rfl) (by first | exact Or.inl rfl | exact Or.inr rfl) (by first | rfl | decide | exact Or.inl rfl | exact Or.inr rfl | (intro _; rfl) | (intro _ _; rfl) | (intro _ _ _; rfl))) (@pgs_cons _ _ _ _ _ (@pg_name _ _ (7) _ (by exact S.nd) (by rfl) (by first | exact Or.inl rfl | exact Or.inr rfl) (by first | rfl | decide | exact Or.inl rfl | exact Or.inr rfl | (intro _; rfl) | (intro _ _; rfl) | (intro _ _ _; rfl))) pgs_nil (by first | rfl | decide | exact Or.inl rfl | exact Or.inr rfl | (intro _; rfl) | (intro _ _; rfl) | (intro _ _ _; rfl))) (by first | rfl | decide | exact Or.inl rfl | exact Or.inr rfl | (intro _; rfl) | (intro _ _; rfl) | (intro _ _ _; rfl))) (by first | rfl | decide | exact Or.inl rfl | exact Or.inr rfl | (intro _; rfl) | (intro _ _; rfl) | (intro _ _ _; rfl)) (by first | rfl | decide | exact Or.inl rfl | exact Or.inr rfl | (intro _; rfl) | (intro _ _; rfl) | (intro _ _ _; rfl))) (by first | rfl | decide | exact Or.inl rfl | exact Or.inr rfl | (intro _; rfl) | (intro _ _; rfl) | (intro _ _ _; rfl)) (by first | rfl | decide | exact Or.inl rfl | exact Or.inr rfl | (intro _; rfl) | (intro _ _; rfl) | (intro _ _ _; rfl)) (by first | rfl | decide | exact Or.inl rfl | exact Or.inr rfl | (intro _; rfl) | (intro _ _; rfl) | (intro _ _ _; rfl)))) pss_nil) (@pss_cons _ _ _ _ _ (@ps_if _ _ _ _ _ _ _ _ (@pt_cmpR _ _ _ _ _ _ _ _ op_eq (pv 2) pe_int (by exact (nomark _))) (@pss_one _ _ _ (@ps_par _ _ (6) (7) _ _ _ _ _ _ _ _ _ _ _ (by rfl) (by exact S.nd) (by rfl) (by rfl) (by decide) (by rfl) (by rfl) (@pa_consN _ _ _ _ _ (@pe_callB _ _ _ _ _ _ _ _ _ (call_max2 (by rfl)) (by rfl) (by exact T.z_max) (by exact bt_max) (@pa_consN _ _ _ _ _ (pv 6) (@pa_consN _ _ _ _ _ (pv 7) pa_nil (by first | rfl | decide | exact Or.inl rfl | exact Or.inr rfl | (intro _; rfl) | (intro _ _; rfl) | (intro _ _ _; rfl))) (by first | rfl | decide | exact Or.inl rfl | exact Or.inr rfl | (intro _; rfl) | (intro _ _; rfl) | (intro _ _ _; rfl))) (by first | rfl | decide | exact Or.inl rfl | exact Or.inr rfl | (intro _; rfl) | (intro _ _; rfl) | (intro _ _ _; rfl)) (by first | rfl | decide | exact Or.inl rfl | exact Or.inr rfl | (intro _; rfl) | (intro _ _; rfl) | (intro _ _ _; rfl)) (by first | rfl | decide | exact Or.inl rfl | exact Or.inr rfl | (intro _; rfl) | (intro _ _; rfl) | (intro _ _ _; rfl)) (by first | rfl | decide | exact Or.inl rfl | exact Or.inr rfl | (intro _; rfl) | (intro _ _; rfl) | (intro _ _ _; rfl))) (@pa_consN _ _ _ _ _ (@pe_callB _ _ _ _ _ _ _ _ _ (call_min2 (by rfl)) (by rfl) (by exact T.z_min) (by exact bt_min) (@pa_consN _ _ _ _ _ (pv 6) (@pa_consN _ _ _ _ _ (pv 7) pa_nil (by first | rfl | decide | exact Or.inl rfl | exact Or.inr rfl | (intro _; rfl) | (intro _ _; rfl) | (intro _ _ _; rfl))) (by first | rfl | decide | exact Or.inl rfl | exact Or.inr rfl | (intro _; rfl) | (intro _ _; rfl) | (intro _ _ _; rfl))) (by first | rfl | decide | exact Or.inl rfl | exact Or.inr rfl | (intro _; rfl) | (intro _ _; rfl) | (intro _ _ _; rfl)) (by first | rfl | decide | exact Or.inl rfl | exact Or.inr rfl | (intro _; rfl) | (intro _ _; rfl) | (intro _ _ _; rfl)) (by first | rfl | decide | exact Or.inl rfl | exact Or.inr rfl | (intro _; rfl) | (intro _ _; rfl) | (intro _ _ _; rfl)) (by first | rfl | decide | exact Or.inl rfl | exact Or.inr rfl | (intro _; rfl) | (intro _ _; rfl) | (intro _ _ _; rfl))) pa_nil (by first | rfl | decide | exact Or.inl rfl | exact Or.inr rfl | (intro _; rfl) | (intro _ _; rfl) | (intro _ _ _; rfl))) (by first | rfl | decide | exact Or.inl rfl | exact Or.inr rfl | (intro _; rfl) | (intro _ _; rfl) | (intro _ _ _; rfl))) (by rfl) (by first | rfl | decide | exact Or.inl rfl | exact Or.inr rfl | (intro _; rfl) | (intro _ _; rfl) | (intro _ _ _; rfl)))) pss_nil) (@pss_one _ _ _ (@ps_if _ _ _ _ _ _ _ _ (@pt_cmpR _ _ _ _ _ _ _ _ op_gt (@pe_ix _ _ _ _ _ _ _ ix_list (pv 3) (pv 6) (by exact (fun _ _ => rfl))) pe_int (by exact (nomark _))) (@pss_one _ _ _ (@ps_set _ _ (3) _ _ _ _ (by exact S.nd) (by rfl) (by first | exact Or.inl rfl | exact Or.inr rfl) (@pe_callTy _ _ _ _ _ _ _ _ _ call_list_of (by rfl) (by exact T.z_list) (by exact bt_list) (@pa_consN _ _ _ _ _ (@cc _ _ _ _ _ _ _ _ _ _ (by exact C_l_moved) (by exact (hr.mono (by decide))) (@pa_consN _ _ _ _ _ (@pe_callTy _ _ _ _ _ _ _ _ _ call_tuple_of (by rfl) (by exact T.z_tuple) (by exact bt_tuple) (@pa_consN _ _ _ _ _ (pv 3) pa_nil (by first | rfl | decide | exact Or.inl rfl | exact Or.inr rfl | (intro _; rfl) | (intro _ _; rfl) | (intro _ _ _; rfl))) (by first | rfl | decide | exact Or.inl rfl | exact Or.inr rfl | (intro _; rfl) | (intro _ _; rfl) | (intro _ _ _; rfl)) (by first | rfl | decide | exact Or.inl rfl | exact Or.inr rfl | (intro _; rfl) | (intro _ _; rfl) | (intro _ _ _; rfl)) (by first | rfl | decide | exact Or.inl rfl | exact Or.inr rfl | (intro _; rfl) | (intro _ _; rfl) | (intro _ _ _; rfl)) (by first | rfl | decide | exact Or.inl rfl | exact Or.inr rfl | (intro _; rfl) | (intro _ _; rfl) | (intro _ _ _; rfl))) (@pa_consN _ _ _ _ _ (pv 6) (@pa_consN _ _ _ _ _ (pv 7) pa_nil (by first | rfl | decide | exact Or.inl rfl | exact Or.inr rfl | (intro _; rfl) | (intro _ _; rfl) | (intro _ _ _; rfl))) (by first | rfl | decide | exact Or.inl rfl | exact Or.inr rfl | (intro _; rfl) | (intro _ _; rfl) | (intro _ _ _; rfl))) (by first | rfl | decide | exact Or.inl rfl | exact Or.inr rfl | (intro _; rfl) | (intro _ _; rfl) | (intro _ _ _; rfl))) (by first | rfl | decide | exact Or.inl rfl | exact Or.inr rfl | (intro _; rfl) | (intro _ _; rfl) | (intro _ _ _; rfl)) (by first | rfl | decide | exact Or.inl rfl | exact Or.inr rfl | (intro _; rfl) | (intro _ _; rfl) | (intro _ _ _; rfl)) (by first | rfl | decide | exact Or.inl rfl | exact Or.inr rfl | (intro _; rfl) | (intro _ _; rfl) | (intro _ _ _; rfl)) (by first | rfl | decide | exact Or.inl rfl | exact Or.inr rfl | (intro _; rfl) | (intro _ _; rfl) | (intro _ _ _; rfl))) pa_nil (by first | rfl | decide | exact Or.inl rfl | exact Or.inr rfl | (intro _; rfl) | (intro _ _; rfl) | (intro _ _ _; rfl))) (by first | rfl | decide | exact Or.inl rfl | exact Or.inr rfl | (intro _; rfl) | (intro _ _; rfl) | (intro _ _ _; rfl)) (by first | rfl | decide | exact Or.inl rfl | exact Or.inr rfl | (intro _; rfl) | (intro _ _; rfl) | (intro _ _ _; rfl)) (by first | rfl | decide | exact Or.inl rfl | exact Or.inr rfl | (intro _; rfl) | (intro _ _; rfl) | (intro _ _ _; rfl)) (by first | rfl | decide | exact Or.inl rfl | exact Or.inr rfl | (intro _; rfl) | (intro _ _; rfl) | (intro _ _ _; rfl))) (by first | rfl | decide | exact Or.inl rfl | exact Or.inr rfl | (intro _; rfl) | (intro _ _; rfl) | (intro _ _ _; rfl)) (by first | rfl | decide | exact Or.inl rfl | exact Or.inr rfl | (intro _; rfl) | (intro _ _; rfl) | (intro _ _ _; rfl)))) pss_nil))))))) (by first | rfl | decide | exact Or.inl rfl | exact Or.inr rfl | (intro _; rfl) | (intro _ _; rfl) | (intro _ _ _; rfl))) (@pss_one _ _ _ (@ps_ret _ _ _ _ (@pe_callTy _ _ _ _ _ _ _ _ _ call_tuple_of (by rfl) (by exact T.z_tuple) (by exact bt_tuple) (@pa_consN _ _ _ _ _ (@pe_sortedR _ _ _ _ _ _ _ _ _ (by rfl) (by exact T.z_sorted) (@pa_consN _ _ _ _ _ (pv 3) pa_nil (by first | rfl | decide | exact Or.inl rfl | exact Or.inr rfl | (intro _; rfl) | (intro _ _; rfl) | (intro _ _ _; rfl))) (by first | rfl | decide | exact Or.inl rfl | exact Or.inr rfl | (intro _; rfl) | (intro _ _; rfl) | (intro _ _ _; rfl)) (by first | rfl | decide | exact Or.inl rfl | exact Or.inr rfl | (intro _; rfl) | (intro _ _; rfl) | (intro _ _ _; rfl))) pa_nil (by first | rfl | decide | exact Or.inl rfl | exact Or.inr rfl | (intro _; rfl) | (intro _ _; rfl) | (intro _ _ _; rfl))) (by first | rfl | decide | exact Or.inl rfl | exact Or.inr rfl | (intro _; rfl) | (intro _ _; rfl) | (intro _ _ _; rfl)) (by first | rfl | decide | exact Or.inl rfl | exact Or.inr rfl | (intro _; rfl) | (intro _ _; rfl) | (intro _ _ _; rfl)) (by first | rfl | decide | exact Or.inl rfl | exact Or.inr rfl | (intro _; rfl) | (intro _ _; rfl) | (intro _ _ _; rfl)) (by first | rfl | decide | exact Or.inl rfl | exact Or.inr rfl | (intro _; rfl) | (intro _ _; rfl) | (intro _ _ _; rfl)))))))), ?_⟩
  refine ⟨_, rfl, p, _, _, rfl, pen, by omega, by decide, by decide, fun way H1 w0 w1 pen1 x1 => ?_⟩
  have ha1 := pen.keep x1 ha
  refine ⟨_, rfl, a, _, rfl, .inr (SqT.of ha1), fun l hl => ?_⟩
  have s2 := same_new hl (.lst (iv ns))
  have hl2 : (upd H1 l (.lst (iv ns))) l = some (.lst (iv ns)) := upd_same
  have pen2 := pen1.same s2
  have x2 := x1.trans s2.x
  generalize upd H1 l (.lst (iv ns)) = H2 at s2 hl2 pen2 x2
  refine ⟨_, rfl, p, _, _, rfl, pen2, by omega, by decide, by decide, fun n H3 n0 n5 pen3 x3 => ?_⟩
  refine ⟨n, rfl, by omega, by omega, for_range (n := n.toNat) (fun i σ H' => (∃ o4 o5 o6 o7, ∃ (l' : Addr) (ms : List Int), σ = [some (.ref p), some (.ref a), some (.int way), some (.ref l'), o4, o5, o6, o7] ∧ H' l' = some (.lst (iv ms)) ∧ ms.length = ns.length ∧ Sml (B + 2 * i) ms ∧ ms.sum = ns.sum ∧ ∀ x ∈ ms, 0 ≤ x) ∧ Pen H' p (m + 2 + 3 * i) ∧ SameX p H H')
    ⟨⟨_, _, _, _, l, ns, rfl, pen2.keep x3 hl2, rfl, sm.mono (by omega), rfl, nn⟩, pen3, x2.trans x3⟩ ?_ ?_⟩
  · rintro i σ H4 hi ⟨⟨o4, o5, o6, o7, l', ms, rfl, hl', lm, sm', su', nn'⟩, pen4, x4⟩
    have ha4 := pen.keep x4 ha
    refine ⟨_, rfl, l', iv ms, rfl, .inl ⟨SqL.of hl', fun t ht => ?_⟩⟩
    have s5 := same_new ht (.tup (iv ms))
    refine ⟨t, ms, rfl, upd_same, by omega, fun lc zs H5 s5' hlc zl hzs _ => ?_⟩
    have s45 := s5.trans s5'
    have ht5 := s5' _ _ (upd_same (H := H4) (a := t) (o := .tup (iv ms)))
    have ha5 := s45 _ _ ha4
    have hl5 := s45 _ _ hl'
    have pen5 := pen4.same s45
    have x5 := x4.trans s45.x
    apply joinII (C := fun i' j' H' => 0 ≤ i' ∧ i' < ns.length ∧ 0 ≤ j' ∧ j' < ns.length ∧ H' l' = some (.lst (iv ms)) ∧ Pen H' p (m + 5 + 3 * i) ∧ SameX p H H')
    case main =>
      intro key
      refine ⟨_, rfl, _, rfl, a, _, rfl, .inr (SqT.of ha5), p, _, _, rfl, pen5, by omega, by simp; omega, by simp; omega, fun d1 H6 d10 d11 pen6 x6 => ?_⟩
      refine ⟨_, rfl, _, rfl, a, _, rfl, .inr (SqT.of (pen5.keep x6 ha5)), p, _, _, rfl, pen6, by omega, by simp; omega, by simp; omega, fun d2 H7 d20 d21 pen7 x7 => ?_⟩
      have x57 := x6.trans x7
      have hl7 := pen5.keep x57 hl5
      have hlc7 := pen5.keep x57 hlc
      have x07 := x5.trans x57
      rw [List.length_map] at d11 d21
      refine ⟨_, rfl, rfl, _, rfl, ?_⟩
      refine ite2 (fun c0 => ?tt) (fun c0 => ?ff)
      case ff =>
        refine iteF ?_
        refine ⟨_, rfl, rfl, _, rfl, ?_⟩
        refine ite2 (fun c1 => ?t1) (fun c1 => ?f1)
        case f1 => exact key d1 d2 H7 ⟨d10, by omega, d20, by omega, hl7, pen7.mono (by omega), x07⟩
        case t1 =>
          refine ⟨_, rfl, _, rfl, _, _, rfl, _, rfl, _, rfl, _, _, rfl, _, _, rfl, ?_⟩
          refine key (if d2 > d1 then d2 else d1) (if d2 < d1 then d2 else d1) H7 ⟨?_, ?_, ?_, ?_, hl7, pen7.mono (by omega), x07⟩ <;> split <;> omega
      case tt =>
        have w00 : way = 0 := V.int.inj (of_decide_eq_true c0)
        refine ⟨_, rfl, (by show 0 ≤ sizeLine; exact Nat.zero_le _), fun q hq => ?_⟩
        have s8 := same_new hq (.lst [])
        refine ⟨lc, q, zs, rfl, rfl, s8 _ _ hlc7, upd_same, _, rfl, ?_⟩
        have pen8 := pen7.same s8
        have x08 := x07.trans s8.x
        refine ite2 (fun c2 => ?_) (fun c2 => ?_)
        · have zne : zs ≠ [] := of_decide_eq_true c2
          have zpos : 0 < zs.length := List.length_pos_iff.mpr zne
          refine ⟨_, rfl, _, rfl, _, rfl, lc, _, rfl, .inl (SqL.of (s8 _ _ hlc7)), p, _, _, rfl, pen8, by omega, by omega, by omega, fun d3 H9 d30 d31 pen9 x9 => ?_⟩
          obtain ⟨D3, rfl⟩ : ∃ D3 : Nat, d3 = (D3 : Int) := ⟨d3.toNat, by omega⟩
          have hD3 : D3 < zs.length := by omega
          obtain ⟨t3, i3, j3, e3, ht3, hi3, hj3⟩ := hzs zs[D3] (List.getElem_mem hD3)
          have x59 := (x57.trans s8.x).trans x9
          refine ⟨lc, zs, _, zs[D3], rfl, rfl, SqL.of (pen8.keep x9 (s8 _ _ hlc7)), atI_nat (List.getElem?_eq_getElem hD3), t3, _, e3, SqT.of (pen5.keep x59 ht3), rfl, _, _, rfl, _, _, rfl, rfl, ?_⟩
          refine ⟨_, rfl, rfl, _, rfl, ite2 (fun c => absurd (V.int.inj (of_decide_eq_true c)) (by omega)) (fun _ => ?_)⟩
          exact key _ _ H9 ⟨by omega, by omega, by omega, by omega, pen5.keep x59 hl5, pen9.mono (by omega), x5.trans x59⟩
        · refine ⟨_, rfl, rfl, _, rfl, ite2 (fun c => absurd (V.int.inj (of_decide_eq_true c)) (by omega)) (fun _ => ?_)⟩
          exact key _ _ _ ⟨d10, by omega, d20, by omega, s8 _ _ hl7, pen8.mono (by omega), x08⟩
    case key =>
      rintro i' j' H8 ⟨i0, i1, j0, j1, hl8, pen8, x8⟩
      obtain ⟨I, rfl⟩ : ∃ I : Nat, i' = (I : Int) := ⟨i'.toNat, by omega⟩
      obtain ⟨J, rfl⟩ : ∃ J : Nat, j' = (J : Int) := ⟨j'.toNat, by omega⟩
      have hI : I < ms.length := by omega
      have hJ : J < ms.length := by omega
      have hx : ms[I]? = some ms[I] := List.getElem?_eq_getElem hI
      refine ⟨_, rfl, _, rfl, l', _, _, _, rfl, rfl, SqL.of hl8, atI_iv hx, _, _, rfl, rfl, _, rfl, ?_⟩
      refine ite2 (fun cg => ?_) (fun _ => ?_)
      · have cg' : 0 < ms[I] := of_decide_eq_true cg
        refine ⟨_, rfl, l', iv ms, rfl, .inl ⟨SqL.of hl8, fun t9 ht9 => ?_⟩⟩
        have s9 := same_new ht9 (.tup (iv ms))
        refine ⟨_, rfl, _, rfl, t9, ms, I, J, rfl, upd_same, hI, hJ, by omega, fun b rs H9 s9' hb pm od => ?_⟩
        have lr : rs.length = ms.length := by rw [pm.length_eq]; simp [mvF]
        have br := mv_sml sm' hI hJ pm
        refine ⟨b, _, rfl, .inr (SqT.of hb), fun l2 hl2 => ?_⟩
        have s10 := (s9.trans s9').trans (same_new hl2 (.lst (iv rs)))
        exact ⟨⟨_, _, _, _, l2, rs, rfl, upd_same, by omega, fun x hx => by have := br x hx; omega, by rw [mv_sum hI hJ pm, su'], mv_nn nn' hI hJ cg' pm⟩, (pen8.same s10).mono (by omega), x8.trans s10.x⟩
      · exact ⟨⟨_, _, _, _, l', ms, rfl, hl8, lm, sm'.mono (by omega), su', nn'⟩, pen8.mono (by omega), x8⟩
  · rintro σ H4 ⟨⟨o4, o5, o6, o7, l', ms, rfl, hl', lm, sm', su', nn'⟩, pen4, x4⟩
    refine ⟨_, rfl, l', ms, rfl, hl', by omega, fun q rs hq pm od => ?_⟩
    have s5 := same_new hq (.lst (iv rs))
    refine ⟨q, iv rs, rfl, .inl ⟨SqL.of upd_same, fun t ht => ?_⟩⟩
    have s6 := s5.trans (same_new ht (.tup (iv rs)))
    exact k t rs _ upd_same (by rw [pm.length_eq]; exact lm) (fun x hx => by have := sm' x (pm.mem_iff.mp hx); omega) (by rw [perm_sum pm, su']) (fun x hx => nn' x (pm.mem_iff.mp hx)) od ((pen4.same s6).mono (by omega)) (x4.trans s6.x)
end
end My

set_option Elab.async false
set_option linter.all false
set_option maxRecDepth 100000
set_option maxHeartbeats 4000000
namespace My
open PySem L2 MA
/-- a walk by moves that may be made, any -/
inductive Walk (H : Hp) : List Int → List V → List Int → Prop
  | nil (a) : Walk H a [] a
  | cons {a b : List Int} {zs : List V} {c : List Int} {t : Addr} {i j : Nat} (hi : i < a.length) (hj : j < a.length) : H t = some (.tup [.int (i : Int), .int (j : Int)]) → a[i] - a[j] > 1 → b.Perm (mvF a i j) → b.Pairwise (· ≥ ·) → Walk H b zs c → Walk H a (.ref t :: zs) c
theorem mvF_ne {l : List Int} {i j : Nat} (hi : i < l.length) (hj : j < l.length) (h : i ≠ j) : mvF l i j = (l.set i (l[i] - 1)).set j (l[j] + 1) := by
  unfold mvF
  rw [gD hi, gD (show j < (l.set i (l[i] - 1)).length by rw [List.length_set]; exact hj), List.getElem_set, if_neg h]
theorem Walk.le {H : Hp} : ∀ {a : List Int} {zs : List V} {c : List Int}, a.Pairwise (· ≥ ·) → Walk H a zs c → c.sum = a.sum ∧ ∀ k, k ≤ a.length → pre c k ≤ pre a k
  | _, _, _, _, .nil _ => ⟨rfl, fun _ _ => Int.le_refl _⟩
  | a, _, _, d, .cons (i := i) (j := j) hi hj h g pm od p => by
    have ne : i ≠ j := fun z => by subst z; omega
    rw [mvF_ne hi hj ne] at pm
    obtain ⟨l1, s1, h1⟩ := move_le d hi hj g pm od
    obtain ⟨s2, h2⟩ := Walk.le od p
    exact ⟨by rw [s2, s1], fun k hk => Int.le_trans (h2 k (by omega)) (h1 k hk)⟩
theorem Walk.app {H : Hp} : ∀ {a : List Int} {zs : List V} {b : List Int} {ys : List V} {c : List Int}, Walk H a zs b → Walk H b ys c → Walk H a (zs ++ ys) c
  | _, _, _, _, _, .nil _, q => q
  | _, _, _, _, _, .cons hi hj h g pm od p, q => .cons hi hj h g pm od (Walk.app p q)
theorem Walk.same {H H' : Hp} (s : Same H H') : ∀ {a : List Int} {zs : List V} {c : List Int}, Walk H a zs c → Walk H' a zs c
  | _, _, _, .nil _ => .nil _
  | _, _, _, .cons hi hj h g pm od p => .cons hi hj (s _ _ h) g pm od (Walk.same s p)
theorem Path.walk {H : Hp} {one : List Int} : ∀ {a : List Int} {zs : List V} {b : List Int}, Path H one a zs b → Walk H a zs b
  | _, _, _, .nil _ => .nil _
  | a, _, _, .cons (g := g) (s := s) h w m p => by
    have hg : g < a.length := by have := m.gs; have := m.sl; omega
    refine .cons hg m.sl h (move_far w m) ?_ (w.next m).d2 (Path.walk p)
    rw [mvF_step (Nat.ne_of_lt m.gs) m.sl]
theorem Walk.head {H : Hp} {a : List Int} {t : Addr} {zs : List V} {c : List Int} {i j : Nat} (ht : H t = some (.tup [.int (i : Int), .int (j : Int)])) (w : Walk H a (.ref t :: zs) c) : ∃ (hi : i < a.length) (hj : j < a.length) (b : List Int), a[i] - a[j] > 1 ∧ b.Perm (mvF a i j) ∧ b.Pairwise (· ≥ ·) ∧ Walk H b zs c := by
  cases w with
  | @cons _ b _ _ _ i' j' hi hj h g pm od p =>
    rw [ht] at h
    have := HO.tup.inj (Option.some.inj h)
    simp at this
    have e1 : i = i' := by omega
    have e2 : j = j' := by omega
    subst e1 e2
    exact ⟨hi, hj, b, g, pm, od, p⟩
section
variable {P : Program} {w : World} {K : PySem.W.Frag} {mg : Str → Option Value} {base : Heap}
def spCanG : Sp := fun vs H Q _ => ∃ (a t : Addr) (ns : List Int) (i j : Nat) (hi : i < ns.length) (hj : j < ns.length), vs = [.ref a, .ref t] ∧ H a = some (.tup (iv ns)) ∧ H t = some (.tup [.int (i : Int), .int (j : Int)]) ∧ ∀ H', Same H H' → Q (.bl (decide (ns[i] - ns[j] > 1))) H'
theorem ok_canG (T : Txt2 mg) (C_is_two_places : Cal P w K mg base "is_two_places" ["thing", "many"] 2 spTwo2) (F : FunAt K mg "can_move" ["load", "thing"] s_can_move) : Cal P w K mg base "can_move" ["load", "thing"] 3 spCanG := by
  have S := sc_can_move
  refine F.cal sc_can_move (fun vs H Q E h => ?_) (fun f cdv A outer s H vs Q E hr h => ?_)
  · obtain ⟨a, t, ns, i, j, hi, hj, rfl, _⟩ := h; rfl
  obtain ⟨a, t, ns, i, j, hi, hj, rfl, ha, ht, k⟩ := h
  refine ⟨_, (@pss_one _ _ _ (@ps_ret _ _ _ _ (@pe_and _ _ _ _ _ _ _ (@cc _ _ _ _ _ _ _ _ _ _ (by exact C_is_two_places) (by exact (hr.mono (by decide))) (@pa_consN _ _ _ _ _ (pv 1) (@pa_consN _ _ _ _ _ (@pe_callB _ _ _ _ _ _ _ _ _ call_len_seq (by rfl) (by exact T.z_len) (by exact bt_len) (@pa_consN _ _ _ _ _ (pv 0) pa_nil (by first | rfl | decide | exact Or.inl rfl | exact Or.inr rfl | (intro _; rfl) | (intro _ _; rfl) | (intro _ _ _; rfl))) (by first | rfl | decide | exact Or.inl rfl | exact Or.inr rfl | (intro _; rfl) | (intro _ _; rfl) | (intro _ _ _; rfl)) (by first | rfl | decide | exact Or.inl rfl | exact Or.inr rfl | (intro _; rfl) | (intro _ _; rfl) | (intro _ _ _; rfl)) (by first | rfl | decide | exact Or.inl rfl | exact Or.inr rfl | (intro _; rfl) | (intro _ _; rfl) | (intro _ _ _; rfl)) (by first | rfl | decide | exact Or.inl rfl | exact Or.inr rfl | (intro _; rfl) | (intro _ _; rfl) | (intro _ _ _; rfl))) pa_nil (by first | rfl | decide | exact Or.inl rfl | exact Or.inr rfl | (intro _; rfl) | (intro _ _; rfl) | (intro _ _ _; rfl))) (by first | rfl | decide | exact Or.inl rfl | exact Or.inr rfl | (intro _; rfl) | (intro _ _; rfl) | (intro _ _ _; rfl))) (by first | rfl | decide | exact Or.inl rfl | exact Or.inr rfl | (intro _; rfl) | (intro _ _; rfl) | (intro _ _ _; rfl)) (by first | rfl | decide | exact Or.inl rfl | exact Or.inr rfl | (intro _; rfl) | (intro _ _; rfl) | (intro _ _ _; rfl)) (by first | rfl | decide | exact Or.inl rfl | exact Or.inr rfl | (intro _; rfl) | (intro _ _; rfl) | (intro _ _ _; rfl)) (by first | rfl | decide | exact Or.inl rfl | exact Or.inr rfl | (intro _; rfl) | (intro _ _; rfl) | (intro _ _ _; rfl))) (@pe_one _ _ _ _ _ (@pe_cmpR _ _ _ _ _ _ _ _ op_ge (@pe_ix _ _ _ _ _ _ _ ix_tup0 (pv 0) (@pe_ix _ _ _ _ _ _ _ ix_tup0 (pv 1) pe_int (by exact (fun _ _ => rfl))) (by exact (fun _ _ => rfl))) (@pe_op _ _ _ _ _ _ _ _ op_add (@pe_ix _ _ _ _ _ _ _ ix_tup0 (pv 0) (@pe_ix _ _ _ _ _ _ _ ix_tup0 (pv 1) pe_int (by exact (fun _ _ => rfl))) (by exact (fun _ _ => rfl))) pe_int) (by exact (nomark _))))))), ?_⟩
  have hx : ns[i]? = some ns[i] := List.getElem?_eq_getElem hi
  have hy : ns[j]? = some ns[j] := List.getElem?_eq_getElem hj
  refine ⟨_, rfl, _, rfl, a, _, rfl, .inr (SqT.of ha), t, i, j, (iv ns).length, rfl, ht, by simpa using hi, by simpa using hj, fun H' s' => ⟨_, rfl, iteT ?_⟩⟩
  refine ⟨_, rfl, _, rfl, t, _, _, _, rfl, rfl, s' _ _ ht, rfl, a, _, _, _, rfl, rfl, s' _ _ ha, atI_iv hx, _, rfl, _, rfl, t, _, _, _, rfl, rfl, s' _ _ ht, rfl, a, _, _, _, rfl, rfl, s' _ _ ha, atI_iv hy, _, _, rfl, rfl, _, _, rfl, rfl, ?_⟩
  dsimp only
  have e : decide (ns[j] + 2 ≤ ns[i]) = decide (ns[i] - ns[j] > 1) := by
    by_cases c : ns[i] - ns[j] > 1
    · rw [decide_eq_true c, decide_eq_true (by omega)]
    · rw [decide_eq_false c, decide_eq_false (by omega)]
  rw [e]
  exact k H' s'
def spLetsG : Sp := fun vs H Q _ => ∃ a b l ns ms zs, vs = [.ref a, .ref b, .ref l] ∧ H a = some (.tup (iv ns)) ∧ H b = some (.tup (iv ms)) ∧ ns.length ≤ 10 ∧ Alike ns ms ∧ H l = some (.lst zs) ∧ (∀ v ∈ zs, Plc H ms.length v) ∧ ms.Pairwise (· ≥ ·) ∧ ∀ H' bb, Same H H' → (bb = true ↔ Walk H ms zs ns) → Q (.bl bb) H'
theorem ok_letsG (T : Txt2 mg) (C_ask_alike : Cal P w K mg base "ask_alike" ["one", "other"] 1 spAlike) (C_can_move : Cal P w K mg base "can_move" ["load", "thing"] 3 spCanG) (C_moved : Cal P w K mg base "moved" ["load", "move"] 2 spMovedM) (F : FunAt K mg "lets_moves" ["one", "other", "thing"] s_lets_moves) : Cal P w K mg base "lets_moves" ["one", "other", "thing"] 4 spLetsG := by
  have S := sc_lets_moves
  refine F.cal sc_lets_moves (fun vs H Q E h => ?_) (fun f cdv A outer s H vs Q E hr h => ?_)
  · obtain ⟨a, b, l, ns, ms, zs, rfl, _⟩ := h; rfl
  obtain ⟨a, b, l, ns, ms, zs, rfl, ha, hb, l10, al, hl, hz, d2, k⟩ := h
  have hu := hr.units0
  refine ⟨_, (@pss_cons _ _ _ _ _ (@ps_expr _ _ _ _ (@cc _ _ _ _ _ _ _ _ _ _ (by exact C_ask_alike) (by exact (hr.mono (by decide))) (@pa_consN _ _ _ _ _ (pv 0) (@pa_consN _ _ _ _ _ (pv 1) pa_nil (by first | rfl | decide | exact Or.inl rfl | exact Or.inr rfl | (intro _; rfl) | (intro _ _; rfl) | (intro _ _ _; rfl))) (by first | rfl | decide | exact Or.inl rfl | exact Or.inr rfl | (intro _; rfl) | (intro _ _; rfl) | (intro _ _ _; rfl))) (by first | rfl | decide | exact Or.inl rfl | exact Or.inr rfl | (intro _; rfl) | (intro _ _; rfl) | (intro _ _ _; rfl)) (by first | rfl | decide | exact Or.inl rfl | exact Or.inr rfl | (intro _; rfl) | (intro _ _; rfl) | (intro _ _ _; rfl)) (by first | rfl | decide | exact Or.inl rfl | exact Or.inr rfl | (intro _; rfl) | (intro _ _; rfl) | (intro _ _ _; rfl)) (by first | rfl | decide | exact Or.inl rfl | exact Or.inr rfl | (intro _; rfl) | (intro _ _; rfl) | (intro _ _ _; rfl))) (by first | rfl | decide | exact Or.inl rfl | exact Or.inr rfl | (intro _; rfl) | (intro _ _; rfl) | (intro _ _ _; rfl))) (@pss_cons _ _ _ _ _ (@ps_if _ _ _ _ _ _ _ _ (@pt_not _ _ _ _ (@pt_val _ _ _ (@pe_callB _ _ _ _ _ _ _ _ _ call_isi (by rfl) (by exact T.z_isinstance) (by exact bt_isinstance) (@pa_consN _ _ _ _ _ (pv 2) (@pa_consN _ _ _ _ _ (@pe_bltn _ _ (.ty "list") _ _ (by rfl) (by exact T.z_list) (by exact bt_list) (by rfl) (by first | rfl | decide | exact Or.inl rfl | exact Or.inr rfl | (intro _; rfl) | (intro _ _; rfl) | (intro _ _ _; rfl)) (by first | rfl | decide | exact Or.inl rfl | exact Or.inr rfl | (intro _; rfl) | (intro _ _; rfl) | (intro _ _ _; rfl))) pa_nil (by first | rfl | decide | exact Or.inl rfl | exact Or.inr rfl | (intro _; rfl) | (intro _ _; rfl) | (intro _ _ _; rfl))) (by first | rfl | decide | exact Or.inl rfl | exact Or.inr rfl | (intro _; rfl) | (intro _ _; rfl) | (intro _ _ _; rfl))) (by first | rfl | decide | exact Or.inl rfl | exact Or.inr rfl | (intro _; rfl) | (intro _ _; rfl) | (intro _ _ _; rfl)) (by first | rfl | decide | exact Or.inl rfl | exact Or.inr rfl | (intro _; rfl) | (intro _ _; rfl) | (intro _ _ _; rfl)) (by first | rfl | decide | exact Or.inl rfl | exact Or.inr rfl | (intro _; rfl) | (intro _ _; rfl) | (intro _ _ _; rfl)) (by first | rfl | decide | exact Or.inl rfl | exact Or.inr rfl | (intro _; rfl) | (intro _ _; rfl) | (intro _ _ _; rfl))) (by first | rfl | decide | exact Or.inl rfl | exact Or.inr rfl | (intro _; rfl) | (intro _ _; rfl) | (intro _ _ _; rfl)))) (@pss_one _ _ _ (@ps_ret _ _ _ _ pe_bl)) pss_nil) (@pss_cons _ _ _ _ _ (@ps_set _ _ (3) _ _ _ _ (by exact S.nd) (by rfl) (by first | exact Or.inl rfl | exact Or.inr rfl) (pv 1) (by first | rfl | decide | exact Or.inl rfl | exact Or.inr rfl | (intro _; rfl) | (intro _ _; rfl) | (intro _ _ _; rfl)) (by first | rfl | decide | exact Or.inl rfl | exact Or.inr rfl | (intro _; rfl) | (intro _ _; rfl) | (intro _ _ _; rfl))) (@pss_cons _ _ _ _ _ (@ps_for _ _ _ _ _ _ _ _ (by exact PassesOwn.never) (by rfl) (@pi_list _ _ _ _ (pv 2)) (@pg_name _ _ (4) _ (by exact S.nd) (by rfl) (by first | exact Or.inl rfl | exact Or.inr rfl) (by first | rfl | decide | exact Or.inl rfl | exact Or.inr rfl | (intro _; rfl) | (intro _ _; rfl) | (intro _ _ _; rfl))) (@pss_cons _ _ _ _ _ (@ps_if _ _ _ _ _ _ _ _ (@pt_not _ _ _ _ (@pt_val _ _ _ (@cc _ _ _ _ _ _ _ _ _ _ (by exact C_can_move) (by exact (hr.mono (by decide))) (@pa_consN _ _ _ _ _ (pv 3) (@pa_consN _ _ _ _ _ (pv 4) pa_nil (by first | rfl | decide | exact Or.inl rfl | exact Or.inr rfl | (intro _; rfl) | (intro _ _; rfl) | (intro _ _ _; rfl))) (by first | rfl | decide | exact Or.inl rfl | exact Or.inr rfl | (intro _; rfl) | (intro _ _; rfl) | (intro _ _ _; rfl))) (by first | rfl | decide | exact Or.inl rfl | exact Or.inr rfl | (intro _; rfl) | (intro _ _; rfl) | (intro _ _ _; rfl)) (by first | rfl | decide | exact Or.inl rfl | exact Or.inr rfl | (intro _; rfl) | (intro _ _; rfl) | (intro _ _ _; rfl)) (by first | rfl | decide | exact Or.inl rfl | exact Or.inr rfl | (intro _; rfl) | (intro _ _; rfl) | (intro _ _ _; rfl)) (by first | rfl | decide | exact Or.inl rfl | exact Or.inr rfl | (intro _; rfl) | (intro _ _; rfl) | (intro _ _ _; rfl))) (by first | rfl | decide | exact Or.inl rfl | exact Or.inr rfl | (intro _; rfl) | (intro _ _; rfl) | (intro _ _ _; rfl)))) (@pss_one _ _ _ (@ps_ret _ _ _ _ pe_bl)) pss_nil) (@pss_one _ _ _ (@ps_set _ _ (3) _ _ _ _ (by exact S.nd) (by rfl) (by first | exact Or.inl rfl | exact Or.inr rfl) (@cc _ _ _ _ _ _ _ _ _ _ (by exact C_moved) (by exact (hr.mono (by decide))) (@pa_consN _ _ _ _ _ (pv 3) (@pa_consN _ _ _ _ _ (pv 4) pa_nil (by first | rfl | decide | exact Or.inl rfl | exact Or.inr rfl | (intro _; rfl) | (intro _ _; rfl) | (intro _ _ _; rfl))) (by first | rfl | decide | exact Or.inl rfl | exact Or.inr rfl | (intro _; rfl) | (intro _ _; rfl) | (intro _ _ _; rfl))) (by first | rfl | decide | exact Or.inl rfl | exact Or.inr rfl | (intro _; rfl) | (intro _ _; rfl) | (intro _ _ _; rfl)) (by first | rfl | decide | exact Or.inl rfl | exact Or.inr rfl | (intro _; rfl) | (intro _ _; rfl) | (intro _ _ _; rfl)) (by first | rfl | decide | exact Or.inl rfl | exact Or.inr rfl | (intro _; rfl) | (intro _ _; rfl) | (intro _ _ _; rfl)) (by first | rfl | decide | exact Or.inl rfl | exact Or.inr rfl | (intro _; rfl) | (intro _ _; rfl) | (intro _ _ _; rfl))) (by first | rfl | decide | exact Or.inl rfl | exact Or.inr rfl | (intro _; rfl) | (intro _ _; rfl) | (intro _ _ _; rfl)) (by first | rfl | decide | exact Or.inl rfl | exact Or.inr rfl | (intro _; rfl) | (intro _ _; rfl) | (intro _ _ _; rfl))))) (by first | rfl | decide | exact Or.inl rfl | exact Or.inr rfl | (intro _; rfl) | (intro _ _; rfl) | (intro _ _ _; rfl))) (@pss_one _ _ _ (@ps_ret _ _ _ _ (@pe_cmpR _ _ _ _ _ _ _ _ (op_eqT hu) (pv 3) (pv 0) (by exact (nomark _))))))))), ?_⟩
  refine ⟨_, rfl, _, rfl, a, b, ns, ms, rfl, ha, hb, al, ?_⟩
  refine ⟨_, rfl, _, _, _, _, rfl, .lst hl, rfl, _, rfl, iteF ?_⟩
  refine ⟨_, rfl, ?_⟩
  have ll := al.1
  refine ⟨_, rfl, l, rfl, ⟨_, SqL.of hl⟩, for_list (xs := zs) (fun i σ H' => ∃ (lo : Addr) (load : List Int) (o4 : Option V), σ = [some (.ref a), some (.ref b), some (.ref l), some (.ref lo), o4] ∧ Same H H' ∧ H' lo = some (.tup (iv load)) ∧ load.length = ms.length ∧ (Walk H ms zs ns ↔ Walk H load (zs.drop i) ns)) ⟨b, ms, _, rfl, Same.refl _, hb, rfl, Iff.rfl⟩ (fun i σ H' _ h => let ⟨_, _, _, _, s', _⟩ := h; SqL.of (s' _ _ hl)) ?_ ?_⟩
  · rintro i v σ H' hv ⟨lo, load, o4, rfl, s', hlo, hll, p⟩
    obtain ⟨hi, ev⟩ := List.getElem?_eq_some_iff.mp hv
    rw [List.drop_eq_getElem_cons hi, ev] at p
    obtain ⟨t, i3, j3, rfl, ht, h3, h4⟩ := hz v (List.mem_of_getElem? hv)
    refine ⟨_, rfl, _, rfl, lo, t, load, i3, j3, by omega, by omega, rfl, hlo, s' _ _ ht, fun H2 s2 => ?_⟩
    by_cases c : load[i3] - load[j3] > 1
    · rw [decide_eq_true c]
      refine ⟨_, rfl, iteF ?_⟩
      refine ⟨_, rfl, _, rfl, lo, t, load, i3, j3, rfl, s2 _ _ hlo, s2 _ _ (s' _ _ ht), by omega, by omega, by omega, fun b5 ms5 H5 s5 hb5 pm od => ?_⟩
      refine ⟨b5, ms5, _, rfl, (s'.trans s2).trans s5, hb5, by rw [pm.length_eq]; simp [mvF, hll], p.trans ⟨fun q => ?_, fun q => .cons _ _ ht c pm od q⟩⟩
      obtain ⟨_, _, b6, _, pm6, od6, q6⟩ := q.head ht
      rw [desc_eq (pm.trans pm6.symm) od od6]
      exact q6
    · rw [decide_eq_false c]
      refine ⟨_, rfl, iteT ?_⟩
      refine k H2 false (s'.trans s2) ⟨(fun z => by cases z), fun q => ?_⟩
      obtain ⟨_, _, _, g, _⟩ := (p.mp q).head ht
      exact absurd g c
  · rintro σ H' ⟨lo, load, o4, rfl, s', hlo, hll, p⟩
    rw [List.drop_length] at p
    refine ⟨_, rfl, _, rfl, lo, a, _, _, rfl, rfl, SqT.of hlo, SqT.of (s' _ _ ha), flat_iv _, flat_iv _, ?_⟩
    rw [seq_iv]
    refine k H' _ s' ⟨fun z => ?_, fun z => ?_⟩
    · have := of_decide_eq_true z
      subst this
      exact p.mpr (.nil _)
    · cases p.mp z
      exact decide_eq_true rfl
end
end My

set_option Elab.async false
set_option linter.all false
set_option maxRecDepth 100000
set_option maxHeartbeats 4000000
namespace My
open PySem L2 MA
theorem full_of {acc k : Int} : ∀ {ns ms : List Int}, ns.length = ms.length → (∀ j, j ≤ ns.length → acc + pre ns j ≤ pre ms j) → fullAt acc k ns ms = .non := by
  intro ns
  induction ns generalizing acc k with
  | nil => intro ms hl h; rfl
  | cons a r ih =>
    intro ms hl h
    cases ms with
    | nil => rfl
    | cons b t =>
      have h1 := h 1 (by simp)
      have e1 : pre (a :: r) 1 = a := by simp [pre]
      have e2 : pre (b :: t) 1 = b := by simp [pre]
      rw [e1, e2] at h1
      show (if acc + (a - b) > 0 then V.int k else fullAt (acc + (a - b)) (k + 1) r t) = .non
      rw [if_neg (by omega)]
      refine ih (by simpa using hl) fun j hj => ?_
      have h2 := h (j + 1) (by simpa using hj)
      have e3 : pre (a :: r) (j + 1) = a + pre r j := by simp [pre]
      have e4 : pre (b :: t) (j + 1) = b + pre t j := by simp [pre]
      rw [e3, e4] at h2
      omega
/-- no fuller -/
def Le (ns ms : List Int) : Prop := ∀ k, k ≤ ns.length → pre ns k ≤ pre ms k
theorem full_iff {ns ms : List Int} (hl : ns.length = ms.length) : fullAt 0 1 ns ms = .non ↔ Le ns ms :=
  ⟨fun h k hk => by have := full_non (j := k) hl h (Int.le_refl _) hk; omega, fun h => full_of hl fun j hj => by have := h j hj; omega⟩
section
variable {P : Program} {w : World} {K : PySem.W.Frag} {mg : Str → Option Value} {base : Heap}
def spNoF : Sp := fun vs H Q _ => ∃ a b ns ms, vs = [.ref a, .ref b] ∧ H a = some (.tup (iv ns)) ∧ H b = some (.tup (iv ms)) ∧ Alike ns ms ∧ ∀ H' bb, Same H H' → (bb = true ↔ Le ns ms) → Q (.bl bb) H'
theorem ok_nof (T : Txt2 mg) (C_first_fuller : Cal P w K mg base "first_fuller" ["one", "other"] 2 spFirst) (F : FunAt K mg "_law_no_fuller" ["_law_one", "_law_other_here"] s_l_no_fuller) : Cal P w K mg base "_law_no_fuller" ["_law_one", "_law_other_here"] 3 spNoF := by
  have S := sc_l_no_fuller
  refine F.cal sc_l_no_fuller (fun vs H Q E h => ?_) (fun f cdv A outer s H vs Q E hr h => ?_)
  · obtain ⟨a, b, ns, ms, rfl, _⟩ := h; rfl
  obtain ⟨a, b, ns, ms, rfl, ha, hb, al, k⟩ := h
  refine ⟨_, (@pss_one _ _ _ (@ps_ret _ _ _ _ (@pe_cmpR _ _ _ _ _ _ _ _ op_isN (@cc _ _ _ _ _ _ _ _ _ _ (by exact C_first_fuller) (by exact (hr.mono (by decide))) (@pa_consN _ _ _ _ _ (pv 0) (@pa_consN _ _ _ _ _ (pv 1) pa_nil (by first | rfl | decide | exact Or.inl rfl | exact Or.inr rfl | (intro _; rfl) | (intro _ _; rfl) | (intro _ _ _; rfl))) (by first | rfl | decide | exact Or.inl rfl | exact Or.inr rfl | (intro _; rfl) | (intro _ _; rfl) | (intro _ _ _; rfl))) (by first | rfl | decide | exact Or.inl rfl | exact Or.inr rfl | (intro _; rfl) | (intro _ _; rfl) | (intro _ _ _; rfl)) (by first | rfl | decide | exact Or.inl rfl | exact Or.inr rfl | (intro _; rfl) | (intro _ _; rfl) | (intro _ _ _; rfl)) (by first | rfl | decide | exact Or.inl rfl | exact Or.inr rfl | (intro _; rfl) | (intro _ _; rfl) | (intro _ _ _; rfl)) (by first | rfl | decide | exact Or.inl rfl | exact Or.inr rfl | (intro _; rfl) | (intro _ _; rfl) | (intro _ _ _; rfl))) pe_non (by exact (nomark _))))), ?_⟩
  refine ⟨_, rfl, _, rfl, a, b, ns, ms, rfl, ha, hb, al, fun H' s' => ⟨rfl, k H' _ s' ?_⟩⟩
  rw [← full_iff al.1]
  exact ⟨of_decide_eq_true, fun h => decide_eq_true h⟩
def spRank : Sp := fun vs H Q _ => ∃ (a : Addr) (ns : List Int) (ball : Int), vs = [.ref a, .int ball] ∧ H a = some (.tup (iv ns)) ∧ (∀ x ∈ ns, 0 ≤ x) ∧ 1 ≤ ball ∧ ball ≤ ns.sum ∧ ∀ (r : Nat) (hr : r < ns.length), pre ns r < ball → ball ≤ pre ns (r + 1) → ns[r] ≠ 0 → Q (.int (r : Int)) H
theorem ok_rank (T : Txt2 mg) (F : FunAt K mg "_law_rank_of" ["_law_load_here", "_law_ball"] s_l_rank_of) : Cal P w K mg base "_law_rank_of" ["_law_load_here", "_law_ball"] 1 spRank := by
  have S := sc_l_rank_of
  refine F.cal sc_l_rank_of (fun vs H Q E h => ?_) (fun f cdv A outer s H vs Q E hr h => ?_)
  · obtain ⟨a, ns, ball, rfl, _⟩ := h; rfl
  obtain ⟨a, ns, ball, rfl, ha, nn, b1, b2, k⟩ := h
  refine ⟨_, (@pss_cons _ _ _ _ _ (@ps_set _ _ (2) _ _ _ _ (by exact S.nd) (by rfl) (by first | exact Or.inl rfl | exact Or.inr rfl) pe_int (by first | rfl | decide | exact Or.inl rfl | exact Or.inr rfl | (intro _; rfl) | (intro _ _; rfl) | (intro _ _ _; rfl)) (by first | rfl | decide | exact Or.inl rfl | exact Or.inr rfl | (intro _; rfl) | (intro _ _; rfl) | (intro _ _ _; rfl))) (@pss_cons _ _ _ _ _ (@ps_while _ _ _ _ _ _ (by exact PassesOwn.never) (@pt_cmpR _ _ _ _ _ _ _ _ op_gt (pv 1) (@pe_ix _ _ _ _ _ _ _ ix_tup0 (pv 0) (pv 2) (by exact (fun _ _ => rfl))) (by exact (nomark _))) (@pss_cons _ _ _ _ _ (@ps_set _ _ (1) _ _ _ _ (by exact S.nd) (by rfl) (by first | exact Or.inl rfl | exact Or.inr rfl) (@pe_op _ _ _ _ _ _ _ _ op_sub (pv 1) (@pe_ix _ _ _ _ _ _ _ ix_tup0 (pv 0) (pv 2) (by exact (fun _ _ => rfl)))) (by first | rfl | decide | exact Or.inl rfl | exact Or.inr rfl | (intro _; rfl) | (intro _ _; rfl) | (intro _ _ _; rfl)) (by first | rfl | decide | exact Or.inl rfl | exact Or.inr rfl | (intro _; rfl) | (intro _ _; rfl) | (intro _ _ _; rfl))) (@pss_one _ _ _ (@ps_set _ _ (2) _ _ _ _ (by exact S.nd) (by rfl) (by first | exact Or.inl rfl | exact Or.inr rfl) (@pe_op _ _ _ _ _ _ _ _ op_add (pv 2) pe_int) (by first | rfl | decide | exact Or.inl rfl | exact Or.inr rfl | (intro _; rfl) | (intro _ _; rfl) | (intro _ _ _; rfl)) (by first | rfl | decide | exact Or.inl rfl | exact Or.inr rfl | (intro _; rfl) | (intro _ _; rfl) | (intro _ _ _; rfl)))))) (@pss_one _ _ _ (@ps_ret _ _ _ _ (pv 2))))), ?_⟩
  refine ⟨fun m σ H' => ∃ r : Nat, σ = [some (.ref a), some (.int (ball - pre ns r)), some (.int (r : Int))] ∧ H' = H ∧ r < ns.length ∧ pre ns r < ball ∧ m = ns.length - r, ⟨ns.length, 0, (by rw [pre_zero, Int.sub_zero]; rfl), rfl, ?_, (by rw [pre_zero]; omega), by simp⟩, ?_⟩
  · refine Classical.byContradiction fun z => ?_
    have : ns = [] := List.length_eq_zero_iff.mp (by omega)
    rw [this] at b2
    simp at b2
    omega
  rintro m σ H' ⟨r, rfl, rfl, hrl, hb, rfl⟩
  have hx : ns[r]? = some ns[r] := List.getElem?_eq_getElem hrl
  have ps := pre_succ hrl
  refine ⟨_, rfl, _, rfl, _, rfl, a, _, _, _, rfl, rfl, ha, atI_iv hx, _, _, rfl, rfl, _, rfl, ?_⟩
  by_cases c : ns[r] < ball - pre ns r
  · rw [decide_eq_true c]
    refine iteT ⟨fun σ' H'' => ∃ m', m' < ns.length - r ∧ ∃ r : Nat, σ' = [some (.ref a), some (.int (ball - pre ns r)), some (.int (r : Int))] ∧ H'' = H' ∧ r < ns.length ∧ pre ns r < ball ∧ m' = ns.length - r, fun _ _ h => h, ?_⟩
    refine ⟨_, rfl, _, rfl, _, rfl, a, _, _, _, rfl, rfl, ha, atI_iv hx, _, _, rfl, rfl, _, rfl, _, _, rfl, rfl, ?_⟩
    have r2 : r + 1 < ns.length := by
      refine Classical.byContradiction fun z => ?_
      have e : pre ns (r + 1) = ns.sum := pre_all (by omega)
      omega
    refine ⟨ns.length - (r + 1), by omega, r + 1, ?_, rfl, r2, by omega, rfl⟩
    rw [ps, show ball - (pre ns r + ns[r]) = ball - pre ns r - ns[r] by omega]
    rfl
  · rw [decide_eq_false c]
    refine iteF ⟨_, rfl, k r hrl hb (by omega) fun z => ?_⟩
    omega
end
end My

set_option Elab.async false
set_option linter.all false
set_option maxRecDepth 100000
set_option maxHeartbeats 4000000
namespace My
open PySem L2 MA
theorem put_sum {l ms : List Int} (d : l.Pairwise (· ≥ ·)) {i : Nat} (hi : i < l.length) (pm : ms.Perm (l.set i (l[i] + 1))) (od : ms.Pairwise (· ≥ ·)) : ms.length = l.length ∧ ms.sum = l.sum + 1 := by
  obtain ⟨j, hj, _, _, hl, h⟩ := put_pre d hi pm od
  have := h l.length (Nat.le_refl _)
  rw [pre_all (Nat.le_refl _), ← hl, pre_all (Nat.le_refl _), hl, if_pos (by omega)] at this
  exact ⟨hl, this⟩
theorem take_sum {l ms : List Int} (d : l.Pairwise (· ≥ ·)) {i : Nat} (hi : i < l.length) (pm : ms.Perm (l.set i (l[i] - 1))) (od : ms.Pairwise (· ≥ ·)) : ms.length = l.length ∧ ms.sum = l.sum - 1 := by
  obtain ⟨j, hj, _, _, _, hl, h⟩ := take_pre d hi pm od
  have := h l.length (Nat.le_refl _)
  rw [pre_all (Nat.le_refl _), ← hl, pre_all (Nat.le_refl _), hl, if_pos hj] at this
  exact ⟨hl, this⟩
/-- a load of the law -/
structure Ld (ns : List Int) : Prop where
  l1 : 1 ≤ ns.length
  l6 : ns.length ≤ 6
  d : ns.Pairwise (· ≥ ·)
  nn : ∀ x ∈ ns, 0 ≤ x
  up : ∀ x ∈ ns, x ≤ 300
section
variable {P : Program} {w : World} {K : PySem.W.Frag} {mg : Str → Option Value} {base : Heap}
def spKept : Sp := fun vs H Q _ => ∃ a b ns ms, vs = [.ref a, .ref b] ∧ H a = some (.tup (iv ns)) ∧ H b = some (.tup (iv ms)) ∧ Alike ns ms ∧ Ld ns ∧ Ld ms ∧ Le ns ms ∧ ns.sum ≤ 2000 ∧ ∀ H', Same H H' → Q (.bl true) H'
theorem ok_kept (T : Txt2 mg) (C_put_at : Cal P w K mg base "put_at" ["load", "rank"] 2 spPutAt) (C_taken_from : Cal P w K mg base "taken_from" ["load", "rank"] 2 spTaken) (C_l_no_fuller : Cal P w K mg base "_law_no_fuller" ["_law_one", "_law_other_here"] 3 spNoF) (C_l_rank_of : Cal P w K mg base "_law_rank_of" ["_law_load_here", "_law_ball"] 1 spRank)
    (F : FunAt K mg "_law_kept" ["_law_one", "_law_other_here"] s_l_kept) : Cal P w K mg base "_law_kept" ["_law_one", "_law_other_here"] 4 spKept := by
  have S := sc_l_kept
  refine F.cal sc_l_kept (fun vs H Q E h => ?_) (fun f cdv A outer s H vs Q E hr h => ?_)
  · obtain ⟨a, b, ns, ms, rfl, _⟩ := h; rfl
  obtain ⟨a, b, ns, ms, rfl, ha, hb, al, L1, L2, le, hs, k⟩ := h
  have len := al.1
  have l6 := L1.l6
  refine ⟨_, (@pss_cons _ _ _ _ _ (@ps_set _ _ (2) _ _ _ _ (by exact S.nd) (by rfl) (by first | exact Or.inl rfl | exact Or.inr rfl) (@pe_callB _ _ _ _ _ _ _ _ _ call_len_seq (by rfl) (by exact T.z_len) (by exact bt_len) (@pa_consN _ _ _ _ _ (pv 0) pa_nil (by first | rfl | decide | exact Or.inl rfl | exact Or.inr rfl | (intro _; rfl) | (intro _ _; rfl) | (intro _ _ _; rfl))) (by first | rfl | decide | exact Or.inl rfl | exact Or.inr rfl | (intro _; rfl) | (intro _ _; rfl) | (intro _ _ _; rfl)) (by first | rfl | decide | exact Or.inl rfl | exact Or.inr rfl | (intro _; rfl) | (intro _ _; rfl) | (intro _ _ _; rfl)) (by first | rfl | decide | exact Or.inl rfl | exact Or.inr rfl | (intro _; rfl) | (intro _ _; rfl) | (intro _ _ _; rfl)) (by first | rfl | decide | exact Or.inl rfl | exact Or.inr rfl | (intro _; rfl) | (intro _ _; rfl) | (intro _ _ _; rfl))) (by first | rfl | decide | exact Or.inl rfl | exact Or.inr rfl | (intro _; rfl) | (intro _ _; rfl) | (intro _ _ _; rfl)) (by first | rfl | decide | exact Or.inl rfl | exact Or.inr rfl | (intro _; rfl) | (intro _ _; rfl) | (intro _ _ _; rfl))) (@pss_cons _ _ _ _ _ (@ps_for _ _ _ _ _ _ _ _ (by exact PassesOwn.never) (by rfl) (@pi_range1 _ _ _ _ _ _ (by rfl) (by exact T.z_range) (@pa_consN _ _ _ _ _ (pv 2) pa_nil (by first | rfl | decide | exact Or.inl rfl | exact Or.inr rfl | (intro _; rfl) | (intro _ _; rfl) | (intro _ _ _; rfl))) (by first | rfl | decide | exact Or.inl rfl | exact Or.inr rfl | (intro _; rfl) | (intro _ _; rfl) | (intro _ _ _; rfl))) (@pg_name _ _ (3) _ (by exact S.nd) (by rfl) (by first | exact Or.inl rfl | exact Or.inr rfl) (by first | rfl | decide | exact Or.inl rfl | exact Or.inr rfl | (intro _; rfl) | (intro _ _; rfl) | (intro _ _ _; rfl))) (@pss_one _ _ _ (@ps_for _ _ _ _ _ _ _ _ (by exact PassesOwn.never) (by rfl) (@pi_range1 _ _ _ _ _ _ (by rfl) (by exact T.z_range) (@pa_consN _ _ _ _ _ (@pe_op _ _ _ _ _ _ _ _ op_add (pv 3) pe_int) pa_nil (by first | rfl | decide | exact Or.inl rfl | exact Or.inr rfl | (intro _; rfl) | (intro _ _; rfl) | (intro _ _ _; rfl))) (by first | rfl | decide | exact Or.inl rfl | exact Or.inr rfl | (intro _; rfl) | (intro _ _; rfl) | (intro _ _ _; rfl))) (@pg_name _ _ (5) _ (by exact S.nd) (by rfl) (by first | exact Or.inl rfl | exact Or.inr rfl) (by first | rfl | decide | exact Or.inl rfl | exact Or.inr rfl | (intro _; rfl) | (intro _ _; rfl) | (intro _ _ _; rfl))) (@pss_one _ _ _ (@ps_if _ _ _ _ _ _ _ _ (@pt_not _ _ _ _ (@pt_val _ _ _ (@cc _ _ _ _ _ _ _ _ _ _ (by exact C_l_no_fuller) (by exact (hr.mono (by decide))) (@pa_consN _ _ _ _ _ (@cc _ _ _ _ _ _ _ _ _ _ (by exact C_put_at) (by exact (hr.mono (by decide))) (@pa_consN _ _ _ _ _ (pv 0) (@pa_consN _ _ _ _ _ (pv 3) pa_nil (by first | rfl | decide | exact Or.inl rfl | exact Or.inr rfl | (intro _; rfl) | (intro _ _; rfl) | (intro _ _ _; rfl))) (by first | rfl | decide | exact Or.inl rfl | exact Or.inr rfl | (intro _; rfl) | (intro _ _; rfl) | (intro _ _ _; rfl))) (by first | rfl | decide | exact Or.inl rfl | exact Or.inr rfl | (intro _; rfl) | (intro _ _; rfl) | (intro _ _ _; rfl)) (by first | rfl | decide | exact Or.inl rfl | exact Or.inr rfl | (intro _; rfl) | (intro _ _; rfl) | (intro _ _ _; rfl)) (by first | rfl | decide | exact Or.inl rfl | exact Or.inr rfl | (intro _; rfl) | (intro _ _; rfl) | (intro _ _ _; rfl)) (by first | rfl | decide | exact Or.inl rfl | exact Or.inr rfl | (intro _; rfl) | (intro _ _; rfl) | (intro _ _ _; rfl))) (@pa_consN _ _ _ _ _ (@cc _ _ _ _ _ _ _ _ _ _ (by exact C_put_at) (by exact (hr.mono (by decide))) (@pa_consN _ _ _ _ _ (pv 1) (@pa_consN _ _ _ _ _ (pv 5) pa_nil (by first | rfl | decide | exact Or.inl rfl | exact Or.inr rfl | (intro _; rfl) | (intro _ _; rfl) | (intro _ _ _; rfl))) (by first | rfl | decide | exact Or.inl rfl | exact Or.inr rfl | (intro _; rfl) | (intro _ _; rfl) | (intro _ _ _; rfl))) (by first | rfl | decide | exact Or.inl rfl | exact Or.inr rfl | (intro _; rfl) | (intro _ _; rfl) | (intro _ _ _; rfl)) (by first | rfl | decide | exact Or.inl rfl | exact Or.inr rfl | (intro _; rfl) | (intro _ _; rfl) | (intro _ _ _; rfl)) (by first | rfl | decide | exact Or.inl rfl | exact Or.inr rfl | (intro _; rfl) | (intro _ _; rfl) | (intro _ _ _; rfl)) (by first | rfl | decide | exact Or.inl rfl | exact Or.inr rfl | (intro _; rfl) | (intro _ _; rfl) | (intro _ _ _; rfl))) pa_nil (by first | rfl | decide | exact Or.inl rfl | exact Or.inr rfl | (intro _; rfl) | (intro _ _; rfl) | (intro _ _ _; rfl))) (by first | rfl | decide | exact Or.inl rfl | exact Or.inr rfl | (intro _; rfl) | (intro _ _; rfl) | (intro _ _ _; rfl))) (by first | rfl | decide | exact Or.inl rfl | exact Or.inr rfl | (intro _; rfl) | (intro _ _; rfl) | (intro _ _ _; rfl)) (by first | rfl | decide | exact Or.inl rfl | exact Or.inr rfl | (intro _; rfl) | (intro _ _; rfl) | (intro _ _ _; rfl)) (by first | rfl | decide | exact Or.inl rfl | exact Or.inr rfl | (intro _; rfl) | (intro _ _; rfl) | (intro _ _ _; rfl)) (by first | rfl | decide | exact Or.inl rfl | exact Or.inr rfl | (intro _; rfl) | (intro _ _; rfl) | (intro _ _ _; rfl))) (by first | rfl | decide | exact Or.inl rfl | exact Or.inr rfl | (intro _; rfl) | (intro _ _; rfl) | (intro _ _ _; rfl)))) (@pss_one _ _ _ (@ps_ret _ _ _ _ pe_bl)) pss_nil)) (by first | rfl | decide | exact Or.inl rfl | exact Or.inr rfl | (intro _; rfl) | (intro _ _; rfl) | (intro _ _ _; rfl)))) (by first | rfl | decide | exact Or.inl rfl | exact Or.inr rfl | (intro _; rfl) | (intro _ _; rfl) | (intro _ _ _; rfl))) (@pss_cons _ _ _ _ _ (@ps_for _ _ _ _ _ _ _ _ (by exact PassesOwn.never) (by rfl) (@pi_range2 _ _ _ _ _ _ _ (by rfl) (by exact T.z_range) (@pa_consN _ _ _ _ _ pe_int (@pa_consN _ _ _ _ _ (@pe_op _ _ _ _ _ _ _ _ op_add (@pe_callB _ _ _ _ _ _ _ _ _ (call_sumT (by rfl)) (by rfl) (by exact T.z_sum) (by exact bt_sum) (@pa_consN _ _ _ _ _ (pv 0) pa_nil (by first | rfl | decide | exact Or.inl rfl | exact Or.inr rfl | (intro _; rfl) | (intro _ _; rfl) | (intro _ _ _; rfl))) (by first | rfl | decide | exact Or.inl rfl | exact Or.inr rfl | (intro _; rfl) | (intro _ _; rfl) | (intro _ _ _; rfl)) (by first | rfl | decide | exact Or.inl rfl | exact Or.inr rfl | (intro _; rfl) | (intro _ _; rfl) | (intro _ _ _; rfl)) (by first | rfl | decide | exact Or.inl rfl | exact Or.inr rfl | (intro _; rfl) | (intro _ _; rfl) | (intro _ _ _; rfl)) (by first | rfl | decide | exact Or.inl rfl | exact Or.inr rfl | (intro _; rfl) | (intro _ _; rfl) | (intro _ _ _; rfl))) pe_int) pa_nil (by first | rfl | decide | exact Or.inl rfl | exact Or.inr rfl | (intro _; rfl) | (intro _ _; rfl) | (intro _ _ _; rfl))) (by first | rfl | decide | exact Or.inl rfl | exact Or.inr rfl | (intro _; rfl) | (intro _ _; rfl) | (intro _ _ _; rfl))) (by first | rfl | decide | exact Or.inl rfl | exact Or.inr rfl | (intro _; rfl) | (intro _ _; rfl) | (intro _ _ _; rfl)) (by first | rfl | decide | exact Or.inl rfl | exact Or.inr rfl | (intro _; rfl) | (intro _ _; rfl) | (intro _ _ _; rfl))) (@pg_name _ _ (4) _ (by exact S.nd) (by rfl) (by first | exact Or.inl rfl | exact Or.inr rfl) (by first | rfl | decide | exact Or.inl rfl | exact Or.inr rfl | (intro _; rfl) | (intro _ _; rfl) | (intro _ _ _; rfl))) (@pss_cons _ _ _ _ _ (@ps_set _ _ (6) _ _ _ _ (by exact S.nd) (by rfl) (by first | exact Or.inl rfl | exact Or.inr rfl) (@cc _ _ _ _ _ _ _ _ _ _ (by exact C_taken_from) (by exact (hr.mono (by decide))) (@pa_consN _ _ _ _ _ (pv 0) (@pa_consN _ _ _ _ _ (@cc _ _ _ _ _ _ _ _ _ _ (by exact C_l_rank_of) (by exact (hr.mono (by decide))) (@pa_consN _ _ _ _ _ (pv 0) (@pa_consN _ _ _ _ _ (pv 4) pa_nil (by first | rfl | decide | exact Or.inl rfl | exact Or.inr rfl | (intro _; rfl) | (intro _ _; rfl) | (intro _ _ _; rfl))) (by first | rfl | decide | exact Or.inl rfl | exact Or.inr rfl | (intro _; rfl) | (intro _ _; rfl) | (intro _ _ _; rfl))) (by first | rfl | decide | exact Or.inl rfl | exact Or.inr rfl | (intro _; rfl) | (intro _ _; rfl) | (intro _ _ _; rfl)) (by first | rfl | decide | exact Or.inl rfl | exact Or.inr rfl | (intro _; rfl) | (intro _ _; rfl) | (intro _ _ _; rfl)) (by first | rfl | decide | exact Or.inl rfl | exact Or.inr rfl | (intro _; rfl) | (intro _ _; rfl) | (intro _ _ _; rfl)) (by first | rfl | decide | exact Or.inl rfl | exact Or.inr rfl | (intro _; rfl) | (intro _ _; rfl) | (intro _ _ _; rfl))) pa_nil (by first | rfl | decide | exact Or.inl rfl | exact Or.inr rfl | (intro _; rfl) | (intro _ _; rfl) | (intro _ _ _; rfl))) (by first | rfl | decide | exact Or.inl rfl | exact Or.inr rfl | (intro _; rfl) | (intro _ _; rfl) | (intro _ _ _; rfl))) (by first | rfl | decide | exact Or.inl rfl | exact Or.inr rfl | (intro _; rfl) | (intro _ _; rfl) | (intro _ _ _; rfl)) (by first | rfl | decide | exact Or.inl rfl | exact Or.inr rfl | (intro _; rfl) | (intro _ _; rfl) | (intro _ _ _; rfl)) (by first | rfl | decide | exact Or.inl rfl | exact Or.inr rfl | (intro _; rfl) | (intro _ _; rfl) | (intro _ _ _; rfl)) (by first | rfl | decide | exact Or.inl rfl | exact Or.inr rfl | (intro _; rfl) | (intro _ _; rfl) | (intro _ _ _; rfl))) (by first | rfl | decide | exact Or.inl rfl | exact Or.inr rfl | (intro _; rfl) | (intro _ _; rfl) | (intro _ _ _; rfl)) (by first | rfl | decide | exact Or.inl rfl | exact Or.inr rfl | (intro _; rfl) | (intro _ _; rfl) | (intro _ _ _; rfl))) (@pss_one _ _ _ (@ps_if _ _ _ _ _ _ _ _ (@pt_not _ _ _ _ (@pt_val _ _ _ (@cc _ _ _ _ _ _ _ _ _ _ (by exact C_l_no_fuller) (by exact (hr.mono (by decide))) (@pa_consN _ _ _ _ _ (pv 6) (@pa_consN _ _ _ _ _ (@cc _ _ _ _ _ _ _ _ _ _ (by exact C_taken_from) (by exact (hr.mono (by decide))) (@pa_consN _ _ _ _ _ (pv 1) (@pa_consN _ _ _ _ _ (@cc _ _ _ _ _ _ _ _ _ _ (by exact C_l_rank_of) (by exact (hr.mono (by decide))) (@pa_consN _ _ _ _ _ (pv 1) (@pa_consN _ _ _ _ _ (pv 4) pa_nil (by first | rfl | decide | exact Or.inl rfl | exact Or.inr rfl | (intro _; rfl) | (intro _ _; rfl) | (intro _ _ _; rfl))) (by first | rfl | decide | exact Or.inl rfl | exact Or.inr rfl | (intro _; rfl) | (intro _ _; rfl) | (intro _ _ _; rfl))) (by first | rfl | decide | exact Or.inl rfl | exact Or.inr rfl | (intro _; rfl) | (intro _ _; rfl) | (intro _ _ _; rfl)) (by first | rfl | decide | exact Or.inl rfl | exact Or.inr rfl | (intro _; rfl) | (intro _ _; rfl) | (intro _ _ _; rfl)) (by first | rfl | decide | exact Or.inl rfl | exact Or.inr rfl | (intro _; rfl) | (intro _ _; rfl) | (intro _ _ _; rfl)) (by first | rfl | decide | exact Or.inl rfl | exact Or.inr rfl | (intro _; rfl) | (intro _ _; rfl) | (intro _ _ _; rfl))) pa_nil (by first | rfl | decide | exact Or.inl rfl | exact Or.inr rfl | (intro _; rfl) | (intro _ _; rfl) | (intro _ _ _; rfl))) (by first | rfl | decide | exact Or.inl rfl | exact Or.inr rfl | (intro _; rfl) | (intro _ _; rfl) | (intro _ _ _; rfl))) (by first | rfl | decide | exact Or.inl rfl | exact Or.inr rfl | (intro _; rfl) | (intro _ _; rfl) | (intro _ _ _; rfl)) (by first | rfl | decide | exact Or.inl rfl | exact Or.inr rfl | (intro _; rfl) | (intro _ _; rfl) | (intro _ _ _; rfl)) (by first | rfl | decide | exact Or.inl rfl | exact Or.inr rfl | (intro _; rfl) | (intro _ _; rfl) | (intro _ _ _; rfl)) (by first | rfl | decide | exact Or.inl rfl | exact Or.inr rfl | (intro _; rfl) | (intro _ _; rfl) | (intro _ _ _; rfl))) pa_nil (by first | rfl | decide | exact Or.inl rfl | exact Or.inr rfl | (intro _; rfl) | (intro _ _; rfl) | (intro _ _ _; rfl))) (by first | rfl | decide | exact Or.inl rfl | exact Or.inr rfl | (intro _; rfl) | (intro _ _; rfl) | (intro _ _ _; rfl))) (by first | rfl | decide | exact Or.inl rfl | exact Or.inr rfl | (intro _; rfl) | (intro _ _; rfl) | (intro _ _ _; rfl)) (by first | rfl | decide | exact Or.inl rfl | exact Or.inr rfl | (intro _; rfl) | (intro _ _; rfl) | (intro _ _ _; rfl)) (by first | rfl | decide | exact Or.inl rfl | exact Or.inr rfl | (intro _; rfl) | (intro _ _; rfl) | (intro _ _ _; rfl)) (by first | rfl | decide | exact Or.inl rfl | exact Or.inr rfl | (intro _; rfl) | (intro _ _; rfl) | (intro _ _ _; rfl))) (by first | rfl | decide | exact Or.inl rfl | exact Or.inr rfl | (intro _; rfl) | (intro _ _; rfl) | (intro _ _ _; rfl)))) (@pss_one _ _ _ (@ps_ret _ _ _ _ pe_bl)) pss_nil))) (by first | rfl | decide | exact Or.inl rfl | exact Or.inr rfl | (intro _; rfl) | (intro _ _; rfl) | (intro _ _ _; rfl))) (@pss_one _ _ _ (@ps_ret _ _ _ _ pe_bl))))), ?_⟩
  refine ⟨_, rfl, a, _, rfl, .inr (SqT.of ha), ?_⟩
  rw [show (iv ns).length = ns.length by simp]
  refine ⟨_, rfl, _, rfl, by omega, by omega, for_range (n := ((ns.length : Nat) : Int).toNat) (fun i σ H' => (∃ o3 o4 o5 o6, σ = [some (.ref a), some (.ref b), some (.int (ns.length : Nat)), o3, o4, o5, o6]) ∧ Same H H') ⟨⟨_, _, _, _, rfl⟩, Same.refl _⟩ ?_ ?_⟩
  · rintro i σ H1 hi ⟨⟨o3, o4, o5, o6, rfl⟩, s1⟩
    have hi' : i < ns.length := by simpa using hi
    refine ⟨_, rfl, _, _, rfl, rfl, _, rfl, by omega, by omega, for_range (n := ((0 + (i : Int)) + 1).toNat) (fun j σ H' => (∃ o4 o5 o6, σ = [some (.ref a), some (.ref b), some (.int (ns.length : Nat)), some (.int (0 + (i : Int))), o4, o5, o6]) ∧ Same H H') ⟨⟨_, _, _, rfl⟩, s1⟩ ?_ ?_⟩
    · rintro j σ H2 hj ⟨⟨o4, o5, o6, rfl⟩, s2⟩
      have hj' : j ≤ i := by omega
      have hj2 : j < ms.length := by omega
      refine ⟨_, rfl, _, rfl, a, ns, i, ns[i], (by show [V.ref a, V.int (0 + (i : Int))] = _; rw [Int.zero_add]), s2 _ _ ha, l6, List.getElem?_eq_getElem hi', fun c1 m1 H3 pm1 od1 hc1 s3 => ?_⟩
      refine ⟨_, rfl, _, rfl, b, ms, j, ms[j], (by show [V.ref b, V.int (0 + (j : Int))] = _; rw [Int.zero_add]), s3 _ _ (s2 _ _ hb), by omega, List.getElem?_eq_getElem hj2, fun c2 m2 H4 pm2 od2 hc2 s4 => ?_⟩
      have u1 := put_sum L1.d hi' pm1 od1
      have u2 := put_sum L2.d hj2 pm2 od2
      have al2 := al.2
      have lee : Le m1 m2 := fun q hq => put_le len L1.d L2.d le hi' hj' pm1 od1 pm2 od2 q (by omega)
      refine ⟨c1, c2, m1, m2, rfl, s4 _ _ hc1, hc2, ⟨by omega, by omega⟩, fun H5 bb s5 hbb => ⟨_, rfl, ?_⟩⟩
      rw [hbb.mpr lee]
      refine iteF ?_
      exact ⟨⟨_, _, _, rfl⟩, ((s2.trans s3).trans s4).trans s5⟩
    · rintro σ H2 ⟨⟨o4, o5, o6, rfl⟩, s2⟩
      exact ⟨⟨_, _, _, _, rfl⟩, s2⟩
  rintro σ H1 ⟨⟨o3, o4, o5, o6, rfl⟩, s1⟩
  have n0 : 0 ≤ ns.sum := by
    have := pre_mono L1.nn (Nat.zero_le ns.length) (Nat.le_refl _)
    rw [pre_zero, pre_all (Nat.le_refl _)] at this
    exact this
  refine ⟨_, rfl, a, ns, rfl, s1 _ _ ha, _, _, rfl, rfl, _, _, rfl, ⟨by omega, by omega, by omega, by omega⟩, for_range (n := (ns.sum + 1 - 1).toNat) (lo := 1) (fun i σ H' => (∃ o3 o4 o5 o6, σ = [some (.ref a), some (.ref b), some (.int (ns.length : Nat)), o3, o4, o5, o6]) ∧ Same H H') ⟨⟨_, _, _, _, rfl⟩, s1⟩ ?_ ?_⟩
  · rintro i σ H2 hi ⟨⟨o3, o4, o5, o6, rfl⟩, s2⟩
    have al2 := al.2
    refine ⟨_, rfl, _, rfl, _, rfl, a, ns, 1 + (i : Int), rfl, s2 _ _ ha, L1.nn, by omega, by omega, fun ro hro b1 _ z1 => ?_⟩
    refine ⟨a, ns, ro, ns[ro], rfl, s2 _ _ ha, l6, List.getElem?_eq_getElem hro, z1, fun c1 m1 H3 pm1 od1 hc1 s3 => ?_⟩
    refine ⟨_, rfl, _, rfl, _, rfl, _, rfl, b, ms, 1 + (i : Int), rfl, s3 _ _ (s2 _ _ hb), L2.nn, by omega, by omega, fun rt hrt _ b2 z2 => ?_⟩
    refine ⟨b, ms, rt, ms[rt], rfl, s3 _ _ (s2 _ _ hb), by omega, List.getElem?_eq_getElem hrt, z2, fun c2 m2 H4 pm2 od2 hc2 s4 => ?_⟩
    have u1 := take_sum L1.d hro pm1 od1
    have u2 := take_sum L2.d hrt pm2 od2
    have lee : Le m1 m2 := fun q hq => take_le len L1.d L2.d L1.nn L2.nn le hro hrt b1 b2 pm1 od1 pm2 od2 q (by omega)
    refine ⟨c1, c2, m1, m2, rfl, s4 _ _ hc1, hc2, ⟨by omega, by omega⟩, fun H5 bb s5 hbb => ⟨_, rfl, ?_⟩⟩
    rw [hbb.mpr lee]
    exact iteF ⟨⟨_, _, _, _, rfl⟩, ((s2.trans s3).trans s4).trans s5⟩
  · rintro σ H2 ⟨⟨o3, o4, o5, o6, rfl⟩, s2⟩
    exact k H2 s2
def spPair : Sp := fun vs H Q _ => ∃ a b ns ms, vs = [.ref a, .ref b] ∧ H a = some (.tup (iv ns)) ∧ H b = some (.tup (iv ms)) ∧ Alike ns ms ∧ Ld ns ∧ Ld ms ∧ ns.sum ≤ 2000 ∧ far ns ms ≤ 1000000 ∧ ∀ H', Same H H' → Q (.bl true) H'
theorem Path.plc {H : Hp} {one : List Int} : ∀ {a : List Int} {zs : List V} {b : List Int}, Path H one a zs b → ∀ v ∈ zs, Plc H a.length v
  | _, _, _, .nil _ => fun v hv => absurd hv (by simp)
  | a, _, _, .cons (g := g) (s := s) h w m p => fun v hv => by
    rcases List.mem_cons.mp hv with rfl | hv
    · exact ⟨_, g, s, rfl, h, by have := m.gs; have := m.sl; omega, m.sl⟩
    · have := Path.plc p v hv
      rw [step_len] at this
      exact this
theorem ok_pair (T : Txt2 mg) (C_moves : Cal P w K mg base "moves" ["one", "other"] 3 spMoves) (C_lets_moves : Cal P w K mg base "lets_moves" ["one", "other", "thing"] 4 spLetsG) (C_l_no_fuller : Cal P w K mg base "_law_no_fuller" ["_law_one", "_law_other_here"] 3 spNoF) (C_l_kept : Cal P w K mg base "_law_kept" ["_law_one", "_law_other_here"] 4 spKept)
    (F : FunAt K mg "_law_pair_right" ["_law_one", "_law_other_here"] s_l_pair_right) : Cal P w K mg base "_law_pair_right" ["_law_one", "_law_other_here"] 5 spPair := by
  have S := sc_l_pair_right
  refine F.cal sc_l_pair_right (fun vs H Q E h => ?_) (fun f cdv A outer s H vs Q E hr h => ?_)
  · obtain ⟨a, b, ns, ms, rfl, _⟩ := h; rfl
  obtain ⟨a, b, ns, ms, rfl, ha, hb, al, L1, L2, hs, hf, k⟩ := h
  have len := al.1
  have l6 := L1.l6
  have fi := full_iff al.1
  refine ⟨_, (@pss_cons _ _ _ _ _ (@ps_set _ _ (2) _ _ _ _ (by exact S.nd) (by rfl) (by first | exact Or.inl rfl | exact Or.inr rfl) (@cc _ _ _ _ _ _ _ _ _ _ (by exact C_moves) (by exact (hr.mono (by decide))) (@pa_consN _ _ _ _ _ (pv 0) (@pa_consN _ _ _ _ _ (pv 1) pa_nil (by first | rfl | decide | exact Or.inl rfl | exact Or.inr rfl | (intro _; rfl) | (intro _ _; rfl) | (intro _ _ _; rfl))) (by first | rfl | decide | exact Or.inl rfl | exact Or.inr rfl | (intro _; rfl) | (intro _ _; rfl) | (intro _ _ _; rfl))) (by first | rfl | decide | exact Or.inl rfl | exact Or.inr rfl | (intro _; rfl) | (intro _ _; rfl) | (intro _ _ _; rfl)) (by first | rfl | decide | exact Or.inl rfl | exact Or.inr rfl | (intro _; rfl) | (intro _ _; rfl) | (intro _ _ _; rfl)) (by first | rfl | decide | exact Or.inl rfl | exact Or.inr rfl | (intro _; rfl) | (intro _ _; rfl) | (intro _ _ _; rfl)) (by first | rfl | decide | exact Or.inl rfl | exact Or.inr rfl | (intro _; rfl) | (intro _ _; rfl) | (intro _ _ _; rfl))) (by first | rfl | decide | exact Or.inl rfl | exact Or.inr rfl | (intro _; rfl) | (intro _ _; rfl) | (intro _ _ _; rfl)) (by first | rfl | decide | exact Or.inl rfl | exact Or.inr rfl | (intro _; rfl) | (intro _ _; rfl) | (intro _ _ _; rfl))) (@pss_cons _ _ _ _ _ (@ps_if _ _ _ _ _ _ _ _ (@pt_cmpR _ _ _ _ _ _ _ _ op_ne (@pe_cmpR _ _ _ _ _ _ _ _ op_notN (pv 2) pe_non (by exact (nomark _))) (@cc _ _ _ _ _ _ _ _ _ _ (by exact C_l_no_fuller) (by exact (hr.mono (by decide))) (@pa_consN _ _ _ _ _ (pv 0) (@pa_consN _ _ _ _ _ (pv 1) pa_nil (by first | rfl | decide | exact Or.inl rfl | exact Or.inr rfl | (intro _; rfl) | (intro _ _; rfl) | (intro _ _ _; rfl))) (by first | rfl | decide | exact Or.inl rfl | exact Or.inr rfl | (intro _; rfl) | (intro _ _; rfl) | (intro _ _ _; rfl))) (by first | rfl | decide | exact Or.inl rfl | exact Or.inr rfl | (intro _; rfl) | (intro _ _; rfl) | (intro _ _ _; rfl)) (by first | rfl | decide | exact Or.inl rfl | exact Or.inr rfl | (intro _; rfl) | (intro _ _; rfl) | (intro _ _ _; rfl)) (by first | rfl | decide | exact Or.inl rfl | exact Or.inr rfl | (intro _; rfl) | (intro _ _; rfl) | (intro _ _ _; rfl)) (by first | rfl | decide | exact Or.inl rfl | exact Or.inr rfl | (intro _; rfl) | (intro _ _; rfl) | (intro _ _ _; rfl))) (by exact (nomark _))) (@pss_one _ _ _ (@ps_ret _ _ _ _ pe_bl)) pss_nil) (@pss_cons _ _ _ _ _ (@ps_if _ _ _ _ _ _ _ _ (@pt_cmpR _ _ _ _ _ _ _ _ op_isN (pv 2) pe_non (by exact (nomark _))) (@pss_one _ _ _ (@ps_ret _ _ _ _ pe_bl)) pss_nil) (@pss_one _ _ _ (@ps_ret _ _ _ _ (@pe_and _ _ _ _ _ _ _ (@pe_cmpR _ _ _ _ _ _ _ _ op_isB (@cc _ _ _ _ _ _ _ _ _ _ (by exact C_lets_moves) (by exact (hr.mono (by decide))) (@pa_consN _ _ _ _ _ (pv 0) (@pa_consN _ _ _ _ _ (pv 1) (@pa_consN _ _ _ _ _ (pv 2) pa_nil (by first | rfl | decide | exact Or.inl rfl | exact Or.inr rfl | (intro _; rfl) | (intro _ _; rfl) | (intro _ _ _; rfl))) (by first | rfl | decide | exact Or.inl rfl | exact Or.inr rfl | (intro _; rfl) | (intro _ _; rfl) | (intro _ _ _; rfl))) (by first | rfl | decide | exact Or.inl rfl | exact Or.inr rfl | (intro _; rfl) | (intro _ _; rfl) | (intro _ _ _; rfl))) (by first | rfl | decide | exact Or.inl rfl | exact Or.inr rfl | (intro _; rfl) | (intro _ _; rfl) | (intro _ _ _; rfl)) (by first | rfl | decide | exact Or.inl rfl | exact Or.inr rfl | (intro _; rfl) | (intro _ _; rfl) | (intro _ _ _; rfl)) (by first | rfl | decide | exact Or.inl rfl | exact Or.inr rfl | (intro _; rfl) | (intro _ _; rfl) | (intro _ _ _; rfl)) (by first | rfl | decide | exact Or.inl rfl | exact Or.inr rfl | (intro _; rfl) | (intro _ _; rfl) | (intro _ _ _; rfl))) pe_bl (by exact (nomark _))) (@pe_one _ _ _ _ _ (@cc _ _ _ _ _ _ _ _ _ _ (by exact C_l_kept) (by exact (hr.mono (by decide))) (@pa_consN _ _ _ _ _ (pv 0) (@pa_consN _ _ _ _ _ (pv 1) pa_nil (by first | rfl | decide | exact Or.inl rfl | exact Or.inr rfl | (intro _; rfl) | (intro _ _; rfl) | (intro _ _ _; rfl))) (by first | rfl | decide | exact Or.inl rfl | exact Or.inr rfl | (intro _; rfl) | (intro _ _; rfl) | (intro _ _ _; rfl))) (by first | rfl | decide | exact Or.inl rfl | exact Or.inr rfl | (intro _; rfl) | (intro _ _; rfl) | (intro _ _ _; rfl)) (by first | rfl | decide | exact Or.inl rfl | exact Or.inr rfl | (intro _; rfl) | (intro _ _; rfl) | (intro _ _ _; rfl)) (by first | rfl | decide | exact Or.inl rfl | exact Or.inr rfl | (intro _; rfl) | (intro _ _; rfl) | (intro _ _ _; rfl)) (by first | rfl | decide | exact Or.inl rfl | exact Or.inr rfl | (intro _; rfl) | (intro _ _; rfl) | (intro _ _ _; rfl)))))))))), ?_⟩
  refine ⟨_, rfl, _, rfl, a, b, ns, ms, rfl, ha, hb, by omega, hf, L1.d, L2.d, al, fun nf H1 s1 => ?_, fun fo l zs H1 s1 _ hl pth _ => ?_⟩
  · refine ⟨_, rfl, rfl, _, rfl, _, rfl, a, b, ns, ms, rfl, s1 _ _ ha, s1 _ _ hb, al, fun H2 bb s2 hbb => ?_⟩
    have e : bb = false := by
      cases bb with
      | false => rfl
      | true => exact absurd (fi.mpr (hbb.mp rfl)) nf
    subst e
    refine ⟨rfl, _, rfl, iteNS rfl ?_⟩
    exact ⟨_, rfl, rfl, _, rfl, iteT (k _ (s1.trans s2))⟩
  · have lee : Le ns ms := fi.mp fo
    refine ⟨_, rfl, rfl, _, rfl, _, rfl, a, b, ns, ms, rfl, s1 _ _ ha, s1 _ _ hb, al, fun H2 bb s2 hbb => ?_⟩
    obtain rfl : bb = true := hbb.mpr lee
    refine ⟨rfl, _, rfl, iteNS rfl ?_⟩
    refine ⟨_, rfl, rfl, _, rfl, iteF ?_⟩
    have s12 := s1.trans s2
    refine ⟨_, rfl, _, rfl, _, rfl, a, b, l, ns, ms, zs, rfl, s12 _ _ ha, s12 _ _ hb, by omega, al, s2 _ _ hl, Path.plc (pth.same s2), L2.d, fun H3 bb s3 hbb => ?_⟩
    obtain rfl : bb = true := hbb.mpr (pth.same s2).walk
    refine ⟨true, true, rfl, rfl, _, rfl, iteT ?_⟩
    have s13 := s12.trans s3
    exact ⟨_, rfl, _, rfl, a, b, ns, ms, rfl, s13 _ _ ha, s13 _ _ hb, al, L1, L2, lee, hs, fun H4 s4 => k _ (s13.trans s4)⟩
end
end My

set_option Elab.async false
set_option linter.all false
set_option maxRecDepth 100000
set_option maxHeartbeats 4000000
namespace L2
open PySem PySem.Spec PyProof.Rows MA
/-- len of a tuple, inside a comprehension, too -/
theorem call_lenT0 {X : Cx} : CallR X (.builtin "len") (fun xs H Q => ∃ p ys, xs = [.ref p] ∧ H p = some (.tup ys) ∧ Q (.int ys.length) H) := by
  intro pins s σ H xs us Q I r h
  obtain ⟨p, ys, e, hp, q⟩ := h
  exact call_len_seq pins s σ H xs us Q I r ⟨p, ys, e, .inr (SqT.of hp), q⟩
end L2
namespace My
open PySem L2 MA
theorem le_anti {ns ms : List Int} (al : Alike ns ms) (h1 : Le ns ms) (h2 : Le ms ns) : ns = ms := by
  have len := al.1
  have e : ∀ k, k ≤ ns.length → pre ns k = pre ms k := fun k hk => by have := h1 k hk; have := h2 k (by omega); omega
  refine List.ext_getElem len fun i hi hj => ?_
  have p1 := pre_succ hi
  have p2 := pre_succ hj
  have := e i (by omega)
  have := e (i + 1) (by omega)
  omega
section
variable {P : Program} {w : World} {K : PySem.W.Frag} {mg : Str → Option Value} {base : Heap}
def spForged : Sp := fun vs H Q _ => ∃ p a b ns ms m, vs = [.ref p, .ref a, .ref b] ∧ Pen H p m ∧ m < 50000 ∧ H a = some (.tup (iv ns)) ∧ H b = some (.tup (iv ms)) ∧ Alike ns ms ∧ Ld ns ∧ Ld ms ∧ ∀ H', Pen H' p (m + 30) → SameX p H H' → Q (.bl true) H'
theorem ok_forged (T : Txt2 mg) (C_l_draw : Cal P w K mg base "_law_draw" ["_law_pen_here", "_law_many"] 1 spDraw) (C_lets_moves : Cal P w K mg base "lets_moves" ["one", "other", "thing"] 4 spLetsG) (C_l_no_fuller : Cal P w K mg base "_law_no_fuller" ["_law_one", "_law_other_here"] 3 spNoF)
    (F : FunAt K mg "_law_forged_right" ["_law_pen_here", "_law_one", "_law_other_here"] s_l_forged_right) : Cal P w K mg base "_law_forged_right" ["_law_pen_here", "_law_one", "_law_other_here"] 5 spForged := by
  have S := sc_l_forged_right
  refine F.cal sc_l_forged_right (fun vs H Q E h => ?_) (fun f cdv A outer s H vs Q E hr h => ?_)
  · obtain ⟨p, a, b, ns, ms, m, rfl, _⟩ := h; rfl
  obtain ⟨p, a, b, ns, ms, m, rfl, pen, hm, ha, hb, al, L1, L2, k⟩ := h
  have len := al.1
  have l1 := L1.l1
  have l6 := L1.l6
  refine ⟨_, (@pss_cons _ _ _ _ _ (@ps_for _ _ _ _ _ _ _ _ (by exact PassesOwn.never) (by rfl) (@pi_range1 _ _ _ _ _ _ (by rfl) (by exact T.z_range) (@pa_consN _ _ _ _ _ pe_int pa_nil (by first | rfl | decide | exact Or.inl rfl | exact Or.inr rfl | (intro _; rfl) | (intro _ _; rfl) | (intro _ _ _; rfl))) (by first | rfl | decide | exact Or.inl rfl | exact Or.inr rfl | (intro _; rfl) | (intro _ _; rfl) | (intro _ _ _; rfl))) (@pg_name _ _ (3) _ (by exact S.nd) (by rfl) (by first | exact Or.inl rfl | exact Or.inr rfl) (by first | rfl | decide | exact Or.inl rfl | exact Or.inr rfl | (intro _; rfl) | (intro _ _; rfl) | (intro _ _ _; rfl))) (@pss_cons _ _ _ _ _ (@ps_comp _ _ _ _ _ _ _ _ _ _ _ _ _ _ _ (4) _ (by exact S.nd) (by rfl) (by first | exact Or.inl rfl | exact Or.inr rfl) (by rfl) (by exact (fun _ _ h => h)) (by decide +kernel) (by rfl) (by decide +kernel) (by exact hfr_of rfl) (by exact Sees.frees ["_law_j"] [("_law_pen_here", 0), ("_law_one", 1)] (fr_cons ⟨rfl, rfl⟩ (fr_cons ⟨rfl, rfl⟩ fr_nil))) (@pi_range1 _ _ _ _ _ _ (by rfl) (by exact T.z_range) (@pa_consN _ _ _ _ _ (@cc _ _ _ _ _ _ _ _ _ _ (by exact C_l_draw) (by exact (hr.mono (by decide))) (@pa_consN _ _ _ _ _ (pv 0) (@pa_consN _ _ _ _ _ pe_int pa_nil (by first | rfl | decide | exact Or.inl rfl | exact Or.inr rfl | (intro _; rfl) | (intro _ _; rfl) | (intro _ _ _; rfl))) (by first | rfl | decide | exact Or.inl rfl | exact Or.inr rfl | (intro _; rfl) | (intro _ _; rfl) | (intro _ _ _; rfl))) (by first | rfl | decide | exact Or.inl rfl | exact Or.inr rfl | (intro _; rfl) | (intro _ _; rfl) | (intro _ _ _; rfl)) (by first | rfl | decide | exact Or.inl rfl | exact Or.inr rfl | (intro _; rfl) | (intro _ _; rfl) | (intro _ _ _; rfl)) (by first | rfl | decide | exact Or.inl rfl | exact Or.inr rfl | (intro _; rfl) | (intro _ _; rfl) | (intro _ _ _; rfl)) (by first | rfl | decide | exact Or.inl rfl | exact Or.inr rfl | (intro _; rfl) | (intro _ _; rfl) | (intro _ _ _; rfl))) pa_nil (by first | rfl | decide | exact Or.inl rfl | exact Or.inr rfl | (intro _; rfl) | (intro _ _; rfl) | (intro _ _ _; rfl))) (by first | rfl | decide | exact Or.inl rfl | exact Or.inr rfl | (intro _; rfl) | (intro _ _; rfl) | (intro _ _ _; rfl))) (fun _ _ _ _ _ => @pg_name _ _ (0) _ (by exact (show (["_law_j", "_law_pen_here", "_law_one"] : List Str).Nodup by decide +kernel)) (by rfl) (by first | exact Or.inl rfl | exact Or.inr rfl) (by first | rfl | decide | exact Or.inl rfl | exact Or.inr rfl | (intro _; rfl) | (intro _ _; rfl) | (intro _ _ _; rfl))) (fun _ _ _ _ _ => pts_nil) (fun _ _ _ _ _ => (@pe_tup _ _ _ _ _ (@pa_consN _ _ _ _ _ (@cc _ _ _ _ _ _ _ _ _ _ (by exact C_l_draw) (by exact (hr.mono (by decide))) (@pa_consN _ _ _ _ _ (pv 1) (@pa_consN _ _ _ _ _ (@pe_callB _ _ _ _ _ _ _ _ _ call_lenT0 (by rfl) (by exact T.z_len) (by exact bt_len) (@pa_consN _ _ _ _ _ (pv 2) pa_nil (by first | rfl | decide | exact Or.inl rfl | exact Or.inr rfl | (intro _; rfl) | (intro _ _; rfl) | (intro _ _ _; rfl))) (by first | rfl | decide | exact Or.inl rfl | exact Or.inr rfl | (intro _; rfl) | (intro _ _; rfl) | (intro _ _ _; rfl)) (by first | rfl | decide | exact Or.inl rfl | exact Or.inr rfl | (intro _; rfl) | (intro _ _; rfl) | (intro _ _ _; rfl)) (by first | rfl | decide | exact Or.inl rfl | exact Or.inr rfl | (intro _; rfl) | (intro _ _; rfl) | (intro _ _ _; rfl)) (by first | rfl | decide | exact Or.inl rfl | exact Or.inr rfl | (intro _; rfl) | (intro _ _; rfl) | (intro _ _ _; rfl))) pa_nil (by first | rfl | decide | exact Or.inl rfl | exact Or.inr rfl | (intro _; rfl) | (intro _ _; rfl) | (intro _ _ _; rfl))) (by first | rfl | decide | exact Or.inl rfl | exact Or.inr rfl | (intro _; rfl) | (intro _ _; rfl) | (intro _ _ _; rfl))) (by first | rfl | decide | exact Or.inl rfl | exact Or.inr rfl | (intro _; rfl) | (intro _ _; rfl) | (intro _ _ _; rfl)) (by first | rfl | decide | exact Or.inl rfl | exact Or.inr rfl | (intro _; rfl) | (intro _ _; rfl) | (intro _ _ _; rfl)) (by first | rfl | decide | exact Or.inl rfl | exact Or.inr rfl | (intro _; rfl) | (intro _ _; rfl) | (intro _ _ _; rfl)) (by first | rfl | decide | exact Or.inl rfl | exact Or.inr rfl | (intro _; rfl) | (intro _ _; rfl) | (intro _ _ _; rfl))) (@pa_consN _ _ _ _ _ (@cc _ _ _ _ _ _ _ _ _ _ (by exact C_l_draw) (by exact (hr.mono (by decide))) (@pa_consN _ _ _ _ _ (pv 1) (@pa_consN _ _ _ _ _ (@pe_callB _ _ _ _ _ _ _ _ _ call_lenT0 (by rfl) (by exact T.z_len) (by exact bt_len) (@pa_consN _ _ _ _ _ (pv 2) pa_nil (by first | rfl | decide | exact Or.inl rfl | exact Or.inr rfl | (intro _; rfl) | (intro _ _; rfl) | (intro _ _ _; rfl))) (by first | rfl | decide | exact Or.inl rfl | exact Or.inr rfl | (intro _; rfl) | (intro _ _; rfl) | (intro _ _ _; rfl)) (by first | rfl | decide | exact Or.inl rfl | exact Or.inr rfl | (intro _; rfl) | (intro _ _; rfl) | (intro _ _ _; rfl)) (by first | rfl | decide | exact Or.inl rfl | exact Or.inr rfl | (intro _; rfl) | (intro _ _; rfl) | (intro _ _ _; rfl)) (by first | rfl | decide | exact Or.inl rfl | exact Or.inr rfl | (intro _; rfl) | (intro _ _; rfl) | (intro _ _ _; rfl))) pa_nil (by first | rfl | decide | exact Or.inl rfl | exact Or.inr rfl | (intro _; rfl) | (intro _ _; rfl) | (intro _ _ _; rfl))) (by first | rfl | decide | exact Or.inl rfl | exact Or.inr rfl | (intro _; rfl) | (intro _ _; rfl) | (intro _ _ _; rfl))) (by first | rfl | decide | exact Or.inl rfl | exact Or.inr rfl | (intro _; rfl) | (intro _ _; rfl) | (intro _ _ _; rfl)) (by first | rfl | decide | exact Or.inl rfl | exact Or.inr rfl | (intro _; rfl) | (intro _ _; rfl) | (intro _ _ _; rfl)) (by first | rfl | decide | exact Or.inl rfl | exact Or.inr rfl | (intro _; rfl) | (intro _ _; rfl) | (intro _ _ _; rfl)) (by first | rfl | decide | exact Or.inl rfl | exact Or.inr rfl | (intro _; rfl) | (intro _ _; rfl) | (intro _ _ _; rfl))) pa_nil (by first | rfl | decide | exact Or.inl rfl | exact Or.inr rfl | (intro _; rfl) | (intro _ _; rfl) | (intro _ _ _; rfl))) (by first | rfl | decide | exact Or.inl rfl | exact Or.inr rfl | (intro _; rfl) | (intro _ _; rfl) | (intro _ _ _; rfl))))) (by first | rfl | decide | exact Or.inl rfl | exact Or.inr rfl | (intro _; rfl) | (intro _ _; rfl) | (intro _ _ _; rfl)) (by first | rfl | decide | exact Or.inl rfl | exact Or.inr rfl | (intro _; rfl) | (intro _ _; rfl) | (intro _ _ _; rfl)) (by first | rfl | decide | exact Or.inl rfl | exact Or.inr rfl | (intro _; rfl) | (intro _ _; rfl) | (intro _ _ _; rfl))) (@pss_one _ _ _ (@ps_if _ _ _ _ _ _ _ _ (@PW.pt _ _ _ (@pw_and _ _ _ _ _ _ _ (@pt_cmpR _ _ _ _ _ _ _ _ op_isnotB (@cc _ _ _ _ _ _ _ _ _ _ (by exact C_lets_moves) (by exact (hr.mono (by decide))) (@pa_consN _ _ _ _ _ (pv 1) (@pa_consN _ _ _ _ _ (pv 2) (@pa_consN _ _ _ _ _ (pv 4) pa_nil (by first | rfl | decide | exact Or.inl rfl | exact Or.inr rfl | (intro _; rfl) | (intro _ _; rfl) | (intro _ _ _; rfl))) (by first | rfl | decide | exact Or.inl rfl | exact Or.inr rfl | (intro _; rfl) | (intro _ _; rfl) | (intro _ _ _; rfl))) (by first | rfl | decide | exact Or.inl rfl | exact Or.inr rfl | (intro _; rfl) | (intro _ _; rfl) | (intro _ _ _; rfl))) (by first | rfl | decide | exact Or.inl rfl | exact Or.inr rfl | (intro _; rfl) | (intro _ _; rfl) | (intro _ _ _; rfl)) (by first | rfl | decide | exact Or.inl rfl | exact Or.inr rfl | (intro _; rfl) | (intro _ _; rfl) | (intro _ _ _; rfl)) (by first | rfl | decide | exact Or.inl rfl | exact Or.inr rfl | (intro _; rfl) | (intro _ _; rfl) | (intro _ _ _; rfl)) (by first | rfl | decide | exact Or.inl rfl | exact Or.inr rfl | (intro _; rfl) | (intro _ _; rfl) | (intro _ _ _; rfl))) pe_bl (by exact (nomark _))) (@pw_and1 _ _ _ _ (@pt_not _ _ _ _ (@pt_val _ _ _ (@cc _ _ _ _ _ _ _ _ _ _ (by exact C_l_no_fuller) (by exact (hr.mono (by decide))) (@pa_consN _ _ _ _ _ (pv 1) (@pa_consN _ _ _ _ _ (pv 2) pa_nil (by first | rfl | decide | exact Or.inl rfl | exact Or.inr rfl | (intro _; rfl) | (intro _ _; rfl) | (intro _ _ _; rfl))) (by first | rfl | decide | exact Or.inl rfl | exact Or.inr rfl | (intro _; rfl) | (intro _ _; rfl) | (intro _ _ _; rfl))) (by first | rfl | decide | exact Or.inl rfl | exact Or.inr rfl | (intro _; rfl) | (intro _ _; rfl) | (intro _ _ _; rfl)) (by first | rfl | decide | exact Or.inl rfl | exact Or.inr rfl | (intro _; rfl) | (intro _ _; rfl) | (intro _ _ _; rfl)) (by first | rfl | decide | exact Or.inl rfl | exact Or.inr rfl | (intro _; rfl) | (intro _ _; rfl) | (intro _ _ _; rfl)) (by first | rfl | decide | exact Or.inl rfl | exact Or.inr rfl | (intro _; rfl) | (intro _ _; rfl) | (intro _ _ _; rfl))) (by first | rfl | decide | exact Or.inl rfl | exact Or.inr rfl | (intro _; rfl) | (intro _ _; rfl) | (intro _ _ _; rfl))))))) (@pss_one _ _ _ (@ps_ret _ _ _ _ pe_bl)) pss_nil))) (by first | rfl | decide | exact Or.inl rfl | exact Or.inr rfl | (intro _; rfl) | (intro _ _; rfl) | (intro _ _ _; rfl))) (@pss_one _ _ _ (@ps_ret _ _ _ _ pe_bl))), ?_⟩
  refine ⟨4, rfl, by decide, by decide, for_range (n := 4) (fun i σ H' => (∃ o3 o4, σ = [some (.ref p), some (.ref a), some (.ref b), o3, o4]) ∧ Pen H' p (m + 7 * i) ∧ SameX p H H') ⟨⟨_, _, rfl⟩, pen, SameX.refl _ _⟩ ?_ ?_⟩
  · rintro i σ H1 hi ⟨⟨o3, o4, rfl⟩, pen1, x1⟩
    have ha1 := pen.keep x1 ha
    have hb1 := pen.keep x1 hb
    refine ⟨_, rfl, p, _, _, rfl, pen1, by omega, by decide, by decide, fun n H2 n0 n4 pen2 x2 => ?_⟩
    have ha2 := pen1.keep x2 ha1
    have hb2 := pen1.keep x2 hb1
    refine ⟨n, rfl, by omega, by omega, comp_rng (n := n.toNat) (lo := 0) (fs := [some (.ref p), some (.ref a)]) (fun acc j ys H' => Pen H' p (m + 7 * i + 1 + 2 * j) ∧ SameX p H2 H' ∧ ∀ v ∈ ys, Plc H' ms.length v) (by omega) ?_ ?_ ?_⟩
    · exact fun acc hacc => ⟨pen2.same (same_new hacc _), Same.x (same_new hacc _), fun v hv => absurd hv (by simp)⟩
    · rintro acc j ys H' hacc hj hl ⟨p', x', hys⟩ hacc' Q' hQ
      have ha' := pen2.keep x' ha2
      refine ⟨_, rfl, _, rfl, a, _, rfl, ha', p, _, _, rfl, p', by omega, by simp; omega, by simp; omega, fun d1 H3 d10 d11 p3 x3 => ?_⟩
      refine ⟨_, rfl, _, rfl, a, _, rfl, p'.keep x3 ha', p, _, _, rfl, p3, by omega, by simp; omega, by simp; omega, fun d2 H4 d20 d21 p4 x4 => ?_⟩
      rw [List.length_map] at d11 d21
      refine ⟨(by show 2 ≤ sizeLine; decide), fun t ht => ?_⟩
      have s5 := same_new ht (.tup [.int d1, .int d2])
      have x34 := x3.trans x4
      have ht5 : (upd H4 t (.tup [.int d1, .int d2])) t = some (.tup [.int d1, .int d2]) := upd_same
      have hac5 := s5 _ _ (p'.keep x34 hacc')
      have pl : ∀ v, Plc H' ms.length v → Plc (upd H4 t (.tup [.int d1, .int d2])) ms.length v := fun v ⟨t', i', j', e, h1, h2⟩ => ⟨t', i', j', e, s5 _ _ (p'.keep x34 h1), h2⟩
      have p5 := p4.same s5
      have x5 := (x'.trans x34).trans s5.x
      generalize upd H4 t (.tup [.int d1, .int d2]) = H5 at s5 ht5 hac5 pl p5 x5
      have g := penX_upd hacc pen2 x5 p5 (.lst (ys ++ [.ref t]))
      refine hQ _ H5 hac5 ⟨g.1.mono (by omega), g.2, fun v hv => Plc.updL hac5 ?_⟩
      rcases List.mem_append.mp hv with z | z
      · exact pl v (hys v z)
      · rw [List.mem_singleton.mp z]
        exact ⟨t, d1.toNat, d2.toNat, rfl, by rw [ht5, Int.toNat_of_nonneg d10, Int.toNat_of_nonneg d20], by omega, by omega⟩
    rintro l ys H3 hl ⟨p3, x3, hys⟩ hl3 hlen
    have ha3 := pen2.keep x3 ha2
    have hb3 := pen2.keep x3 hb2
    have x03 := (x1.trans x2).trans x3
    refine ⟨_, rfl, _, rfl, _, rfl, a, b, l, ns, ms, ys, rfl, ha3, hb3, by omega, al, hl3, hys, L2.d, fun H4 bb s4 hbb => ?_⟩
    have fin : ∀ H', Same H3 H' → Pen H' p (m + 7 * (i + 1)) ∧ SameX p H H' := fun H' s' => ⟨(p3.same s').mono (by omega), x03.trans s'.x⟩
    cases bb with
    | false => exact ⟨false, false, rfl, rfl, _, rfl, iteF (iteF ⟨⟨_, _, rfl⟩, fin H4 s4⟩)⟩
    | true =>
      refine ⟨true, false, rfl, rfl, _, rfl, iteT ?_⟩
      have wk := (Walk.le L2.d (hbb.mp rfl)).2
      refine ⟨_, rfl, _, rfl, a, b, ns, ms, rfl, s4 _ _ ha3, s4 _ _ hb3, al, fun H5 b5 s5 h5 => ⟨_, rfl, ?_⟩⟩
      rw [h5.mpr fun q hq => wk q (by omega)]
      exact iteF ⟨⟨_, _, rfl⟩, fin H5 (s4.trans s5)⟩
  · rintro σ H1 ⟨⟨o3, o4, rfl⟩, pen1, x1⟩
    exact k H1 (pen1.mono (by omega)) x1
end
end My

set_option Elab.async false
set_option linter.all false
set_option maxRecDepth 100000
set_option maxHeartbeats 4000000
namespace My
open PySem L2 MA
section
variable {P : Program} {w : World} {K : PySem.W.Frag} {mg : Str → Option Value} {base : Heap}
def spThree : Sp := fun vs H Q _ => ∃ a b c ns ms ts, vs = [.ref a, .ref b, .ref c] ∧ H a = some (.tup (iv ns)) ∧ H b = some (.tup (iv ms)) ∧ H c = some (.tup (iv ts)) ∧ Alike ns ms ∧ Alike ms ts ∧ Ld ns ∧ Ld ms ∧ Ld ts ∧ far ns ms ≤ 1000000 ∧ far ms ts ≤ 1000000 ∧ ∀ H', Same H H' → Q (.bl true) H'
theorem ok_three (T : Txt2 mg) (C_moves : Cal P w K mg base "moves" ["one", "other"] 3 spMoves) (C_lets_moves : Cal P w K mg base "lets_moves" ["one", "other", "thing"] 4 spLetsG) (C_l_no_fuller : Cal P w K mg base "_law_no_fuller" ["_law_one", "_law_other_here"] 3 spNoF)
    (F : FunAt K mg "_law_three_right" ["_law_one", "_law_other_here", "_law_third"] s_l_three_right) : Cal P w K mg base "_law_three_right" ["_law_one", "_law_other_here", "_law_third"] 5 spThree := by
  have S := sc_l_three_right
  refine F.cal sc_l_three_right (fun vs H Q E h => ?_) (fun f cdv A outer s H vs Q E hr h => ?_)
  · obtain ⟨a, b, c, ns, ms, ts, rfl, _⟩ := h; rfl
  obtain ⟨a, b, c, ns, ms, ts, rfl, ha, hb, hc, al, al2, L1, L2, L3, hf, hf2, k⟩ := h
  have hu := hr.units0
  have len := al.1
  have len2 := al2.1
  have l6 := L1.l6
  have l62 := L2.l6
  refine ⟨_, (@pss_cons _ _ _ _ _ (@ps_if _ _ _ _ _ _ _ _ (@PW.pt _ _ _ (@pw_and _ _ _ _ _ _ _ (@pt_val _ _ _ (@cc _ _ _ _ _ _ _ _ _ _ (by exact C_l_no_fuller) (by exact (hr.mono (by decide))) (@pa_consN _ _ _ _ _ (pv 0) (@pa_consN _ _ _ _ _ (pv 1) pa_nil (by first | rfl | decide | exact Or.inl rfl | exact Or.inr rfl | (intro _; rfl) | (intro _ _; rfl) | (intro _ _ _; rfl))) (by first | rfl | decide | exact Or.inl rfl | exact Or.inr rfl | (intro _; rfl) | (intro _ _; rfl) | (intro _ _ _; rfl))) (by first | rfl | decide | exact Or.inl rfl | exact Or.inr rfl | (intro _; rfl) | (intro _ _; rfl) | (intro _ _ _; rfl)) (by first | rfl | decide | exact Or.inl rfl | exact Or.inr rfl | (intro _; rfl) | (intro _ _; rfl) | (intro _ _ _; rfl)) (by first | rfl | decide | exact Or.inl rfl | exact Or.inr rfl | (intro _; rfl) | (intro _ _; rfl) | (intro _ _ _; rfl)) (by first | rfl | decide | exact Or.inl rfl | exact Or.inr rfl | (intro _; rfl) | (intro _ _; rfl) | (intro _ _ _; rfl))) (by first | rfl | decide | exact Or.inl rfl | exact Or.inr rfl | (intro _; rfl) | (intro _ _; rfl) | (intro _ _ _; rfl))) (@pw_and1 _ _ _ _ (@pt_val _ _ _ (@cc _ _ _ _ _ _ _ _ _ _ (by exact C_l_no_fuller) (by exact (hr.mono (by decide))) (@pa_consN _ _ _ _ _ (pv 1) (@pa_consN _ _ _ _ _ (pv 2) pa_nil (by first | rfl | decide | exact Or.inl rfl | exact Or.inr rfl | (intro _; rfl) | (intro _ _; rfl) | (intro _ _ _; rfl))) (by first | rfl | decide | exact Or.inl rfl | exact Or.inr rfl | (intro _; rfl) | (intro _ _; rfl) | (intro _ _ _; rfl))) (by first | rfl | decide | exact Or.inl rfl | exact Or.inr rfl | (intro _; rfl) | (intro _ _; rfl) | (intro _ _ _; rfl)) (by first | rfl | decide | exact Or.inl rfl | exact Or.inr rfl | (intro _; rfl) | (intro _ _; rfl) | (intro _ _ _; rfl)) (by first | rfl | decide | exact Or.inl rfl | exact Or.inr rfl | (intro _; rfl) | (intro _ _; rfl) | (intro _ _ _; rfl)) (by first | rfl | decide | exact Or.inl rfl | exact Or.inr rfl | (intro _; rfl) | (intro _ _; rfl) | (intro _ _ _; rfl))) (by first | rfl | decide | exact Or.inl rfl | exact Or.inr rfl | (intro _; rfl) | (intro _ _; rfl) | (intro _ _ _; rfl)))))) (@pss_cons _ _ _ _ _ (@ps_set _ _ (3) _ _ _ _ (by exact S.nd) (by rfl) (by first | exact Or.inl rfl | exact Or.inr rfl) (@pe_op _ _ _ _ _ _ _ _ op_cat (@cc _ _ _ _ _ _ _ _ _ _ (by exact C_moves) (by exact (hr.mono (by decide))) (@pa_consN _ _ _ _ _ (pv 1) (@pa_consN _ _ _ _ _ (pv 2) pa_nil (by first | rfl | decide | exact Or.inl rfl | exact Or.inr rfl | (intro _; rfl) | (intro _ _; rfl) | (intro _ _ _; rfl))) (by first | rfl | decide | exact Or.inl rfl | exact Or.inr rfl | (intro _; rfl) | (intro _ _; rfl) | (intro _ _ _; rfl))) (by first | rfl | decide | exact Or.inl rfl | exact Or.inr rfl | (intro _; rfl) | (intro _ _; rfl) | (intro _ _ _; rfl)) (by first | rfl | decide | exact Or.inl rfl | exact Or.inr rfl | (intro _; rfl) | (intro _ _; rfl) | (intro _ _ _; rfl)) (by first | rfl | decide | exact Or.inl rfl | exact Or.inr rfl | (intro _; rfl) | (intro _ _; rfl) | (intro _ _ _; rfl)) (by first | rfl | decide | exact Or.inl rfl | exact Or.inr rfl | (intro _; rfl) | (intro _ _; rfl) | (intro _ _ _; rfl))) (@cc _ _ _ _ _ _ _ _ _ _ (by exact C_moves) (by exact (hr.mono (by decide))) (@pa_consN _ _ _ _ _ (pv 0) (@pa_consN _ _ _ _ _ (pv 1) pa_nil (by first | rfl | decide | exact Or.inl rfl | exact Or.inr rfl | (intro _; rfl) | (intro _ _; rfl) | (intro _ _ _; rfl))) (by first | rfl | decide | exact Or.inl rfl | exact Or.inr rfl | (intro _; rfl) | (intro _ _; rfl) | (intro _ _ _; rfl))) (by first | rfl | decide | exact Or.inl rfl | exact Or.inr rfl | (intro _; rfl) | (intro _ _; rfl) | (intro _ _ _; rfl)) (by first | rfl | decide | exact Or.inl rfl | exact Or.inr rfl | (intro _; rfl) | (intro _ _; rfl) | (intro _ _ _; rfl)) (by first | rfl | decide | exact Or.inl rfl | exact Or.inr rfl | (intro _; rfl) | (intro _ _; rfl) | (intro _ _ _; rfl)) (by first | rfl | decide | exact Or.inl rfl | exact Or.inr rfl | (intro _; rfl) | (intro _ _; rfl) | (intro _ _ _; rfl)))) (by first | rfl | decide | exact Or.inl rfl | exact Or.inr rfl | (intro _; rfl) | (intro _ _; rfl) | (intro _ _ _; rfl)) (by first | rfl | decide | exact Or.inl rfl | exact Or.inr rfl | (intro _; rfl) | (intro _ _; rfl) | (intro _ _ _; rfl))) (@pss_one _ _ _ (@ps_if _ _ _ _ _ _ _ _ (@PW.pt _ _ _ (@pw_or _ _ _ _ _ _ _ (@pt_not _ _ _ _ (@pt_val _ _ _ (@cc _ _ _ _ _ _ _ _ _ _ (by exact C_l_no_fuller) (by exact (hr.mono (by decide))) (@pa_consN _ _ _ _ _ (pv 0) (@pa_consN _ _ _ _ _ (pv 2) pa_nil (by first | rfl | decide | exact Or.inl rfl | exact Or.inr rfl | (intro _; rfl) | (intro _ _; rfl) | (intro _ _ _; rfl))) (by first | rfl | decide | exact Or.inl rfl | exact Or.inr rfl | (intro _; rfl) | (intro _ _; rfl) | (intro _ _ _; rfl))) (by first | rfl | decide | exact Or.inl rfl | exact Or.inr rfl | (intro _; rfl) | (intro _ _; rfl) | (intro _ _ _; rfl)) (by first | rfl | decide | exact Or.inl rfl | exact Or.inr rfl | (intro _; rfl) | (intro _ _; rfl) | (intro _ _ _; rfl)) (by first | rfl | decide | exact Or.inl rfl | exact Or.inr rfl | (intro _; rfl) | (intro _ _; rfl) | (intro _ _ _; rfl)) (by first | rfl | decide | exact Or.inl rfl | exact Or.inr rfl | (intro _; rfl) | (intro _ _; rfl) | (intro _ _ _; rfl))) (by first | rfl | decide | exact Or.inl rfl | exact Or.inr rfl | (intro _; rfl) | (intro _ _; rfl) | (intro _ _ _; rfl)))) (@pw_or1 _ _ _ _ (@pt_cmpR _ _ _ _ _ _ _ _ op_isnotB (@cc _ _ _ _ _ _ _ _ _ _ (by exact C_lets_moves) (by exact (hr.mono (by decide))) (@pa_consN _ _ _ _ _ (pv 0) (@pa_consN _ _ _ _ _ (pv 2) (@pa_consN _ _ _ _ _ (pv 3) pa_nil (by first | rfl | decide | exact Or.inl rfl | exact Or.inr rfl | (intro _; rfl) | (intro _ _; rfl) | (intro _ _ _; rfl))) (by first | rfl | decide | exact Or.inl rfl | exact Or.inr rfl | (intro _; rfl) | (intro _ _; rfl) | (intro _ _ _; rfl))) (by first | rfl | decide | exact Or.inl rfl | exact Or.inr rfl | (intro _; rfl) | (intro _ _; rfl) | (intro _ _ _; rfl))) (by first | rfl | decide | exact Or.inl rfl | exact Or.inr rfl | (intro _; rfl) | (intro _ _; rfl) | (intro _ _ _; rfl)) (by first | rfl | decide | exact Or.inl rfl | exact Or.inr rfl | (intro _; rfl) | (intro _ _; rfl) | (intro _ _ _; rfl)) (by first | rfl | decide | exact Or.inl rfl | exact Or.inr rfl | (intro _; rfl) | (intro _ _; rfl) | (intro _ _ _; rfl)) (by first | rfl | decide | exact Or.inl rfl | exact Or.inr rfl | (intro _; rfl) | (intro _ _; rfl) | (intro _ _ _; rfl))) pe_bl (by exact (nomark _)))))) (@pss_one _ _ _ (@ps_ret _ _ _ _ pe_bl)) pss_nil))) pss_nil) (@pss_one _ _ _ (@ps_ret _ _ _ _ (@pe_or _ _ _ _ _ _ _ (@pe_not _ _ _ _ (@cc _ _ _ _ _ _ _ _ _ _ (by exact C_l_no_fuller) (by exact (hr.mono (by decide))) (@pa_consN _ _ _ _ _ (pv 0) (@pa_consN _ _ _ _ _ (pv 1) pa_nil (by first | rfl | decide | exact Or.inl rfl | exact Or.inr rfl | (intro _; rfl) | (intro _ _; rfl) | (intro _ _ _; rfl))) (by first | rfl | decide | exact Or.inl rfl | exact Or.inr rfl | (intro _; rfl) | (intro _ _; rfl) | (intro _ _ _; rfl))) (by first | rfl | decide | exact Or.inl rfl | exact Or.inr rfl | (intro _; rfl) | (intro _ _; rfl) | (intro _ _ _; rfl)) (by first | rfl | decide | exact Or.inl rfl | exact Or.inr rfl | (intro _; rfl) | (intro _ _; rfl) | (intro _ _ _; rfl)) (by first | rfl | decide | exact Or.inl rfl | exact Or.inr rfl | (intro _; rfl) | (intro _ _; rfl) | (intro _ _ _; rfl)) (by first | rfl | decide | exact Or.inl rfl | exact Or.inr rfl | (intro _; rfl) | (intro _ _; rfl) | (intro _ _ _; rfl)))) (@pe_or _ _ _ _ _ _ _ (@pe_not _ _ _ _ (@cc _ _ _ _ _ _ _ _ _ _ (by exact C_l_no_fuller) (by exact (hr.mono (by decide))) (@pa_consN _ _ _ _ _ (pv 1) (@pa_consN _ _ _ _ _ (pv 0) pa_nil (by first | rfl | decide | exact Or.inl rfl | exact Or.inr rfl | (intro _; rfl) | (intro _ _; rfl) | (intro _ _ _; rfl))) (by first | rfl | decide | exact Or.inl rfl | exact Or.inr rfl | (intro _; rfl) | (intro _ _; rfl) | (intro _ _ _; rfl))) (by first | rfl | decide | exact Or.inl rfl | exact Or.inr rfl | (intro _; rfl) | (intro _ _; rfl) | (intro _ _ _; rfl)) (by first | rfl | decide | exact Or.inl rfl | exact Or.inr rfl | (intro _; rfl) | (intro _ _; rfl) | (intro _ _ _; rfl)) (by first | rfl | decide | exact Or.inl rfl | exact Or.inr rfl | (intro _; rfl) | (intro _ _; rfl) | (intro _ _ _; rfl)) (by first | rfl | decide | exact Or.inl rfl | exact Or.inr rfl | (intro _; rfl) | (intro _ _; rfl) | (intro _ _ _; rfl)))) (@pe_one _ _ _ _ _ (@pe_cmpR _ _ _ _ _ _ _ _ (op_eqT hu) (pv 0) (pv 1) (by exact (nomark _))))))))), ?_⟩
  refine ⟨_, rfl, _, rfl, a, b, ns, ms, rfl, ha, hb, al, fun H1 b1 s1 h1 => ⟨_, rfl, ?_⟩⟩
  cases b1 with
  | false =>
    refine iteF (iteF ?_)
    refine ⟨_, rfl, _, rfl, a, b, ns, ms, rfl, s1 _ _ ha, s1 _ _ hb, al, fun G2 g1 t2 e1 => ⟨_, rfl, ?_⟩⟩
    have t12 := s1.trans t2
    cases g1 with
    | false => exact ⟨_, rfl, iteT (k _ t12)⟩
    | true =>
      refine ⟨_, rfl, iteF ?_⟩
      refine ⟨_, rfl, _, rfl, b, a, ms, ns, rfl, t12 _ _ hb, t12 _ _ ha, ⟨al.1.symm, al.2.symm⟩, fun G3 g3 t3 e3 => ⟨_, rfl, ?_⟩⟩
      have t13 := t12.trans t3
      cases g3 with
      | false => exact ⟨_, rfl, iteT (k _ t13)⟩
      | true =>
        refine ⟨_, rfl, iteF ?_⟩
        refine ⟨_, rfl, _, rfl, a, b, _, _, rfl, rfl, SqT.of (t13 _ _ ha), SqT.of (t13 _ _ hb), flat_iv _, flat_iv _, ?_⟩
        rw [seq_iv, decide_eq_true (le_anti al (e1.mp rfl) (e3.mp rfl))]
        exact k _ t13
  | true =>
    refine iteT ⟨_, rfl, _, rfl, b, c, ms, ts, rfl, s1 _ _ hb, s1 _ _ hc, al2, fun H2 b2 s2 h2 => ⟨_, rfl, ?_⟩⟩
    cases b2 with
    | false =>
      refine iteF ?_
      have u2 := s1.trans s2
      refine ⟨_, rfl, _, rfl, a, b, ns, ms, rfl, u2 _ _ ha, u2 _ _ hb, al, fun G2 g1 t2 e1 => ⟨_, rfl, ?_⟩⟩
      have t12 := u2.trans t2
      cases g1 with
      | false => exact ⟨_, rfl, iteT (k _ t12)⟩
      | true =>
        refine ⟨_, rfl, iteF ?_⟩
        refine ⟨_, rfl, _, rfl, b, a, ms, ns, rfl, t12 _ _ hb, t12 _ _ ha, ⟨al.1.symm, al.2.symm⟩, fun G3 g3 t3 e3 => ⟨_, rfl, ?_⟩⟩
        have t13 := t12.trans t3
        cases g3 with
        | false => exact ⟨_, rfl, iteT (k _ t13)⟩
        | true =>
          refine ⟨_, rfl, iteF ?_⟩
          refine ⟨_, rfl, _, rfl, a, b, _, _, rfl, rfl, SqT.of (t13 _ _ ha), SqT.of (t13 _ _ hb), flat_iv _, flat_iv _, ?_⟩
          rw [seq_iv, decide_eq_true (le_anti al (e1.mp rfl) (e3.mp rfl))]
          exact k _ t13
    | true =>
      have le1 := h1.mp rfl
      have le2 := h2.mp rfl
      have s12 := s1.trans s2
      refine iteT ?_
      refine ⟨_, rfl, _, rfl, b, c, ms, ts, rfl, s12 _ _ hb, s12 _ _ hc, by omega, hf2, L2.d, L3.d, al2, fun z => absurd ((full_iff len2).mpr le2) z, fun _ l1 z1 H3 s3 _ hl1 p1 zl1 => ?_⟩
      have s13 := s12.trans s3
      refine ⟨_, rfl, _, rfl, a, b, ns, ms, rfl, s13 _ _ ha, s13 _ _ hb, by omega, hf, L1.d, L2.d, al, fun z => absurd ((full_iff len).mpr le1) z, fun _ l2 z2 H4 s4 _ hl2 p2 zl2 => ?_⟩
      have s14 := s13.trans s4
      refine ⟨l1, l2, z1, z2, rfl, rfl, s4 _ _ hl1, hl2, (by rw [sizeLine_eq]; omega), fun p hp => ?_⟩
      have s5 := same_new hp (.lst (z1 ++ z2))
      have s15 := s14.trans s5
      have hp5 : (upd H4 p (.lst (z1 ++ z2))) p = some (.lst (z1 ++ z2)) := upd_same
      have q1 := (p1.same s4).same s5
      have q2 := p2.same s5
      generalize upd H4 p (.lst (z1 ++ z2)) = H5 at s5 s15 hp5 q1 q2
      have al3 : Alike ns ts := ⟨by omega, by rw [al.2, al2.2]⟩
      have le3 : Le ns ts := fun q hq => Int.le_trans (le1 q hq) (le2 q (by omega))
      refine ⟨_, rfl, _, rfl, a, c, ns, ts, rfl, s15 _ _ ha, s15 _ _ hc, al3, fun H6 b6 s6 h6 => ⟨_, rfl, ?_⟩⟩
      rw [h6.mpr le3]
      refine iteF ?_
      have s16 := s15.trans s6
      refine ⟨_, rfl, _, rfl, _, rfl, a, c, p, ns, ts, z1 ++ z2, rfl, s16 _ _ ha, s16 _ _ hc, by omega, al3, s6 _ _ hp5, fun v hv => ?_, L3.d, fun H7 b7 s7 h7 => ?_⟩
      · rcases List.mem_append.mp hv with z | z
        · exact (Path.plc q1 v z).same s6
        · have := (Path.plc q2 v z).same s6
          rw [len2] at this
          exact this
      · obtain rfl : b7 = true := h7.mpr ((q1.walk.app q2.walk).same s6)
        refine ⟨true, true, rfl, rfl, _, rfl, iteF ?_⟩
        have u7 := s16.trans s7
        refine ⟨_, rfl, _, rfl, a, b, ns, ms, rfl, u7 _ _ ha, u7 _ _ hb, al, fun G2 g1 t2 e1 => ⟨_, rfl, ?_⟩⟩
        have t12 := u7.trans t2
        cases g1 with
        | false => exact ⟨_, rfl, iteT (k _ t12)⟩
        | true =>
          refine ⟨_, rfl, iteF ?_⟩
          refine ⟨_, rfl, _, rfl, b, a, ms, ns, rfl, t12 _ _ hb, t12 _ _ ha, ⟨al.1.symm, al.2.symm⟩, fun G3 g3 t3 e3 => ⟨_, rfl, ?_⟩⟩
          have t13 := t12.trans t3
          cases g3 with
          | false => exact ⟨_, rfl, iteT (k _ t13)⟩
          | true =>
            refine ⟨_, rfl, iteF ?_⟩
            refine ⟨_, rfl, _, rfl, a, b, _, _, rfl, rfl, SqT.of (t13 _ _ ha), SqT.of (t13 _ _ hb), flat_iv _, flat_iv _, ?_⟩
            rw [seq_iv, decide_eq_true (le_anti al (e1.mp rfl) (e3.mp rfl))]
            exact k _ t13
end
end My

set_option Elab.async false
set_option linter.all false
set_option maxRecDepth 100000
set_option maxHeartbeats 4000000
namespace My
open PySem L2 MA
theorem pre_b {B : Int} {l : List Int} (h : Sml B l) (b0 : 0 ≤ B) : ∀ k : Nat, -(B * k) ≤ pre l k ∧ pre l k ≤ B * k
  | 0 => by rw [pre_zero]; simp
  | k + 1 => by
    have ih := pre_b h b0 k
    have e : B * ((k + 1 : Nat) : Int) = B * k + B := by rw [Int.natCast_add, Int.mul_add]; simp
    by_cases c : k < l.length
    · rw [pre_succ c, e]
      have := h l[k] (List.getElem_mem c)
      omega
    · have e2 : pre l (k + 1) = pre l k := by rw [pre_all (by omega), pre_all (by omega)]
      rw [e2, e]
      omega
theorem far_small {ns ms : List Int} (h1 : Sml 300 ns) (h2 : Sml 300 ms) (hl : ns.length ≤ 10) : far ns ms ≤ 1000000 := by
  have key : ∀ n, n ≤ 11 → ((List.range n).map fun k => (pre ms k - pre ns k).toNat).sum ≤ n * 6000 := by
    intro n
    induction n with
    | zero => intro _; simp
    | succ n ih =>
      intro hn
      rw [List.range_succ, List.map_append, List.sum_append]
      have a1 := ih (by omega)
      have a2 := pre_b h1 (by decide) n
      have a3 := pre_b h2 (by decide) n
      simp
      omega
  have := key (ns.length + 1) (by omega)
  unfold far
  omega
theorem Ld.sml {ns : List Int} (h : Ld ns) : Sml 300 ns := fun x hx => by have := h.nn x hx; have := h.up x hx; omega
theorem Ld.far {ns ms : List Int} (h : Ld ns) (g : Ld ms) : My.far ns ms ≤ 1000000 := far_small h.sml g.sml (by have := h.l6; omega)
def evenF (S n : Nat) : List Int := (List.range n).map fun (at' : Nat) => ((S : Int) + n - 1 - at') / n
def fullF (S n : Nat) : List Int := (S : Int) :: List.replicate (n - 1) 0
def evB (S n : Nat) : Bool := decide ((evenF S n).sum = (S : Int)) && decide ((evenF S n).Pairwise (· ≥ ·)) && (evenF S n).all fun x => decide (0 ≤ x) && decide (x ≤ 300)
theorem ev_ok : ∀ n, n < 7 → ∀ S, S < 241 → n ≠ 0 → evB S n = true := by decide +kernel
theorem pre_cons (a : Int) (r : List Int) (k : Nat) : pre (a :: r) (k + 1) = a + pre r k := by simp [pre]
theorem full_le {S n : Nat} {ms : List Int} (l1 : 1 ≤ ms.length) (nn : ∀ x ∈ ms, 0 ≤ x) (s : ms.sum = (S : Int)) : Le ms (fullF S n) := by
  intro k hk
  have := pre_mono nn hk (Nat.le_refl _)
  rw [pre_all (Nat.le_refl _)] at this
  cases k with
  | zero => rw [pre_zero, pre_zero]; exact Int.le_refl _
  | succ k =>
    have e : pre (fullF S n) (k + 1) = S := by
      show pre ((S : Int) :: List.replicate (n - 1) 0) (k + 1) = S
      rw [pre_cons]
      simp [pre, List.take_replicate]
    omega
theorem even_le {S : Nat} {ms : List Int} (l1 : 1 ≤ ms.length) (l6 : ms.length ≤ 6) (d : ms.Pairwise (· ≥ ·)) (s : ms.sum = (S : Int)) : Le (evenF S ms.length) ms := by
  intro k hk
  have hk' : k ≤ ms.length := by simpa [evenF] using hk
  clear hk
  match ms, l1, l6, d, s, hk' with
  | [a], _, _, d, s, hk =>
    simp only [List.length_cons, List.length_nil] at hk ⊢
    simp [evenF, List.range_succ] at s ⊢
    match k, hk with
    | 0, _ => simp [pre]
    | 1, _ => simp [pre]; omega
  | [a, b], _, _, d, s, hk =>
    simp only [List.length_cons, List.length_nil] at hk ⊢
    simp [evenF, List.range_succ] at s d ⊢
    match k, hk with
    | 0, _ => simp [pre]
    | 1, _ => simp [pre]; omega
    | 2, _ => simp [pre]; omega
  | [a, b, c], _, _, d, s, hk =>
    simp only [List.length_cons, List.length_nil] at hk ⊢
    simp [evenF, List.range_succ] at s d ⊢
    match k, hk with
    | 0, _ => simp [pre]
    | 1, _ => simp [pre]; omega
    | 2, _ => simp [pre]; omega
    | 3, _ => simp [pre]; omega
  | [a, b, c, e], _, _, d, s, hk =>
    simp only [List.length_cons, List.length_nil] at hk ⊢
    simp [evenF, List.range_succ] at s d ⊢
    match k, hk with
    | 0, _ => simp [pre]
    | 1, _ => simp [pre]; omega
    | 2, _ => simp [pre]; omega
    | 3, _ => simp [pre]; omega
    | 4, _ => simp [pre]; omega
  | [a, b, c, e, f], _, _, d, s, hk =>
    simp only [List.length_cons, List.length_nil] at hk ⊢
    simp [evenF, List.range_succ] at s d ⊢
    obtain ⟨q, hq⟩ : ∃ q : Int, (S : Int) = 5 * q + 0 ∨ (S : Int) = 5 * q + 1 ∨ (S : Int) = 5 * q + 2 ∨ (S : Int) = 5 * q + 3 ∨ (S : Int) = 5 * q + 4 := ⟨(S : Int) / 5, by omega⟩
    match k, hk with
    | 0, _ => simp [pre]
    | 1, _ => simp [pre]; rcases hq with z | z | z | z | z <;> omega
    | 2, _ => simp [pre]; rcases hq with z | z | z | z | z <;> omega
    | 3, _ => simp [pre]; rcases hq with z | z | z | z | z <;> omega
    | 4, _ => simp [pre]; rcases hq with z | z | z | z | z <;> omega
    | 5, _ => simp [pre]; rcases hq with z | z | z | z | z <;> omega
  | [a, b, c, e, f, g], _, _, d, s, hk =>
    simp only [List.length_cons, List.length_nil] at hk ⊢
    simp [evenF, List.range_succ] at s d ⊢
    obtain ⟨q, hq⟩ : ∃ q : Int, (S : Int) = 6 * q + 0 ∨ (S : Int) = 6 * q + 1 ∨ (S : Int) = 6 * q + 2 ∨ (S : Int) = 6 * q + 3 ∨ (S : Int) = 6 * q + 4 ∨ (S : Int) = 6 * q + 5 := ⟨(S : Int) / 6, by omega⟩
    match k, hk with
    | 0, _ => simp [pre]
    | 1, _ => simp [pre]; rcases hq with z | z | z | z | z | z <;> omega
    | 2, _ => simp [pre]; rcases hq with z | z | z | z | z | z <;> omega
    | 3, _ => simp [pre]; rcases hq with z | z | z | z | z | z <;> omega
    | 4, _ => simp [pre]; rcases hq with z | z | z | z | z | z <;> omega
    | 5, _ => simp [pre]; rcases hq with z | z | z | z | z | z <;> omega
    | 6, _ => simp [pre]; rcases hq with z | z | z | z | z | z <;> omega
/-- a load of N boxes with S balls -/
structure GL (N S : Nat) (u : List Int) : Prop where
  ld : Ld u
  len : u.length = N
  sum : u.sum = (S : Int)
theorem GL.al {N S : Nat} {u v : List Int} (g : GL N S u) (h : GL N S v) : Alike u v := ⟨by rw [g.len, h.len], by rw [g.sum, h.sum]⟩
section
variable {P : Program} {w : World} {K : PySem.W.Frag} {mg : Str → Option Value} {base : Heap}
theorem joinA {C R : Addr → Hp → Prop} {G : Prop} (main : (∀ a h, C a h → R a h) → G) (key : ∀ a h, C a h → R a h) : G := main key
def TriAt (N S : Nat) (H : Hp) (v : V) : Prop := ∃ t x y z u w' r, v = .ref t ∧ H t = some (.tup [.ref x, .ref y, .ref z]) ∧ H x = some (.tup (iv u)) ∧ H y = some (.tup (iv w')) ∧ H z = some (.tup (iv r)) ∧ GL N S u ∧ GL N S w' ∧ GL N S r
theorem ok_law (T : Txt2 mg) (C_l_pen : Cal P w K mg base "_law_pen" ["_law_script"] 1 (spPen K)) (C_l_load : Cal P w K mg base "_law_load" ["_law_pen_here", "_law_most"] 2 spLoad) (C_l_other : Cal P w K mg base "_law_other" ["_law_pen_here", "_law_load_here"] 2 spOther)
    (C_l_pair_right : Cal P w K mg base "_law_pair_right" ["_law_one", "_law_other_here"] 5 spPair) (C_l_three_right : Cal P w K mg base "_law_three_right" ["_law_one", "_law_other_here", "_law_third"] 5 spThree) (C_l_forged_right : Cal P w K mg base "_law_forged_right" ["_law_pen_here", "_law_one", "_law_other_here"] 5 spForged) (C_l_no_fuller : Cal P w K mg base "_law_no_fuller" ["_law_one", "_law_other_here"] 3 spNoF)
    {f : Addr} {fd : FuncData} (F : Fun K "law" "law" s_law f fd) : FnOk P w K mg base CX0 6 f fd ["_law_script"] (spLaw K) := by
  have S := sc_law
  refine F.ok sc_law (fun vs H Q E h => ?_) (fun cdv A outer s H vs Q E hr h => ?_)
  · obtain ⟨a, ns, rfl, _⟩ := h; rfl
  obtain ⟨a, ns, rfl, hS, h63, k⟩ := h
  have hu := hr.units0
  refine ⟨_, (@pss_cons _ _ _ _ _ (@ps_set _ _ (1) _ _ _ _ (by exact S.nd) (by rfl) (by first | exact Or.inl rfl | exact Or.inr rfl) (@cc _ _ _ _ _ _ _ _ _ _ (by exact C_l_pen) (by exact (hr.mono (by decide))) (@pa_consN _ _ _ _ _ (pv 0) pa_nil (by first | rfl | decide | exact Or.inl rfl | exact Or.inr rfl | (intro _; rfl) | (intro _ _; rfl) | (intro _ _ _; rfl))) (by first | rfl | decide | exact Or.inl rfl | exact Or.inr rfl | (intro _; rfl) | (intro _ _; rfl) | (intro _ _ _; rfl)) (by first | rfl | decide | exact Or.inl rfl | exact Or.inr rfl | (intro _; rfl) | (intro _ _; rfl) | (intro _ _ _; rfl)) (by first | rfl | decide | exact Or.inl rfl | exact Or.inr rfl | (intro _; rfl) | (intro _ _; rfl) | (intro _ _ _; rfl)) (by first | rfl | decide | exact Or.inl rfl | exact Or.inr rfl | (intro _; rfl) | (intro _ _; rfl) | (intro _ _ _; rfl))) (by first | rfl | decide | exact Or.inl rfl | exact Or.inr rfl | (intro _; rfl) | (intro _ _; rfl) | (intro _ _ _; rfl)) (by first | rfl | decide | exact Or.inl rfl | exact Or.inr rfl | (intro _; rfl) | (intro _ _; rfl) | (intro _ _ _; rfl))) (@pss_cons _ _ _ _ _ (@ps_for _ _ _ _ _ _ _ _ (by exact PassesOwn.never) (by rfl) (@pi_range1 _ _ _ _ _ _ (by rfl) (by exact T.z_range) (@pa_consN _ _ _ _ _ pe_int pa_nil (by first | rfl | decide | exact Or.inl rfl | exact Or.inr rfl | (intro _; rfl) | (intro _ _; rfl) | (intro _ _ _; rfl))) (by first | rfl | decide | exact Or.inl rfl | exact Or.inr rfl | (intro _; rfl) | (intro _ _; rfl) | (intro _ _ _; rfl))) (@pg_name _ _ (2) _ (by exact S.nd) (by rfl) (by first | exact Or.inl rfl | exact Or.inr rfl) (by first | rfl | decide | exact Or.inl rfl | exact Or.inr rfl | (intro _; rfl) | (intro _ _; rfl) | (intro _ _ _; rfl))) (@pss_cons _ _ _ _ _ (@ps_set _ _ (3) _ _ _ _ (by exact S.nd) (by rfl) (by first | exact Or.inl rfl | exact Or.inr rfl) (@cc _ _ _ _ _ _ _ _ _ _ (by exact C_l_load) (by exact (hr.mono (by decide))) (@pa_consN _ _ _ _ _ (pv 1) (@pa_consN _ _ _ _ _ pe_int pa_nil (by first | rfl | decide | exact Or.inl rfl | exact Or.inr rfl | (intro _; rfl) | (intro _ _; rfl) | (intro _ _ _; rfl))) (by first | rfl | decide | exact Or.inl rfl | exact Or.inr rfl | (intro _; rfl) | (intro _ _; rfl) | (intro _ _ _; rfl))) (by first | rfl | decide | exact Or.inl rfl | exact Or.inr rfl | (intro _; rfl) | (intro _ _; rfl) | (intro _ _ _; rfl)) (by first | rfl | decide | exact Or.inl rfl | exact Or.inr rfl | (intro _; rfl) | (intro _ _; rfl) | (intro _ _ _; rfl)) (by first | rfl | decide | exact Or.inl rfl | exact Or.inr rfl | (intro _; rfl) | (intro _ _; rfl) | (intro _ _ _; rfl)) (by first | rfl | decide | exact Or.inl rfl | exact Or.inr rfl | (intro _; rfl) | (intro _ _; rfl) | (intro _ _ _; rfl))) (by first | rfl | decide | exact Or.inl rfl | exact Or.inr rfl | (intro _; rfl) | (intro _ _; rfl) | (intro _ _ _; rfl)) (by first | rfl | decide | exact Or.inl rfl | exact Or.inr rfl | (intro _; rfl) | (intro _ _; rfl) | (intro _ _ _; rfl))) (@pss_cons _ _ _ _ _ (@ps_set _ _ (4) _ _ _ _ (by exact S.nd) (by rfl) (by first | exact Or.inl rfl | exact Or.inr rfl) (@cc _ _ _ _ _ _ _ _ _ _ (by exact C_l_other) (by exact (hr.mono (by decide))) (@pa_consN _ _ _ _ _ (pv 1) (@pa_consN _ _ _ _ _ (pv 3) pa_nil (by first | rfl | decide | exact Or.inl rfl | exact Or.inr rfl | (intro _; rfl) | (intro _ _; rfl) | (intro _ _ _; rfl))) (by first | rfl | decide | exact Or.inl rfl | exact Or.inr rfl | (intro _; rfl) | (intro _ _; rfl) | (intro _ _ _; rfl))) (by first | rfl | decide | exact Or.inl rfl | exact Or.inr rfl | (intro _; rfl) | (intro _ _; rfl) | (intro _ _ _; rfl)) (by first | rfl | decide | exact Or.inl rfl | exact Or.inr rfl | (intro _; rfl) | (intro _ _; rfl) | (intro _ _ _; rfl)) (by first | rfl | decide | exact Or.inl rfl | exact Or.inr rfl | (intro _; rfl) | (intro _ _; rfl) | (intro _ _ _; rfl)) (by first | rfl | decide | exact Or.inl rfl | exact Or.inr rfl | (intro _; rfl) | (intro _ _; rfl) | (intro _ _ _; rfl))) (by first | rfl | decide | exact Or.inl rfl | exact Or.inr rfl | (intro _; rfl) | (intro _ _; rfl) | (intro _ _ _; rfl)) (by first | rfl | decide | exact Or.inl rfl | exact Or.inr rfl | (intro _; rfl) | (intro _ _; rfl) | (intro _ _ _; rfl))) (@pss_cons _ _ _ _ _ (@ps_set _ _ (5) _ _ _ _ (by exact S.nd) (by rfl) (by first | exact Or.inl rfl | exact Or.inr rfl) (@cc _ _ _ _ _ _ _ _ _ _ (by exact C_l_other) (by exact (hr.mono (by decide))) (@pa_consN _ _ _ _ _ (pv 1) (@pa_consN _ _ _ _ _ (pv 4) pa_nil (by first | rfl | decide | exact Or.inl rfl | exact Or.inr rfl | (intro _; rfl) | (intro _ _; rfl) | (intro _ _ _; rfl))) (by first | rfl | decide | exact Or.inl rfl | exact Or.inr rfl | (intro _; rfl) | (intro _ _; rfl) | (intro _ _ _; rfl))) (by first | rfl | decide | exact Or.inl rfl | exact Or.inr rfl | (intro _; rfl) | (intro _ _; rfl) | (intro _ _ _; rfl)) (by first | rfl | decide | exact Or.inl rfl | exact Or.inr rfl | (intro _; rfl) | (intro _ _; rfl) | (intro _ _ _; rfl)) (by first | rfl | decide | exact Or.inl rfl | exact Or.inr rfl | (intro _; rfl) | (intro _ _; rfl) | (intro _ _ _; rfl)) (by first | rfl | decide | exact Or.inl rfl | exact Or.inr rfl | (intro _; rfl) | (intro _ _; rfl) | (intro _ _ _; rfl))) (by first | rfl | decide | exact Or.inl rfl | exact Or.inr rfl | (intro _; rfl) | (intro _ _; rfl) | (intro _ _ _; rfl)) (by first | rfl | decide | exact Or.inl rfl | exact Or.inr rfl | (intro _; rfl) | (intro _ _; rfl) | (intro _ _ _; rfl))) (@pss_cons _ _ _ _ _ (@ps_set _ _ (6) _ _ _ _ (by exact S.nd) (by rfl) (by first | exact Or.inl rfl | exact Or.inr rfl) (@pe_callB _ _ _ _ _ _ _ _ _ call_len_seq (by rfl) (by exact T.z_len) (by exact bt_len) (@pa_consN _ _ _ _ _ (pv 3) pa_nil (by first | rfl | decide | exact Or.inl rfl | exact Or.inr rfl | (intro _; rfl) | (intro _ _; rfl) | (intro _ _ _; rfl))) (by first | rfl | decide | exact Or.inl rfl | exact Or.inr rfl | (intro _; rfl) | (intro _ _; rfl) | (intro _ _ _; rfl)) (by first | rfl | decide | exact Or.inl rfl | exact Or.inr rfl | (intro _; rfl) | (intro _ _; rfl) | (intro _ _ _; rfl)) (by first | rfl | decide | exact Or.inl rfl | exact Or.inr rfl | (intro _; rfl) | (intro _ _; rfl) | (intro _ _ _; rfl)) (by first | rfl | decide | exact Or.inl rfl | exact Or.inr rfl | (intro _; rfl) | (intro _ _; rfl) | (intro _ _ _; rfl))) (by first | rfl | decide | exact Or.inl rfl | exact Or.inr rfl | (intro _; rfl) | (intro _ _; rfl) | (intro _ _ _; rfl)) (by first | rfl | decide | exact Or.inl rfl | exact Or.inr rfl | (intro _; rfl) | (intro _ _; rfl) | (intro _ _ _; rfl))) (@pss_cons _ _ _ _ _ (@ps_set _ _ (7) _ _ _ _ (by exact S.nd) (by rfl) (by first | exact Or.inl rfl | exact Or.inr rfl) (@pe_op _ _ _ _ _ _ _ _ op_catS (@pe_tup _ _ _ _ _ (@pa_consN _ _ _ _ _ (@pe_callB _ _ _ _ _ _ _ _ _ (call_sumT (by rfl)) (by rfl) (by exact T.z_sum) (by exact bt_sum) (@pa_consN _ _ _ _ _ (pv 3) pa_nil (by first | rfl | decide | exact Or.inl rfl | exact Or.inr rfl | (intro _; rfl) | (intro _ _; rfl) | (intro _ _ _; rfl))) (by first | rfl | decide | exact Or.inl rfl | exact Or.inr rfl | (intro _; rfl) | (intro _ _; rfl) | (intro _ _ _; rfl)) (by first | rfl | decide | exact Or.inl rfl | exact Or.inr rfl | (intro _; rfl) | (intro _ _; rfl) | (intro _ _ _; rfl)) (by first | rfl | decide | exact Or.inl rfl | exact Or.inr rfl | (intro _; rfl) | (intro _ _; rfl) | (intro _ _ _; rfl)) (by first | rfl | decide | exact Or.inl rfl | exact Or.inr rfl | (intro _; rfl) | (intro _ _; rfl) | (intro _ _ _; rfl))) pa_nil (by first | rfl | decide | exact Or.inl rfl | exact Or.inr rfl | (intro _; rfl) | (intro _ _; rfl) | (intro _ _ _; rfl)))) (@pe_op _ _ _ _ _ _ _ _ op_repT (@pe_tup _ _ _ _ _ (@pa_consN _ _ _ _ _ pe_int pa_nil (by first | rfl | decide | exact Or.inl rfl | exact Or.inr rfl | (intro _; rfl) | (intro _ _; rfl) | (intro _ _ _; rfl)))) (@pe_op _ _ _ _ _ _ _ _ op_sub (pv 6) pe_int))) (by first | rfl | decide | exact Or.inl rfl | exact Or.inr rfl | (intro _; rfl) | (intro _ _; rfl) | (intro _ _ _; rfl)) (by first | rfl | decide | exact Or.inl rfl | exact Or.inr rfl | (intro _; rfl) | (intro _ _; rfl) | (intro _ _ _; rfl))) (@pss_cons _ _ _ _ _ (@ps_set _ _ (8) _ _ _ _ (by exact S.nd) (by rfl) (by first | exact Or.inl rfl | exact Or.inr rfl) (@pe_callTy _ _ _ _ _ _ _ _ _ call_tuple_of (by rfl) (by exact T.z_tuple) (by exact bt_tuple) (@pa_consN _ _ _ _ _ (@pe_comp _ _ _ _ _ _ _ _ _ _ _ _ _ (by rfl) (by exact (fun _ _ h => h)) (by decide +kernel) (by rfl) (by decide +kernel) (by exact hfr_of rfl) (by exact Sees.frees ["_law_at"] [("_law_n", 6), ("_law_one", 3)] (fr_cons ⟨rfl, rfl⟩ (fr_cons ⟨rfl, rfl⟩ fr_nil))) (@pi_range1 _ _ _ _ _ _ (by rfl) (by exact T.z_range) (@pa_consN _ _ _ _ _ (pv 6) pa_nil (by first | rfl | decide | exact Or.inl rfl | exact Or.inr rfl | (intro _; rfl) | (intro _ _; rfl) | (intro _ _ _; rfl))) (by first | rfl | decide | exact Or.inl rfl | exact Or.inr rfl | (intro _; rfl) | (intro _ _; rfl) | (intro _ _ _; rfl))) (fun _ _ _ _ _ => @pg_name _ _ (0) _ (by exact (show (["_law_at", "_law_n", "_law_one"] : List Str).Nodup by decide +kernel)) (by rfl) (by first | exact Or.inl rfl | exact Or.inr rfl) (by first | rfl | decide | exact Or.inl rfl | exact Or.inr rfl | (intro _; rfl) | (intro _ _; rfl) | (intro _ _ _; rfl))) (fun _ _ _ _ _ => pts_nil) (fun _ _ _ _ _ => (@pe_op _ _ _ _ _ _ _ _ op_fdiv (@pe_op _ _ _ _ _ _ _ _ op_sub (@pe_op _ _ _ _ _ _ _ _ op_sub (@pe_op _ _ _ _ _ _ _ _ op_add (@pe_callB _ _ _ _ _ _ _ _ _ (call_sumT (by rfl)) (by rfl) (by exact T.z_sum) (by exact bt_sum) (@pa_consN _ _ _ _ _ (pv 2) pa_nil (by first | rfl | decide | exact Or.inl rfl | exact Or.inr rfl | (intro _; rfl) | (intro _ _; rfl) | (intro _ _ _; rfl))) (by first | rfl | decide | exact Or.inl rfl | exact Or.inr rfl | (intro _; rfl) | (intro _ _; rfl) | (intro _ _ _; rfl)) (by first | rfl | decide | exact Or.inl rfl | exact Or.inr rfl | (intro _; rfl) | (intro _ _; rfl) | (intro _ _ _; rfl)) (by first | rfl | decide | exact Or.inl rfl | exact Or.inr rfl | (intro _; rfl) | (intro _ _; rfl) | (intro _ _ _; rfl)) (by first | rfl | decide | exact Or.inl rfl | exact Or.inr rfl | (intro _; rfl) | (intro _ _; rfl) | (intro _ _ _; rfl))) (pv 1)) pe_int) (pv 0)) (pv 1))) (by first | rfl | decide | exact Or.inl rfl | exact Or.inr rfl | (intro _; rfl) | (intro _ _; rfl) | (intro _ _ _; rfl))) pa_nil (by first | rfl | decide | exact Or.inl rfl | exact Or.inr rfl | (intro _; rfl) | (intro _ _; rfl) | (intro _ _ _; rfl))) (by first | rfl | decide | exact Or.inl rfl | exact Or.inr rfl | (intro _; rfl) | (intro _ _; rfl) | (intro _ _ _; rfl)) (by first | rfl | decide | exact Or.inl rfl | exact Or.inr rfl | (intro _; rfl) | (intro _ _; rfl) | (intro _ _ _; rfl)) (by first | rfl | decide | exact Or.inl rfl | exact Or.inr rfl | (intro _; rfl) | (intro _ _; rfl) | (intro _ _ _; rfl)) (by first | rfl | decide | exact Or.inl rfl | exact Or.inr rfl | (intro _; rfl) | (intro _ _; rfl) | (intro _ _ _; rfl))) (by first | rfl | decide | exact Or.inl rfl | exact Or.inr rfl | (intro _; rfl) | (intro _ _; rfl) | (intro _ _ _; rfl)) (by first | rfl | decide | exact Or.inl rfl | exact Or.inr rfl | (intro _; rfl) | (intro _ _; rfl) | (intro _ _ _; rfl))) (@pss_cons _ _ _ _ _ (@ps_for _ _ _ _ _ _ _ _ (by exact PassesOwn.never) (by rfl) (@pi_list _ _ _ _ (@pe_lst _ _ _ _ (@pa_consN _ _ _ _ _ (@pe_tup _ _ _ _ _ (@pa_consN _ _ _ _ _ (pv 3) (@pa_consN _ _ _ _ _ (pv 4) (@pa_consN _ _ _ _ _ (pv 5) pa_nil (by first | rfl | decide | exact Or.inl rfl | exact Or.inr rfl | (intro _; rfl) | (intro _ _; rfl) | (intro _ _ _; rfl))) (by first | rfl | decide | exact Or.inl rfl | exact Or.inr rfl | (intro _; rfl) | (intro _ _; rfl) | (intro _ _ _; rfl))) (by first | rfl | decide | exact Or.inl rfl | exact Or.inr rfl | (intro _; rfl) | (intro _ _; rfl) | (intro _ _ _; rfl)))) (@pa_consN _ _ _ _ _ (@pe_tup _ _ _ _ _ (@pa_consN _ _ _ _ _ (pv 5) (@pa_consN _ _ _ _ _ (pv 4) (@pa_consN _ _ _ _ _ (pv 3) pa_nil (by first | rfl | decide | exact Or.inl rfl | exact Or.inr rfl | (intro _; rfl) | (intro _ _; rfl) | (intro _ _ _; rfl))) (by first | rfl | decide | exact Or.inl rfl | exact Or.inr rfl | (intro _; rfl) | (intro _ _; rfl) | (intro _ _ _; rfl))) (by first | rfl | decide | exact Or.inl rfl | exact Or.inr rfl | (intro _; rfl) | (intro _ _; rfl) | (intro _ _ _; rfl)))) (@pa_consN _ _ _ _ _ (@pe_tup _ _ _ _ _ (@pa_consN _ _ _ _ _ (pv 8) (@pa_consN _ _ _ _ _ (pv 3) (@pa_consN _ _ _ _ _ (pv 7) pa_nil (by first | rfl | decide | exact Or.inl rfl | exact Or.inr rfl | (intro _; rfl) | (intro _ _; rfl) | (intro _ _ _; rfl))) (by first | rfl | decide | exact Or.inl rfl | exact Or.inr rfl | (intro _; rfl) | (intro _ _; rfl) | (intro _ _ _; rfl))) (by first | rfl | decide | exact Or.inl rfl | exact Or.inr rfl | (intro _; rfl) | (intro _ _; rfl) | (intro _ _ _; rfl)))) (@pa_consN _ _ _ _ _ (@pe_tup _ _ _ _ _ (@pa_consN _ _ _ _ _ (pv 4) (@pa_consN _ _ _ _ _ (pv 3) (@pa_consN _ _ _ _ _ (pv 5) pa_nil (by first | rfl | decide | exact Or.inl rfl | exact Or.inr rfl | (intro _; rfl) | (intro _ _; rfl) | (intro _ _ _; rfl))) (by first | rfl | decide | exact Or.inl rfl | exact Or.inr rfl | (intro _; rfl) | (intro _ _; rfl) | (intro _ _ _; rfl))) (by first | rfl | decide | exact Or.inl rfl | exact Or.inr rfl | (intro _; rfl) | (intro _ _; rfl) | (intro _ _ _; rfl)))) pa_nil (by first | rfl | decide | exact Or.inl rfl | exact Or.inr rfl | (intro _; rfl) | (intro _ _; rfl) | (intro _ _ _; rfl))) (by first | rfl | decide | exact Or.inl rfl | exact Or.inr rfl | (intro _; rfl) | (intro _ _; rfl) | (intro _ _ _; rfl))) (by first | rfl | decide | exact Or.inl rfl | exact Or.inr rfl | (intro _; rfl) | (intro _ _; rfl) | (intro _ _ _; rfl))) (by first | rfl | decide | exact Or.inl rfl | exact Or.inr rfl | (intro _; rfl) | (intro _ _; rfl) | (intro _ _ _; rfl))))) (@pg_tup _ _ _ _ _ _ (by rfl) (@pgs_cons _ _ _ _ _ (@pg_name _ _ (9) _ (by exact S.nd) (by rfl) (by first | exact Or.inl rfl | exact Or.inr rfl) (by first | rfl | decide | exact Or.inl rfl | exact Or.inr rfl | (intro _; rfl) | (intro _ _; rfl) | (intro _ _ _; rfl))) (@pgs_cons _ _ _ _ _ (@pg_name _ _ (10) _ (by exact S.nd) (by rfl) (by first | exact Or.inl rfl | exact Or.inr rfl) (by first | rfl | decide | exact Or.inl rfl | exact Or.inr rfl | (intro _; rfl) | (intro _ _; rfl) | (intro _ _ _; rfl))) (@pgs_cons _ _ _ _ _ (@pg_name _ _ (11) _ (by exact S.nd) (by rfl) (by first | exact Or.inl rfl | exact Or.inr rfl) (by first | rfl | decide | exact Or.inl rfl | exact Or.inr rfl | (intro _; rfl) | (intro _ _; rfl) | (intro _ _ _; rfl))) pgs_nil (by first | rfl | decide | exact Or.inl rfl | exact Or.inr rfl | (intro _; rfl) | (intro _ _; rfl) | (intro _ _ _; rfl))) (by first | rfl | decide | exact Or.inl rfl | exact Or.inr rfl | (intro _; rfl) | (intro _ _; rfl) | (intro _ _ _; rfl))) (by first | rfl | decide | exact Or.inl rfl | exact Or.inr rfl | (intro _; rfl) | (intro _ _; rfl) | (intro _ _ _; rfl))) (by first | rfl | decide | exact Or.inl rfl | exact Or.inr rfl | (intro _; rfl) | (intro _ _; rfl) | (intro _ _ _; rfl)) (by first | rfl | decide | exact Or.inl rfl | exact Or.inr rfl | (intro _; rfl) | (intro _ _; rfl) | (intro _ _ _; rfl))) (@pss_cons _ _ _ _ _ (@ps_if _ _ _ _ _ _ _ _ (@PW.pt _ _ _ (@pw_or _ _ _ _ _ _ _ (@pt_not _ _ _ _ (@pt_val _ _ _ (@cc _ _ _ _ _ _ _ _ _ _ (by exact C_l_pair_right) (by exact (hr.mono (by decide))) (@pa_consN _ _ _ _ _ (pv 9) (@pa_consN _ _ _ _ _ (pv 10) pa_nil (by first | rfl | decide | exact Or.inl rfl | exact Or.inr rfl | (intro _; rfl) | (intro _ _; rfl) | (intro _ _ _; rfl))) (by first | rfl | decide | exact Or.inl rfl | exact Or.inr rfl | (intro _; rfl) | (intro _ _; rfl) | (intro _ _ _; rfl))) (by first | rfl | decide | exact Or.inl rfl | exact Or.inr rfl | (intro _; rfl) | (intro _ _; rfl) | (intro _ _ _; rfl)) (by first | rfl | decide | exact Or.inl rfl | exact Or.inr rfl | (intro _; rfl) | (intro _ _; rfl) | (intro _ _ _; rfl)) (by first | rfl | decide | exact Or.inl rfl | exact Or.inr rfl | (intro _; rfl) | (intro _ _; rfl) | (intro _ _ _; rfl)) (by first | rfl | decide | exact Or.inl rfl | exact Or.inr rfl | (intro _; rfl) | (intro _ _; rfl) | (intro _ _ _; rfl))) (by first | rfl | decide | exact Or.inl rfl | exact Or.inr rfl | (intro _; rfl) | (intro _ _; rfl) | (intro _ _ _; rfl)))) (@pw_or1 _ _ _ _ (@pt_not _ _ _ _ (@pt_val _ _ _ (@cc _ _ _ _ _ _ _ _ _ _ (by exact C_l_three_right) (by exact (hr.mono (by decide))) (@pa_consN _ _ _ _ _ (pv 9) (@pa_consN _ _ _ _ _ (pv 10) (@pa_consN _ _ _ _ _ (pv 11) pa_nil (by first | rfl | decide | exact Or.inl rfl | exact Or.inr rfl | (intro _; rfl) | (intro _ _; rfl) | (intro _ _ _; rfl))) (by first | rfl | decide | exact Or.inl rfl | exact Or.inr rfl | (intro _; rfl) | (intro _ _; rfl) | (intro _ _ _; rfl))) (by first | rfl | decide | exact Or.inl rfl | exact Or.inr rfl | (intro _; rfl) | (intro _ _; rfl) | (intro _ _ _; rfl))) (by first | rfl | decide | exact Or.inl rfl | exact Or.inr rfl | (intro _; rfl) | (intro _ _; rfl) | (intro _ _ _; rfl)) (by first | rfl | decide | exact Or.inl rfl | exact Or.inr rfl | (intro _; rfl) | (intro _ _; rfl) | (intro _ _ _; rfl)) (by first | rfl | decide | exact Or.inl rfl | exact Or.inr rfl | (intro _; rfl) | (intro _ _; rfl) | (intro _ _ _; rfl)) (by first | rfl | decide | exact Or.inl rfl | exact Or.inr rfl | (intro _; rfl) | (intro _ _; rfl) | (intro _ _ _; rfl))) (by first | rfl | decide | exact Or.inl rfl | exact Or.inr rfl | (intro _; rfl) | (intro _ _; rfl) | (intro _ _ _; rfl))))))) (@pss_one _ _ _ (@ps_ret _ _ _ _ pe_bl)) pss_nil) (@pss_one _ _ _ (@ps_if _ _ _ _ _ _ _ _ (@PW.pt _ _ _ (@pw_or _ _ _ _ _ _ _ (@pt_not _ _ _ _ (@pt_val _ _ _ (@cc _ _ _ _ _ _ _ _ _ _ (by exact C_l_forged_right) (by exact (hr.mono (by decide))) (@pa_consN _ _ _ _ _ (pv 1) (@pa_consN _ _ _ _ _ (pv 9) (@pa_consN _ _ _ _ _ (pv 10) pa_nil (by first | rfl | decide | exact Or.inl rfl | exact Or.inr rfl | (intro _; rfl) | (intro _ _; rfl) | (intro _ _ _; rfl))) (by first | rfl | decide | exact Or.inl rfl | exact Or.inr rfl | (intro _; rfl) | (intro _ _; rfl) | (intro _ _ _; rfl))) (by first | rfl | decide | exact Or.inl rfl | exact Or.inr rfl | (intro _; rfl) | (intro _ _; rfl) | (intro _ _ _; rfl))) (by first | rfl | decide | exact Or.inl rfl | exact Or.inr rfl | (intro _; rfl) | (intro _ _; rfl) | (intro _ _ _; rfl)) (by first | rfl | decide | exact Or.inl rfl | exact Or.inr rfl | (intro _; rfl) | (intro _ _; rfl) | (intro _ _ _; rfl)) (by first | rfl | decide | exact Or.inl rfl | exact Or.inr rfl | (intro _; rfl) | (intro _ _; rfl) | (intro _ _ _; rfl)) (by first | rfl | decide | exact Or.inl rfl | exact Or.inr rfl | (intro _; rfl) | (intro _ _; rfl) | (intro _ _ _; rfl))) (by first | rfl | decide | exact Or.inl rfl | exact Or.inr rfl | (intro _; rfl) | (intro _ _; rfl) | (intro _ _ _; rfl)))) (@pw_or1 _ _ _ _ (@pt_not _ _ _ _ (@pt_val _ _ _ (@cc _ _ _ _ _ _ _ _ _ _ (by exact C_l_no_fuller) (by exact (hr.mono (by decide))) (@pa_consN _ _ _ _ _ (pv 9) (@pa_consN _ _ _ _ _ (pv 9) pa_nil (by first | rfl | decide | exact Or.inl rfl | exact Or.inr rfl | (intro _; rfl) | (intro _ _; rfl) | (intro _ _ _; rfl))) (by first | rfl | decide | exact Or.inl rfl | exact Or.inr rfl | (intro _; rfl) | (intro _ _; rfl) | (intro _ _ _; rfl))) (by first | rfl | decide | exact Or.inl rfl | exact Or.inr rfl | (intro _; rfl) | (intro _ _; rfl) | (intro _ _ _; rfl)) (by first | rfl | decide | exact Or.inl rfl | exact Or.inr rfl | (intro _; rfl) | (intro _ _; rfl) | (intro _ _ _; rfl)) (by first | rfl | decide | exact Or.inl rfl | exact Or.inr rfl | (intro _; rfl) | (intro _ _; rfl) | (intro _ _ _; rfl)) (by first | rfl | decide | exact Or.inl rfl | exact Or.inr rfl | (intro _; rfl) | (intro _ _; rfl) | (intro _ _ _; rfl))) (by first | rfl | decide | exact Or.inl rfl | exact Or.inr rfl | (intro _; rfl) | (intro _ _; rfl) | (intro _ _ _; rfl))))))) (@pss_one _ _ _ (@ps_ret _ _ _ _ pe_bl)) pss_nil))) (by first | rfl | decide | exact Or.inl rfl | exact Or.inr rfl | (intro _; rfl) | (intro _ _; rfl) | (intro _ _ _; rfl))) (@pss_one _ _ _ (@ps_if _ _ _ _ _ _ _ _ (@PW.pt _ _ _ (@pw_or _ _ _ _ _ _ _ (@pt_not _ _ _ _ (@pt_val _ _ _ (@cc _ _ _ _ _ _ _ _ _ _ (by exact C_l_no_fuller) (by exact (hr.mono (by decide))) (@pa_consN _ _ _ _ _ (pv 8) (@pa_consN _ _ _ _ _ (pv 4) pa_nil (by first | rfl | decide | exact Or.inl rfl | exact Or.inr rfl | (intro _; rfl) | (intro _ _; rfl) | (intro _ _ _; rfl))) (by first | rfl | decide | exact Or.inl rfl | exact Or.inr rfl | (intro _; rfl) | (intro _ _; rfl) | (intro _ _ _; rfl))) (by first | rfl | decide | exact Or.inl rfl | exact Or.inr rfl | (intro _; rfl) | (intro _ _; rfl) | (intro _ _ _; rfl)) (by first | rfl | decide | exact Or.inl rfl | exact Or.inr rfl | (intro _; rfl) | (intro _ _; rfl) | (intro _ _ _; rfl)) (by first | rfl | decide | exact Or.inl rfl | exact Or.inr rfl | (intro _; rfl) | (intro _ _; rfl) | (intro _ _ _; rfl)) (by first | rfl | decide | exact Or.inl rfl | exact Or.inr rfl | (intro _; rfl) | (intro _ _; rfl) | (intro _ _ _; rfl))) (by first | rfl | decide | exact Or.inl rfl | exact Or.inr rfl | (intro _; rfl) | (intro _ _; rfl) | (intro _ _ _; rfl)))) (@pw_or1 _ _ _ _ (@pt_not _ _ _ _ (@pt_val _ _ _ (@cc _ _ _ _ _ _ _ _ _ _ (by exact C_l_no_fuller) (by exact (hr.mono (by decide))) (@pa_consN _ _ _ _ _ (pv 4) (@pa_consN _ _ _ _ _ (pv 7) pa_nil (by first | rfl | decide | exact Or.inl rfl | exact Or.inr rfl | (intro _; rfl) | (intro _ _; rfl) | (intro _ _ _; rfl))) (by first | rfl | decide | exact Or.inl rfl | exact Or.inr rfl | (intro _; rfl) | (intro _ _; rfl) | (intro _ _ _; rfl))) (by first | rfl | decide | exact Or.inl rfl | exact Or.inr rfl | (intro _; rfl) | (intro _ _; rfl) | (intro _ _ _; rfl)) (by first | rfl | decide | exact Or.inl rfl | exact Or.inr rfl | (intro _; rfl) | (intro _ _; rfl) | (intro _ _ _; rfl)) (by first | rfl | decide | exact Or.inl rfl | exact Or.inr rfl | (intro _; rfl) | (intro _ _; rfl) | (intro _ _ _; rfl)) (by first | rfl | decide | exact Or.inl rfl | exact Or.inr rfl | (intro _; rfl) | (intro _ _; rfl) | (intro _ _ _; rfl))) (by first | rfl | decide | exact Or.inl rfl | exact Or.inr rfl | (intro _; rfl) | (intro _ _; rfl) | (intro _ _ _; rfl))))))) (@pss_one _ _ _ (@ps_ret _ _ _ _ pe_bl)) pss_nil))))))))) (by first | rfl | decide | exact Or.inl rfl | exact Or.inr rfl | (intro _; rfl) | (intro _ _; rfl) | (intro _ _ _; rfl))) (@pss_one _ _ _ (@ps_ret _ _ _ _ pe_bl)))), ?_⟩
  refine ⟨_, rfl, a, ns, rfl, hS, fun p H0 s0 pen0 => ?_⟩
  refine ⟨3, rfl, by decide, by decide, for_range (n := 3) (fun i σ H2 => (∃ o2 o3 o4 o5 o6 o7 o8 o9 o10 o11, σ = [some (.ref a), some (.ref p), o2, o3, o4, o5, o6, o7, o8, o9, o10, o11]) ∧ Pen H2 p (170 * i)) ⟨⟨_, _, _, _, _, _, _, _, _, _, rfl⟩, pen0⟩ ?_ ?_⟩
  · rintro i σ H2 hi ⟨⟨o2, o3, o4, o5, o6, o7, o8, o9, o10, o11, rfl⟩, pen⟩
    refine ⟨_, rfl, p, _, 39, rfl, by decide, by decide, pen, by omega, fun b1 n1 H3 h1 ld pen3 x3 => ?_⟩
    have sm1 : Sml 40 n1 := fun x hx => by have := ld.2.2.1 x hx; omega
    have nn1 : ∀ x ∈ n1, 0 ≤ x := fun x hx => (ld.2.2.1 x hx).1
    have l1 := ld.1
    have l1' := ld.2.1
    refine ⟨_, rfl, _, rfl, p, b1, n1, _, 40, rfl, pen3, by omega, h1, l1, l1', sm1, nn1, fun b2 n2 H3' h2' e2 sm2 su2 nn2 od2 pen3' x3' => ?_⟩
    have h1a := pen3.keep x3' h1
    refine ⟨_, rfl, _, rfl, p, b2, n2, _, _, rfl, pen3', by omega, h2', by omega, by omega, sm2, nn2, fun b5 n5 H4 h5 e5 sm5 su5 nn5 od5 pen4 x4 => ?_⟩
    have h1' := pen3'.keep x4 h1a
    have h2 := pen3'.keep x4 h2'
    have x24 := (x3.trans x3').trans x4
    refine ⟨_, rfl, b1, _, rfl, .inr (SqT.of h1'), ?_⟩
    obtain ⟨S, hS1, hS2⟩ : ∃ S : Nat, n1.sum = (S : Int) ∧ S < 241 := by
      have h0 : ∀ l : List Int, (∀ x ∈ l, 0 ≤ x ∧ x ≤ 40) → 0 ≤ l.sum ∧ l.sum ≤ 40 * l.length := by
        intro l
        induction l with
        | nil => intro _; simp
        | cons a r ih =>
          intro h
          have a1 := h a (by simp)
          have a2 := ih fun x hx => h x (by simp [hx])
          simp
          omega
      have := h0 n1 ld.2.2.1
      exact ⟨n1.sum.toNat, by omega, by omega⟩
    obtain ⟨N, hN⟩ : ∃ N : Nat, N = n1.length := ⟨_, rfl⟩
    have ev := ev_ok N (by omega) S hS2 (by omega)
    unfold evB at ev
    simp only [Bool.and_eq_true, decide_eq_true_eq, List.all_eq_true] at ev
    obtain ⟨⟨ev1, ev2⟩, ev4⟩ := ev
    have GA : GL N S n1 := ⟨⟨l1, l1', ld.2.2.2, nn1, fun x hx => by have := sm1 x hx; omega⟩, hN.symm, hS1⟩
    have GB : GL N S n2 := ⟨⟨by omega, by omega, od2, nn2, fun x hx => by have := sm2 x hx; omega⟩, by omega, by omega⟩
    have GC : GL N S n5 := ⟨⟨by omega, by omega, od5, nn5, fun x hx => by have := sm5 x hx; omega⟩, by omega, by omega⟩
    have lev : (evenF S N).length = N := by simp [evenF]
    have Ge : GL N S (evenF S N) := ⟨⟨by omega, by omega, ev2, fun x hx => (ev4 x hx).1, fun x hx => (ev4 x hx).2⟩, lev, ev1⟩
    have lfu : (fullF S N).length = N := by simp [fullF]; omega
    have Gf : GL N S (fullF S N) := by
      refine ⟨⟨by omega, by omega, ?_, fun x hx => ?_, fun x hx => ?_⟩, lfu, by simp [fullF]⟩
      · refine List.pairwise_cons.mpr ⟨fun x hx => ?_, List.pairwise_replicate.mpr (.inr (Int.le_refl _))⟩
        rw [List.eq_of_mem_replicate hx]
        omega
      · rcases List.mem_cons.mp hx with z | z
        · omega
        · rw [List.eq_of_mem_replicate z]; decide
      · rcases List.mem_cons.mp hx with z | z
        · omega
        · rw [List.eq_of_mem_replicate z]; decide
    have Le1 : Le (evenF S N) n2 := by
      have := even_le (S := S) GB.ld.l1 GB.ld.l6 GB.ld.d GB.sum
      rw [GB.len] at this
      exact this
    have Le2 : Le n2 (fullF S N) := full_le GB.ld.l1 GB.ld.nn GB.sum
    rw [show (iv n1).length = N by simp [hN]]
    apply joinA (C := fun (c : Addr) (H' : Hp) => H' c = some (.tup (iv (fullF S N))) ∧ Same H4 H')
    case main =>
      intro key
      refine ⟨_, rfl, b1, n1, rfl, h1', (by show 1 ≤ sizeLine; decide), fun t1 ht1 => ⟨(by show 1 ≤ sizeLine; decide), fun t2 ht2 => ?_⟩⟩
      have s1 := same_new ht1 (.tup [.int n1.sum])
      have s2 := same_new ht2 (.tup [.int 0])
      have s12 := s1.trans s2
      have g1 := s2 _ _ (upd_same (H := H4) (a := t1) (o := .tup [.int n1.sum]))
      have fe : ∀ m : Nat, m + 1 = N → ([.int n1.sum] ++ (List.replicate m [V.int 0]).flatten : List V) = iv (fullF S N) := fun m hm => by
        rw [rep1, hS1]
        show V.int S :: _ = _
        unfold fullF
        rw [show N - 1 = m by omega]
        rfl
      refine ⟨_, rfl, _, _, rfl, rfl, t2, (N : Int) - 1, [.int 0], rfl, rfl, upd_same, by simp, by omega, by omega, by simp, fun e => ?_, fun e q hq => ?_⟩
      · refine ⟨t1, t2, _, _, rfl, rfl, g1, upd_same, by simp, fun c H' s' hc => ?_⟩
        exact key c H' ⟨by rw [← fe 1 (by omega)]; exact hc, s12.trans s'⟩
      · have s3 := same_new hq (.tup (List.replicate ((N : Int) - 1).toNat [V.int 0]).flatten)
        refine ⟨t1, q, _, _, rfl, rfl, s3 _ _ g1, upd_same, (by rw [rep1]; simp; omega), fun c H' s' hc => ?_⟩
        exact key c H' ⟨by rw [← fe ((N : Int) - 1).toNat (by omega)]; exact hc, (s12.trans s3).trans s'⟩
    rintro bf H5 ⟨hf, s5⟩
    have h15 := s5 _ _ h1'
    refine ⟨_, rfl, (N : Int), rfl, by omega, by omega, comp_rng (n := (N : Int).toNat) (lo := 0) (fs := [some (.int N), some (.ref b1)]) (fun acc i ys H' => Same H5 H' ∧ ys = iv ((evenF S N).take i)) (by omega) ?_ ?_ ?_⟩
    · exact fun acc hacc => ⟨same_new hacc _, rfl⟩
    · rintro acc i ys H' hacc hi hl ⟨s', rfl⟩ hacc' Q' hQ
      refine ⟨_, rfl, b1, n1, rfl, s' _ _ h15, _, rfl, _, _, rfl, rfl, _, _, rfl, rfl, _, rfl, _, _, rfl, rfl, _, rfl, _, _, rfl, rfl, ⟨by omega, by omega⟩, ?_⟩
      refine hQ _ H' hacc' ⟨same_updN hacc s' _, ?_⟩
      have hi' : i < N := by omega
      rw [List.take_add_one, List.getElem?_eq_getElem (show i < (evenF S N).length by simp [evenF]; exact hi'), iv_app]
      have : (evenF S N)[i]'(by simp [evenF]; exact hi') = (n1.sum + N - 1 - (0 + (i : Int))) / N := by simp [evenF, hS1]
      rw [this]
      rfl
    rintro l0 ys H6 hl0 ⟨s6, rfl⟩ hl6 hlen
    rw [List.take_of_length_le (by simp [evenF])] at hl6
    refine ⟨l0, _, rfl, .inl ⟨SqL.of hl6, fun be hbe => ?_⟩⟩
    have s7 := same_new hbe (.tup (iv (evenF S N)))
    have he : (upd H6 be (.tup (iv (evenF S N)))) be = some (.tup (iv (evenF S N))) := upd_same
    have s57 := (s5.trans s6).trans s7
    have pen7 := pen4.same s57
    have x7 := x24.trans s57.x
    have hf7 := s7 _ _ (s6 _ _ hf)
    have h17 := s57 _ _ h1'
    have h27 := s57 _ _ h2
    have h57 := s57 _ _ h5
    generalize upd H6 be (.tup (iv (evenF S N))) = H8 at s7 he s57 pen7 x7 hf7 h17 h27 h57
    clear s7 s57 hl0 hl6 s6 s5 hbe hlen h15 hf h1' h2 h5
    have ac : ∀ {H H' : Hp} {v : V}, TriAt N S H v → Same H H' → TriAt N S H' v := fun ⟨t, x, y, z, u, w', r, e, h1, h2, h3, h4, h5⟩ s => ⟨t, x, y, z, u, w', r, e, s _ _ h1, s _ _ h2, s _ _ h3, s _ _ h4, h5⟩
    refine ⟨_, rfl, _, rfl, _, rfl, (by show 3 ≤ sizeLine; decide), fun t1 ht1 => ?_⟩
    have q1 := same_new ht1 (.tup [.ref b1, .ref b2, .ref b5])
    have r1 : Same H8 _ := q1
    have w1 : TriAt N S _ (.ref t1) := ⟨t1, b1, b2, b5, _, _, _, rfl, upd_same (H := H8), r1 _ _ h17, r1 _ _ h27, r1 _ _ h57, GA, GB, GC⟩
    generalize upd H8 t1 (.tup [.ref b1, .ref b2, .ref b5]) = G1 at r1 w1
    clear q1
    refine ⟨_, rfl, _, rfl, _, rfl, (by show 3 ≤ sizeLine; decide), fun t2 ht2 => ?_⟩
    have q2 := same_new ht2 (.tup [.ref b5, .ref b2, .ref b1])
    have r2 : Same H8 _ := r1.trans q2
    have w2 : TriAt N S _ (.ref t2) := ⟨t2, b5, b2, b1, _, _, _, rfl, upd_same (H := G1), r2 _ _ h57, r2 _ _ h27, r2 _ _ h17, GC, GB, GA⟩
    replace w1 := ac w1 q2
    generalize upd G1 t2 (.tup [.ref b5, .ref b2, .ref b1]) = G2 at r2 w1 w2
    clear q2 r1
    refine ⟨_, rfl, _, rfl, _, rfl, (by show 3 ≤ sizeLine; decide), fun t3 ht3 => ?_⟩
    have q3 := same_new ht3 (.tup [.ref be, .ref b1, .ref bf])
    have r3 : Same H8 _ := r2.trans q3
    have w3 : TriAt N S _ (.ref t3) := ⟨t3, be, b1, bf, _, _, _, rfl, upd_same (H := G2), r3 _ _ he, r3 _ _ h17, r3 _ _ hf7, Ge, GA, Gf⟩
    replace w1 := ac w1 q3
    replace w2 := ac w2 q3
    generalize upd G2 t3 (.tup [.ref be, .ref b1, .ref bf]) = G3 at r3 w1 w2 w3
    clear q3 r2
    refine ⟨_, rfl, _, rfl, _, rfl, (by show 3 ≤ sizeLine; decide), fun t4 ht4 => ?_⟩
    have q4 := same_new ht4 (.tup [.ref b2, .ref b1, .ref b5])
    have r4 : Same H8 _ := r3.trans q4
    have w4 : TriAt N S _ (.ref t4) := ⟨t4, b2, b1, b5, _, _, _, rfl, upd_same (H := G3), r4 _ _ h27, r4 _ _ h17, r4 _ _ h57, GB, GA, GC⟩
    replace w1 := ac w1 q4
    replace w2 := ac w2 q4
    replace w3 := ac w3 q4
    generalize upd G3 t4 (.tup [.ref b2, .ref b1, .ref b5]) = G4 at r4 w1 w2 w3 w4
    clear q4 r3
    refine ⟨(by show 4 ≤ sizeLine; decide), fun l hl => ?_⟩
    have q8 := same_new hl (.lst [.ref t1, .ref t2, .ref t3, .ref t4])
    have r8 := r4.trans q8
    have hl8 : (upd G4 l (.lst [.ref t1, .ref t2, .ref t3, .ref t4])) l = _ := upd_same
    have wl : ∀ v ∈ ([.ref t1, .ref t2, .ref t3, .ref t4] : List V), TriAt N S (upd G4 l (.lst [.ref t1, .ref t2, .ref t3, .ref t4])) v := fun v hv => by
      simp only [List.mem_cons, List.not_mem_nil, or_false] at hv
      rcases hv with rfl | rfl | rfl | rfl
      · exact ac w1 q8
      · exact ac w2 q8
      · exact ac w3 q8
      · exact ac w4 q8
    generalize upd G4 l (.lst [.ref t1, .ref t2, .ref t3, .ref t4]) = G8 at r8 wl hl8
    have l4 : ([.ref t1, .ref t2, .ref t3, .ref t4] : List V).length = 4 := rfl
    generalize ([.ref t1, .ref t2, .ref t3, .ref t4] : List V) = zs at wl hl8 l4
    clear q8 r4 w1 w2 w3 w4
    have pen9 := pen7.same r8
    refine ⟨l, rfl, ⟨_, SqL.of hl8⟩, for_list (xs := zs) (fun j σ H' => (∃ o9 o10 o11, σ = [some (.ref a), some (.ref p), some (.int (0 + i)), some (.ref b1), some (.ref b2), some (.ref b5), some (.int N), some (.ref bf), some (.ref be), o9, o10, o11]) ∧ Pen H' p (170 * i + 49 + 30 * j) ∧ SameX p G8 H') ⟨⟨_, _, _, rfl⟩, pen9, SameX.refl _ _⟩ (fun j σ H' _ h => SqL.of (pen9.keep h.2.2 hl8)) ?_ ?_⟩
    · rintro j v σ H9 hv ⟨⟨o9, o10, o11, rfl⟩, pj, xj⟩
      have hj : j < 4 := by
        rw [← l4]
        exact (List.getElem?_eq_some_iff.mp hv).1
      obtain ⟨t, x, y, z, u, w', r, rfl, f1, f2, f3, f4, f5, f6, f7⟩ := wl v (List.mem_of_getElem? hv)
      have g1 := pen9.keep xj f1
      have g2 := pen9.keep xj f2
      have g3 := pen9.keep xj f3
      have g4 := pen9.keep xj f4
      refine ⟨t, _, rfl, SqT.of g1, rfl, _, _, rfl, _, _, rfl, _, _, rfl, rfl, ?_⟩
      refine ⟨_, rfl, _, rfl, x, y, u, w', rfl, g2, g3, f5.al f6, f5.ld, f6.ld, by rw [f5.sum]; omega, f5.ld.far f6.ld, fun H10 s10 => ⟨_, rfl, iteF ?_⟩⟩
      refine ⟨_, rfl, _, rfl, _, rfl, x, y, z, u, w', r, rfl, s10 _ _ g2, s10 _ _ g3, s10 _ _ g4, f5.al f6, f6.al f7, f5.ld, f6.ld, f7.ld, f5.ld.far f6.ld, f6.ld.far f7.ld, fun H11 s11 => ⟨_, rfl, iteF ?_⟩⟩
      have s911 := s10.trans s11
      have pj11 := pj.same s911
      refine ⟨_, rfl, _, rfl, _, rfl, p, x, y, u, w', _, rfl, pj11, by omega, s911 _ _ g2, s911 _ _ g3, f5.al f6, f5.ld, f6.ld, fun H12 p12 x12 => ⟨_, rfl, iteF ?_⟩⟩
      refine ⟨_, rfl, _, rfl, x, x, u, u, rfl, pj11.keep x12 (s911 _ _ g2), pj11.keep x12 (s911 _ _ g2), f5.al f5, fun H13 bb s13 hbb => ⟨_, rfl, ?_⟩⟩
      rw [hbb.mpr fun q hq => Int.le_refl _]
      refine iteF ?_
      exact ⟨⟨_, _, _, rfl⟩, (p12.same s13).mono (by omega), ((xj.trans s911.x).trans x12).trans s13.x⟩
    rintro σ H9 ⟨⟨o9, o10, o11, rfl⟩, pj, xj⟩
    have hhe := pen9.keep xj (r8 _ _ he)
    have hh2 := pen9.keep xj (r8 _ _ h27)
    have hhf := pen9.keep xj (r8 _ _ hf7)
    refine ⟨_, rfl, _, rfl, be, b2, _, _, rfl, hhe, hh2, Ge.al GB, fun H10 b10 s10 h10 => ⟨_, rfl, ?_⟩⟩
    rw [h10.mpr Le1]
    refine iteF ?_
    refine ⟨_, rfl, _, rfl, b2, bf, _, _, rfl, s10 _ _ hh2, s10 _ _ hhf, GB.al Gf, fun H11 b11 s11 h11 => ⟨_, rfl, ?_⟩⟩
    rw [h11.mpr Le2]
    refine iteF ?_
    rw [l4] at pj
    exact ⟨⟨_, _, _, _, _, _, _, _, _, _, rfl⟩, (pj.same (s10.trans s11)).mono (by omega)⟩
  · rintro σ H2 ⟨⟨o2, o3, o4, o5, o6, o7, o8, o9, o10, o11, rfl⟩, pen⟩
    exact k _
end
end My

set_option Elab.async false
set_option linter.all false
set_option maxRecDepth 100000
set_option maxHeartbeats 4000000
namespace My
open PySem L2 MA
structure Funs (K : PySem.W.Frag) (mg : Str → Option Value) : Prop where
  f_is_whole : FunAt K mg "is_whole" ["thing"] s_is_whole
  f_is_two_places : FunAt K mg "is_two_places" ["thing", "many"] s_is_two_places
  f_falling : FunAt K mg "falling" ["numbers"] s_falling
  f_put_at : FunAt K mg "put_at" ["load", "rank"] s_put_at
  f_taken_from : FunAt K mg "taken_from" ["load", "rank"] s_taken_from
  f_ask_alike : FunAt K mg "ask_alike" ["one", "other"] s_ask_alike
  f_first_fuller : FunAt K mg "first_fuller" ["one", "other"] s_first_fuller
  f_can_move : FunAt K mg "can_move" ["load", "thing"] s_can_move
  f_moved : FunAt K mg "moved" ["load", "move"] s_moved
  f_next_move : FunAt K mg "next_move" ["one", "load"] s_next_move
  f_moves : FunAt K mg "moves" ["one", "other"] s_moves
  f_lets_moves : FunAt K mg "lets_moves" ["one", "other", "thing"] s_lets_moves
  f_l_pen : FunAt K mg "_law_pen" ["_law_script"] s_l_pen
  f_l_draw : FunAt K mg "_law_draw" ["_law_pen_here", "_law_many"] s_l_draw
  f_l_load : FunAt K mg "_law_load" ["_law_pen_here", "_law_most"] s_l_load
  f_l_moved : FunAt K mg "_law_moved" ["_law_load_here", "_law_i", "_law_j"] s_l_moved
  f_l_can : FunAt K mg "_law_can" ["_law_load_here"] s_l_can
  f_l_other : FunAt K mg "_law_other" ["_law_pen_here", "_law_load_here"] s_l_other
  f_l_no_fuller : FunAt K mg "_law_no_fuller" ["_law_one", "_law_other_here"] s_l_no_fuller
  f_l_rank_of : FunAt K mg "_law_rank_of" ["_law_load_here", "_law_ball"] s_l_rank_of
  f_l_kept : FunAt K mg "_law_kept" ["_law_one", "_law_other_here"] s_l_kept
  f_l_pair_right : FunAt K mg "_law_pair_right" ["_law_one", "_law_other_here"] s_l_pair_right
  f_l_three_right : FunAt K mg "_law_three_right" ["_law_one", "_law_other_here", "_law_third"] s_l_three_right
  f_l_forged_right : FunAt K mg "_law_forged_right" ["_law_pen_here", "_law_one", "_law_other_here"] s_l_forged_right
theorem all_mk {l : PySem.W.OpenLaw} {w : World} {K : PySem.W.Frag} {h : Heap} {mg : Str → Option Value} {fa f3 : Addr} (X : K.In h) (G : h.Ns mainGlobals mg) (hfa : mg "law" = some (.ref fa))
    {od3 an3 : Option Addr} {sl3 : Array (Option Value)} {oc3 kV3 dc3 pm3 cd3 ct3 : Value} (T : Txt2 mg) (FA : Funs K mg)
    (a3 : PySem.W.nsIn K mainGlobals "law" = some (some (.ref f3))) (l3 : K.lookup f3 = some ⟨oc3, od3, .func (PySem.W.fnOf "law" "law" (defArgs s_law) (defBody s_law) (defScope s_law) .none kV3 dc3 pm3 an3 cd3 ct3), sl3⟩) (c3 : PySem.W.codeIn K cd3 "law" = true) (k3 : PySem.W.keepIn K (.ref f3) = true) :
    ∃ fd : FuncData, (∀ (s : Shared) (v : Value), BindsTo s fd ⟨[v], []⟩ [("_law_script", v)]) ∧ ∀ base : Heap, K.In base → base.Ns mainGlobals mg → FnOk l.prog w K mg base CX0 6 fa fd ["_law_script"] (spLaw K) := by
  have e := hfa.symm.trans (PySem.W.mg_of X G a3)
  cases e
  have F3 := fun_mk (st := s_law) l3 c3 k3
  refine ⟨PySem.W.fnOf "law" "law" (defArgs s_law) (defBody s_law) (defScope s_law) .none kV3 dc3 pm3 an3 cd3 ct3, fun s v => .of_eq rfl, fun base _ _ => ?_⟩
  have c_whole := ok_whole (P := l.prog) (w := w) (base := base) T.toTxt FA.f_is_whole
  have c_two := ok_two T c_whole FA.f_is_two_places
  have c_falling := ok_falling (P := l.prog) (w := w) (base := base) T FA.f_falling
  have c_putat := ok_putat T c_falling FA.f_put_at
  have c_taken := ok_taken T c_falling FA.f_taken_from
  have c_alike := ok_alike (P := l.prog) (w := w) (base := base) T FA.f_ask_alike
  have c_first := ok_first T c_alike FA.f_first_fuller
  have c_canG := ok_canG T c_two FA.f_can_move
  have c_moved := ok_moved T c_falling FA.f_moved
  have c_next := ok_next (P := l.prog) (w := w) (base := base) T FA.f_next_move
  have c_moves := ok_moves T c_first c_next c_moved FA.f_moves
  have c_lets := ok_letsG T c_alike c_canG c_moved FA.f_lets_moves
  have c_pen := ok_pen (P := l.prog) (w := w) (base := base) FA.f_l_pen
  have c_draw := ok_draw (P := l.prog) (w := w) (base := base) T.toTxt FA.f_l_draw
  have c_load := ok_load T c_draw FA.f_l_load
  have c_lmoved := ok_lmoved (P := l.prog) (w := w) (base := base) T FA.f_l_moved
  have c_can := ok_can (P := l.prog) (w := w) (base := base) T FA.f_l_can
  have c_other := ok_other T c_draw c_lmoved c_can FA.f_l_other
  have c_nof := ok_nof T c_first FA.f_l_no_fuller
  have c_rank := ok_rank (P := l.prog) (w := w) (base := base) T FA.f_l_rank_of
  have c_kept := ok_kept T c_putat c_taken c_nof c_rank FA.f_l_kept
  have c_pair := ok_pair T c_moves c_lets c_nof c_kept FA.f_l_pair_right
  have c_three := ok_three T c_moves c_lets c_nof FA.f_l_three_right
  have c_forged := ok_forged T c_draw c_lets c_nof FA.f_l_forged_right
  exact ok_law T c_pen c_load c_other c_pair c_three c_forged c_nof F3
theorem walk {l : PySem.W.OpenLaw} {q : Program} {loose : List Str} {XP : (Str → Option Value) → Heap → Prop} {YP : World → Heap → Prop} {d : DefRec} {K : Params → PySem.W.Frag} (hn : l.most = some 63) (hdf : d.params.defaults = [])
    (hY : ∀ (w : World) (h : Heap), YP w h → (K w.params).In h)
    (F : ∀ (w : World) (mg : Str → Option Value) (fa : Addr) (h : Heap), (K w.params).In h → h.Ns mainGlobals mg → mg d.name = some (.ref fa) →
      ∃ fd : FuncData, (∀ (s : Shared) (u : Value), BindsTo s fd ⟨[u], []⟩ [("_law_script", u)]) ∧ ∀ base : Heap, (K w.params).In base → base.Ns mainGlobals mg → FnOk l.prog w (K w.params) mg base CX0 6 fa fd ["_law_script"] (spLaw (K w.params))) :
    PySem.W.WalkO q loose XP YP l.row.toRowW d [] (fun f vs => PySem.call f vs) :=
  L2.walk_of (n := 63) (k := 6) (x := "_law_script") (CX := fun _ => CX0) (sp := fun w => spLaw (K w.params)) hn (by decide) hdf ⟨rfl, by decide, by decide, rfl⟩ hY F (fun _ _ a ns hl _ hS => ⟨a, ns, rfl, hS, hl, fun _ => rfl⟩) fun _ _ _ _ _ z => z
theorem txt_mk {K : PySem.W.Frag} {h : Heap} {mg : Str → Option Value} (X : K.In h) (G : h.Ns mainGlobals mg)
    (z_abs : PySem.W.nsIn K mainGlobals "abs" = some none)
    (z_len : PySem.W.nsIn K mainGlobals "len" = some none)
    (z_isinstance : PySem.W.nsIn K mainGlobals "isinstance" = some none)
    (z_range : PySem.W.nsIn K mainGlobals "range" = some none)
    (z_int : PySem.W.nsIn K mainGlobals "int" = some none)
    (z_bool : PySem.W.nsIn K mainGlobals "bool" = some none)
    (z_tuple : PySem.W.nsIn K mainGlobals "tuple" = some none)
    (z_list : PySem.W.nsIn K mainGlobals "list" = some none)
    (z_all : PySem.W.nsIn K mainGlobals "all" = some none)
    (z_str : PySem.W.nsIn K mainGlobals "str" = some none)
    (z_repr : PySem.W.nsIn K mainGlobals "repr" = some none)
    (z_dict : PySem.W.nsIn K mainGlobals "dict" = some none)
    (z_sum : PySem.W.nsIn K mainGlobals "sum" = some none)
    (z_sorted : PySem.W.nsIn K mainGlobals "sorted" = some none)
    (z_max : PySem.W.nsIn K mainGlobals "max" = some none)
    (z_min : PySem.W.nsIn K mainGlobals "min" = some none)
    (z_any : PySem.W.nsIn K mainGlobals "any" = some none)
    (z_enumerate : PySem.W.nsIn K mainGlobals "enumerate" = some none)
    (z_zip : PySem.W.nsIn K mainGlobals "zip" = some none)
    (z_set : PySem.W.nsIn K mainGlobals "set" = some none)
    (z_reversed : PySem.W.nsIn K mainGlobals "reversed" = some none)
    (z_ValueError : PySem.W.nsIn K mainGlobals "ValueError" = some none)
    : Txt2 mg := ⟨⟨PySem.W.mg_none_of X G z_abs, PySem.W.mg_none_of X G z_len, PySem.W.mg_none_of X G z_isinstance, PySem.W.mg_none_of X G z_range, PySem.W.mg_none_of X G z_int, PySem.W.mg_none_of X G z_bool, PySem.W.mg_none_of X G z_tuple, PySem.W.mg_none_of X G z_list, PySem.W.mg_none_of X G z_all⟩, PySem.W.mg_none_of X G z_str, PySem.W.mg_none_of X G z_repr, PySem.W.mg_none_of X G z_dict, PySem.W.mg_none_of X G z_sum, PySem.W.mg_none_of X G z_sorted, PySem.W.mg_none_of X G z_max, PySem.W.mg_none_of X G z_min, PySem.W.mg_none_of X G z_any, PySem.W.mg_none_of X G z_enumerate, PySem.W.mg_none_of X G z_zip, PySem.W.mg_none_of X G z_set, PySem.W.mg_none_of X G z_reversed, PySem.W.mg_none_of X G z_ValueError⟩
end My
open PySem PySem.W PyProof.Rows
set_option maxRecDepth 100000 in
set_option maxHeartbeats 0 in
theorem PySem.Challenge.cw_emptierbox_k13_whole_the_order_of_loads_holds : PySem.Challenge.rw_emptierbox_k13_whole_the_order_of_loads.Holds := by
  w_on; o_law; k_head; (case hw => w_witness2)
  k_fill
  refine My.walk (l := PySem.Challenge.rw_emptierbox_k13_whole_the_order_of_loads) rfl rfl (fun w h Y => PySem.W.kIn_of Y) ?F
  case F =>
    intro w mg fa h KX G hmg
    have T : My.Txt2 mg := by
      refine' My.txt_mk KX G ?z0 ?z1 ?z2 ?z3 ?z4 ?z5 ?z6 ?z7 ?z8 ?z9 ?z10 ?z11 ?z12 ?z13 ?z14 ?z15 ?z16 ?z17 ?z18 ?z19 ?z20 ?z21
      (case z0 => k_is)
      (case z1 => k_is)
      (case z2 => k_is)
      (case z3 => k_is)
      (case z4 => k_is)
      (case z5 => k_is)
      (case z6 => k_is)
      (case z7 => k_is)
      (case z8 => k_is)
      (case z9 => k_is)
      (case z10 => k_is)
      (case z11 => k_is)
      (case z12 => k_is)
      (case z13 => k_is)
      (case z14 => k_is)
      (case z15 => k_is)
      (case z16 => k_is)
      (case z17 => k_is)
      (case z18 => k_is)
      (case z19 => k_is)
      (case z20 => k_is)
      (case z21 => k_is)
    have f_is_whole : L2.FunAt (L2.KOf KX) mg "is_whole" ["thing"] My.s_is_whole := by
      dsimp only [L2.KOf]
      refine' L2.funAt_mk KX G (fun _ _ _ _ _ _ us hl => match us, hl with | [_], _ => rfl) ?a ?l ?c ?k
      (case a => k_is); (case l => k_is); (case c => k_is); (case k => k_is)
    have f_is_two_places : L2.FunAt (L2.KOf KX) mg "is_two_places" ["thing", "many"] My.s_is_two_places := by
      dsimp only [L2.KOf]
      refine' L2.funAt_mk KX G (fun _ _ _ _ _ _ us hl => match us, hl with | [_, _], _ => rfl) ?a ?l ?c ?k
      (case a => k_is); (case l => k_is); (case c => k_is); (case k => k_is)
    have f_falling : L2.FunAt (L2.KOf KX) mg "falling" ["numbers"] My.s_falling := by
      dsimp only [L2.KOf]
      refine' L2.funAt_mk KX G (fun _ _ _ _ _ _ us hl => match us, hl with | [_], _ => rfl) ?a ?l ?c ?k
      (case a => k_is); (case l => k_is); (case c => k_is); (case k => k_is)
    have f_put_at : L2.FunAt (L2.KOf KX) mg "put_at" ["load", "rank"] My.s_put_at := by
      dsimp only [L2.KOf]
      refine' L2.funAt_mk KX G (fun _ _ _ _ _ _ us hl => match us, hl with | [_, _], _ => rfl) ?a ?l ?c ?k
      (case a => k_is); (case l => k_is); (case c => k_is); (case k => k_is)
    have f_taken_from : L2.FunAt (L2.KOf KX) mg "taken_from" ["load", "rank"] My.s_taken_from := by
      dsimp only [L2.KOf]
      refine' L2.funAt_mk KX G (fun _ _ _ _ _ _ us hl => match us, hl with | [_, _], _ => rfl) ?a ?l ?c ?k
      (case a => k_is); (case l => k_is); (case c => k_is); (case k => k_is)
    have f_ask_alike : L2.FunAt (L2.KOf KX) mg "ask_alike" ["one", "other"] My.s_ask_alike := by
      dsimp only [L2.KOf]
      refine' L2.funAt_mk KX G (fun _ _ _ _ _ _ us hl => match us, hl with | [_, _], _ => rfl) ?a ?l ?c ?k
      (case a => k_is); (case l => k_is); (case c => k_is); (case k => k_is)
    have f_first_fuller : L2.FunAt (L2.KOf KX) mg "first_fuller" ["one", "other"] My.s_first_fuller := by
      dsimp only [L2.KOf]
      refine' L2.funAt_mk KX G (fun _ _ _ _ _ _ us hl => match us, hl with | [_, _], _ => rfl) ?a ?l ?c ?k
      (case a => k_is); (case l => k_is); (case c => k_is); (case k => k_is)
    have f_can_move : L2.FunAt (L2.KOf KX) mg "can_move" ["load", "thing"] My.s_can_move := by
      dsimp only [L2.KOf]
      refine' L2.funAt_mk KX G (fun _ _ _ _ _ _ us hl => match us, hl with | [_, _], _ => rfl) ?a ?l ?c ?k
      (case a => k_is); (case l => k_is); (case c => k_is); (case k => k_is)
    have f_moved : L2.FunAt (L2.KOf KX) mg "moved" ["load", "move"] My.s_moved := by
      dsimp only [L2.KOf]
      refine' L2.funAt_mk KX G (fun _ _ _ _ _ _ us hl => match us, hl with | [_, _], _ => rfl) ?a ?l ?c ?k
      (case a => k_is); (case l => k_is); (case c => k_is); (case k => k_is)
    have f_next_move : L2.FunAt (L2.KOf KX) mg "next_move" ["one", "load"] My.s_next_move := by
      dsimp only [L2.KOf]
      refine' L2.funAt_mk KX G (fun _ _ _ _ _ _ us hl => match us, hl with | [_, _], _ => rfl) ?a ?l ?c ?k
      (case a => k_is); (case l => k_is); (case c => k_is); (case k => k_is)
    have f_moves : L2.FunAt (L2.KOf KX) mg "moves" ["one", "other"] My.s_moves := by
      dsimp only [L2.KOf]
      refine' L2.funAt_mk KX G (fun _ _ _ _ _ _ us hl => match us, hl with | [_, _], _ => rfl) ?a ?l ?c ?k
      (case a => k_is); (case l => k_is); (case c => k_is); (case k => k_is)
    have f_lets_moves : L2.FunAt (L2.KOf KX) mg "lets_moves" ["one", "other", "thing"] My.s_lets_moves := by
      dsimp only [L2.KOf]
      refine' L2.funAt_mk KX G (fun _ _ _ _ _ _ us hl => match us, hl with | [_, _, _], _ => rfl) ?a ?l ?c ?k
      (case a => k_is); (case l => k_is); (case c => k_is); (case k => k_is)
    have f_l_pen : L2.FunAt (L2.KOf KX) mg "_law_pen" ["_law_script"] My.s_l_pen := by
      dsimp only [L2.KOf]
      refine' L2.funAt_mk KX G (fun _ _ _ _ _ _ us hl => match us, hl with | [_], _ => rfl) ?a ?l ?c ?k
      (case a => k_is); (case l => k_is); (case c => k_is); (case k => k_is)
    have f_l_draw : L2.FunAt (L2.KOf KX) mg "_law_draw" ["_law_pen_here", "_law_many"] My.s_l_draw := by
      dsimp only [L2.KOf]
      refine' L2.funAt_mk KX G (fun _ _ _ _ _ _ us hl => match us, hl with | [_, _], _ => rfl) ?a ?l ?c ?k
      (case a => k_is); (case l => k_is); (case c => k_is); (case k => k_is)
    have f_l_load : L2.FunAt (L2.KOf KX) mg "_law_load" ["_law_pen_here", "_law_most"] My.s_l_load := by
      dsimp only [L2.KOf]
      refine' L2.funAt_mk KX G (fun _ _ _ _ _ _ us hl => match us, hl with | [_, _], _ => rfl) ?a ?l ?c ?k
      (case a => k_is); (case l => k_is); (case c => k_is); (case k => k_is)
    have f_l_moved : L2.FunAt (L2.KOf KX) mg "_law_moved" ["_law_load_here", "_law_i", "_law_j"] My.s_l_moved := by
      dsimp only [L2.KOf]
      refine' L2.funAt_mk KX G (fun _ _ _ _ _ _ us hl => match us, hl with | [_, _, _], _ => rfl) ?a ?l ?c ?k
      (case a => k_is); (case l => k_is); (case c => k_is); (case k => k_is)
    have f_l_can : L2.FunAt (L2.KOf KX) mg "_law_can" ["_law_load_here"] My.s_l_can := by
      dsimp only [L2.KOf]
      refine' L2.funAt_mk KX G (fun _ _ _ _ _ _ us hl => match us, hl with | [_], _ => rfl) ?a ?l ?c ?k
      (case a => k_is); (case l => k_is); (case c => k_is); (case k => k_is)
    have f_l_other : L2.FunAt (L2.KOf KX) mg "_law_other" ["_law_pen_here", "_law_load_here"] My.s_l_other := by
      dsimp only [L2.KOf]
      refine' L2.funAt_mk KX G (fun _ _ _ _ _ _ us hl => match us, hl with | [_, _], _ => rfl) ?a ?l ?c ?k
      (case a => k_is); (case l => k_is); (case c => k_is); (case k => k_is)
    have f_l_no_fuller : L2.FunAt (L2.KOf KX) mg "_law_no_fuller" ["_law_one", "_law_other_here"] My.s_l_no_fuller := by
      dsimp only [L2.KOf]
      refine' L2.funAt_mk KX G (fun _ _ _ _ _ _ us hl => match us, hl with | [_, _], _ => rfl) ?a ?l ?c ?k
      (case a => k_is); (case l => k_is); (case c => k_is); (case k => k_is)
    have f_l_rank_of : L2.FunAt (L2.KOf KX) mg "_law_rank_of" ["_law_load_here", "_law_ball"] My.s_l_rank_of := by
      dsimp only [L2.KOf]
      refine' L2.funAt_mk KX G (fun _ _ _ _ _ _ us hl => match us, hl with | [_, _], _ => rfl) ?a ?l ?c ?k
      (case a => k_is); (case l => k_is); (case c => k_is); (case k => k_is)
    have f_l_kept : L2.FunAt (L2.KOf KX) mg "_law_kept" ["_law_one", "_law_other_here"] My.s_l_kept := by
      dsimp only [L2.KOf]
      refine' L2.funAt_mk KX G (fun _ _ _ _ _ _ us hl => match us, hl with | [_, _], _ => rfl) ?a ?l ?c ?k
      (case a => k_is); (case l => k_is); (case c => k_is); (case k => k_is)
    have f_l_pair_right : L2.FunAt (L2.KOf KX) mg "_law_pair_right" ["_law_one", "_law_other_here"] My.s_l_pair_right := by
      dsimp only [L2.KOf]
      refine' L2.funAt_mk KX G (fun _ _ _ _ _ _ us hl => match us, hl with | [_, _], _ => rfl) ?a ?l ?c ?k
      (case a => k_is); (case l => k_is); (case c => k_is); (case k => k_is)
    have f_l_three_right : L2.FunAt (L2.KOf KX) mg "_law_three_right" ["_law_one", "_law_other_here", "_law_third"] My.s_l_three_right := by
      dsimp only [L2.KOf]
      refine' L2.funAt_mk KX G (fun _ _ _ _ _ _ us hl => match us, hl with | [_, _, _], _ => rfl) ?a ?l ?c ?k
      (case a => k_is); (case l => k_is); (case c => k_is); (case k => k_is)
    have f_l_forged_right : L2.FunAt (L2.KOf KX) mg "_law_forged_right" ["_law_pen_here", "_law_one", "_law_other_here"] My.s_l_forged_right := by
      dsimp only [L2.KOf]
      refine' L2.funAt_mk KX G (fun _ _ _ _ _ _ us hl => match us, hl with | [_, _, _], _ => rfl) ?a ?l ?c ?k
      (case a => k_is); (case l => k_is); (case c => k_is); (case k => k_is)
    refine' My.all_mk KX G hmg T ⟨f_is_whole, f_is_two_places, f_falling, f_put_at, f_taken_from, f_ask_alike, f_first_fuller, f_can_move, f_moved, f_next_move, f_moves, f_lets_moves, f_l_pen, f_l_draw, f_l_load, f_l_moved, f_l_can, f_l_other, f_l_no_fuller, f_l_rank_of, f_l_kept, f_l_pair_right, f_l_three_right, f_l_forged_right⟩ ?a3 ?l3 ?c3 ?k3
    (case a3 => k_is); (case l3 => k_is); (case c3 => k_is); (case k3 => k_is)

