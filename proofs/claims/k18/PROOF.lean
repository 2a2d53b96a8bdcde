import PyProof.Rows.All
import KE.KRevIter
import PyProof.FactsAll.range_2
import Wide.All
import OpenK.AllK
import Wide.FinOn
import PyProof.EqAt
import PyProof.EqKinds
import PyProof.NeKinds
import PyProof.TupleCall
import PyProof.CompFree
import PyProof.CompMap
import PyProof.ReprRoads
import PyProof.CallFns
import PyProof.ReprBulk
import PyProof.CompUse
import KE.KRevSl
import PyProof.Rows.SetFrom
import PyProof.AttrMissSeq
import KE.KDictOf
import PyProof.DictUpdate
import PyProof.ListRange
import PyProof.Rows.SumAny
import PyProof.Rows.SortRev
import PyProof.Rows.CallKwBuiltin
import PyProof.ListMulAny
import PyProof.TupleOps
import PyProof.ZipIter
import PyProof.Draws
import PyProof.TupleIter
import PyProof.EnumMake
import PyProof.DictCompW
import PyProof.DictItems
import PyProof.DictItemsLoops
import PyProof.ExcAttrAll.ValueError
import KE.KTryMore
import KE.KLam
import KE.KTupSum
import KE.KMinKey
import PyProof.FactsAll.tuple_0
import PyProof.FactsAll.tuple_2
import PyProof.FactsAll.tuple_3
import KE.KSortTup
import PyProof.DictValues
import PyProof.DictWalks
import PyProof.SumWalkG
import PyProof.CollectWalk
import PyProof.FactsAll.dict_values
import KE.KDictList
import KE.KItemsList
import PyProof.TupleKey
import PyProof.DictDisplay
import PyProof.DictTable
import PySem.Challenge.RW_emptierbox_k18_balls_that_come
set_option Elab.async false
set_option linter.all false
set_option maxRecDepth 100000
set_option maxHeartbeats 4000000
namespace MA
/-- the greatest common measure, as an int -/
def gI (a b : Int) : Int := (Int.gcd a b : Int)
theorem gI_abs (a b : Int) : gI (if a < 0 then -a else a) (if b < 0 then -b else b) = gI a b := by
  unfold gI Int.gcd
  congr 2 <;> (split <;> omega)
theorem gI_step {a b : Int} (ha : 0 ≤ a) : gI b (a % b) = gI a b := by
  unfold gI
  congr 1
  rw [Int.gcd_comm a b]
  unfold Int.gcd
  have e : (a % b).natAbs = a.natAbs % b.natAbs := by
    rw [Int.natAbs_emod_of_nonneg ha]
  rw [e, Nat.gcd_comm b.natAbs (a.natAbs % b.natAbs), ← Nat.gcd_rec]
theorem gI_zero {a : Int} (ha : 0 ≤ a) : gI a 0 = a := by
  unfold gI
  rw [Int.gcd_zero_right]
  omega
theorem gI_pos_right {a b : Int} (hb : b ≠ 0) : 0 < gI a b := by
  have h : Int.gcd a b ≠ 0 := fun h => hb (Int.gcd_eq_zero_iff.mp h).2
  unfold gI; omega
theorem gI_dvd_left (a b : Int) : gI a b ∣ a := Int.gcd_dvd_left ..
theorem gI_dvd_right (a b : Int) : gI a b ∣ b := Int.gcd_dvd_right ..
theorem gI_comm (a b : Int) : gI a b = gI b a := by unfold gI; rw [Int.gcd_comm]
/-- share's answer -/
theorem share_pos {t b : Int} (hb : 0 < b) : t / gI t b = (Rat.divInt t b).num ∧ b / gI t b = ((Rat.divInt t b).den : Int) := by
  rw [Rat.num_divInt, Rat.den_divInt, if_neg (by omega), Int.sign_eq_one_of_pos hb, Int.one_mul, Int.gcd_comm b t]
  refine ⟨rfl, ?_⟩
  unfold gI
  rw [Int.natCast_ediv]
  congr 1
  omega
end MA

set_option Elab.async false
set_option linter.all false
set_option maxRecDepth 100000
set_option maxHeartbeats 4000000
/-! THE HAND LAYER, for ints, bools, texts, own classes, LISTS and tuples (index, slices, in, append, pop ..), calls, loops. Paste it whole ahead of your own text; what your proof does not reach may be deleted. -/
namespace L2
open PySem PySem.Spec PyProof.Rows

/-- a key: an int or a str -/
abbrev Key := Sum Int Str
def keyIs : Key → Value → Bool
  | .inl k, v => Value.isInt k v
  | .inr x, v => Value.isStrOf x v
def keyH (w : World) : Key → Int
  | .inl k => hashInt k
  | .inr x => hashStr w x
theorem keyIs_shape : ∀ {k : Key} {v : Value}, keyIs k v = true → (∃ i t, k = Sum.inl i ∧ v = Value.int i t) ∨ (∃ x t, k = Sum.inr x ∧ v = Value.str x t)
  | .inl i, v, h => by
    obtain ⟨t, e⟩ := Value.isInt_shape (k := i) (v := v) h
    exact .inl ⟨i, t, rfl, e⟩
  | .inr x, v, h => by
    obtain ⟨t, e⟩ := Value.isStrOf_shape (x := x) (v := v) h
    exact .inr ⟨x, t, rfl, e⟩
theorem keyIs_int (i : Int) (t : Tok) : keyIs (.inl i) (.int i t) = true := by simp [keyIs, Value.isInt]
theorem keyIs_str (x : Str) (t : Tok) : keyIs (.inr x) (.str x t) = true := by simp [keyIs, Value.isStrOf]
theorem key_ll (a b : Int) : decide ((Sum.inl a : Key) = Sum.inl b) = (a == b) := by
  by_cases e : a = b
  · subst e; simp
  · have h : ¬ (Sum.inl a : Key) = Sum.inl b := fun q => e (Sum.inl.inj q)
    rw [decide_eq_false h]
    exact (beq_eq_false_iff_ne.mpr e).symm
theorem key_rr (a b : Str) : decide ((Sum.inr a : Key) = Sum.inr b) = decide (a = b) := by
  by_cases e : a = b
  · subst e; simp
  · have h : ¬ (Sum.inr a : Key) = Sum.inr b := fun q => e (Sum.inr.inj q)
    rw [decide_eq_false h, decide_eq_false e]
theorem key_lr (a : Int) (b : Str) : decide ((Sum.inl a : Key) = Sum.inr b) = false := decide_eq_false (fun q => nomatch q)
theorem key_rl (a : Str) (b : Int) : decide ((Sum.inr a : Key) = Sum.inl b) = false := decide_eq_false (fun q => nomatch q)

def mixKind (prog : Program) (w : World) : PySem.KeyKind prog w Key where
  is := keyIs
  hash := keyH w
  inj := fun v a b ha hb => by
    rcases keyIs_shape ha with ⟨i, t, rfl, rfl⟩ | ⟨x, t, rfl, rfl⟩
    · rcases keyIs_shape hb with ⟨j, u, rfl, e⟩ | ⟨y, u, rfl, e⟩
      · injection e with e1 _; rw [e1]
      · exact nomatch e
    · rcases keyIs_shape hb with ⟨j, u, rfl, e⟩ | ⟨y, u, rfl, e⟩
      · exact nomatch e
      · injection e with e1 _; rw [e1]
  byValue := fun k v h => by
    rcases keyIs_shape h with ⟨i, t, rfl, rfl⟩ | ⟨x, t, rfl, rfl⟩ <;> rfl
  pyHash := fun hv h => by
    rcases keyIs_shape hv with ⟨i, t, rfl, rfl⟩ | ⟨x, t, rfl, rfl⟩
    · exact wpAny_pyHash_int h
    · exact wpAny_pyHash_str h
  eqBool := fun hu hv h => by
    rcases keyIs_shape hu with ⟨i, t, rfl, rfl⟩ | ⟨x, t, rfl, rfl⟩
    · rcases keyIs_shape hv with ⟨j, u, rfl, rfl⟩ | ⟨y, u, rfl, rfl⟩
      · rw [key_ll] at h; exact wpAny_eqBool_int h
      · rw [key_lr] at h; exact SeqAt.EqAt.int_str i t y u _ _ _ _ h
    · rcases keyIs_shape hv with ⟨j, u, rfl, rfl⟩ | ⟨y, u, rfl, rfl⟩
      · rw [key_rl] at h; exact SeqAt.EqAt.str_int x t j u _ _ _ _ h
      · rw [key_rr] at h; exact wpAny_eqBool_str h
  «strs» := fun k x t v h => by
    rcases keyIs_shape h with ⟨i, u, rfl, e⟩ | ⟨y, u, rfl, e⟩
    · exact nomatch e
    · injection e with e1 _
      subst e1
      cases v <;> rfl

theorem mixKind_int (prog : Program) (w : World) (i : Int) (t : Tok) : (mixKind prog w).is (.inl i) (.int i t) = true := keyIs_int i t
theorem mixKind_str (prog : Program) (w : World) (x : Str) (t : Tok) : (mixKind prog w).is (.inr x) (.str x t) = true := keyIs_str x t
end L2

namespace L2
open PySem PySem.Spec PyProof.Rows

/-- a value, without the heap -/
inductive V where
  | non | bl (b : Bool) | int (i : Int) | str (x : Str) | byt (b : Array UInt8) | flt (b : UInt64) | ref (a : Addr) | ty (n : String)
  deriving DecidableEq

def RelV : V → Value → Prop
  | .non, u => u = Value.none
  | .bl b, u => u = Value.bool b
  | .int i, u => ∃ t, u = Value.int i t
  | .str x, u => ∃ t, u = Value.str x t
  | .byt b, u => ∃ t, u = Value.bytes b t
  | .flt b, u => ∃ t, u = Value.float b t
  | .ref a, u => u = Value.ref a
  | .ty n, u => u = Value.type n

abbrev Vals : List V → List Value → Prop := Paired RelV
theorem Vals.length {xs : List V} {us : List Value} (r : Vals xs us) : xs.length = us.length := Paired.length r
theorem Vals.get : ∀ {xs : List V} {us : List Value} {i : Nat} {x : V}, Vals xs us → xs[i]? = some x → ∃ u, us[i]? = some u ∧ RelV x u
  | _, _, _, _, .nil, e => by simp at e
  | _, _, 0, _, .cons r _, e => by simp at e; subst e; exact ⟨_, rfl, r⟩
  | _, _, i + 1, x, .cons _ t, e => by
    obtain ⟨u, h1, h2⟩ := Vals.get (i := i) (x := x) t (by simpa using e)
    exact ⟨u, by simpa using h1, h2⟩
theorem Vals.set {x : V} {u : Value} (r : RelV x u) : ∀ {xs : List V} {us : List Value} (i : Nat), Vals xs us → Vals (xs.set i x) (us.set i u)
  | _, _, _, .nil => .nil
  | _, _, 0, .cons _ t => .cons r t
  | _, _, i + 1, .cons q t => .cons q (Vals.set r i t)
theorem Vals.append : ∀ {xs ys : List V} {us ws : List Value}, Vals xs us → Vals ys ws → Vals (xs ++ ys) (us ++ ws)
  | _, _, _, _, .nil, s => s
  | _, _, _, _, .cons r t, s => .cons r (Vals.append t s)
theorem Vals.take : ∀ {xs : List V} {us : List Value} (n : Nat), Vals xs us → Vals (xs.take n) (us.take n)
  | _, _, 0, _ => .nil
  | _, _, _ + 1, .nil => .nil
  | _, _, n + 1, .cons r t => .cons r (Vals.take n t)
theorem Vals.drop : ∀ {xs : List V} {us : List Value} (n : Nat), Vals xs us → Vals (xs.drop n) (us.drop n)
  | _, _, 0, r => r
  | _, _, _ + 1, .nil => .nil
  | _, _, n + 1, .cons _ t => Vals.drop n t
def RelO : Option V → Option Value → Prop
  | some v, some u => RelV v u
  | none, none => True
  | _, _ => False
def KV {κ : Type} : List (κ × V) → List (κ × Value) → Prop := Paired fun (p : κ × V) (q : κ × Value) => p.1 = q.1 ∧ RelV p.2 q.2

/-- a key of a dict (00_mix): an int or a text -/
def kV : Key → V
  | .inl i => .int i
  | .inr x => .str x

/-- what stands at a tracked address -/
inductive HO where
  /-- a list -/
  | lst (xs : List V)
  /-- a tuple (never changes) -/
  | tup (xs : List V)
  /-- a dict whose keys are ints and texts; one whose keys are tuples of ints and texts (the empty one is both) -/
  | dK (kvs : List (Key × V)) | dT (kvs : List (List Key × V))
  /-- a set of ints: its members, its size -/
  | set (S : Int → Bool) (n : Nat)
  /-- an instance of the class at C, its dict at dx, its attributes -/
  | ins (C dx : Addr) (fs : List (Str × V))
  /-- the dict of the instance at x -/
  | own (x : Addr)
  /-- the dict of an exception -/
  | xd (fs : List (Str × V))
  /-- a bound method, f of x -/
  | met (f x : Addr)
  /-- a range object lo, lo + 1, .. below hi -/
  | rng (lo hi : Int)
  /-- a thing that is known to the object (the script; a dict while a loop walks it): read, never written while it is so -/
  | frz (o : Obj) (u : HO)
  /-- a code object's table -/
  | tbl (ps : Array Value)
  /-- the table of the lambdas of a def, whose qualname is q -/
  | tab (q : Str)
  /-- any other thing, by what is true of its one object (a def of one's own: SetO a S n := HO.ext fun h => ..) -/
  | ext (φ : Heap → Prop)

abbrev Hp := Addr → Option HO
def upd (H : Hp) (a : Addr) (o : HO) : Hp := fun b => if b = a then some o else H b
theorem upd_same {H : Hp} {a : Addr} {o : HO} : upd H a o a = some o := by unfold upd; rw [if_pos rfl]
theorem upd_ne {H : Hp} {a b : Addr} {o : HO} (h : b ≠ a) : upd H a o b = H b := by unfold upd; rw [if_neg h]
theorem upd_upd {H : Hp} {a : Addr} {o u : HO} : upd (upd H a o) a u = upd H a u := by
  funext b; unfold upd; split <;> rfl
/-- two objects of different content stand apart -/
theorem ne_of {H : Hp} {a b : Addr} {o u : HO} (h : H a = some o) (h' : H b = some u) (d : o ≠ u) : a ≠ b := by
  intro e; subst e; rw [h] at h'; exact d (Option.some.inj h')
theorem ne_of_none {H : Hp} {a b : Addr} {o : HO} (h : H a = some o) (h' : H b = none) : a ≠ b := by
  intro e; subst e; rw [h] at h'; cases h'

/-- a tuple, with no dict of its own -/
def IsTupN (h : Heap) (a : Addr) (items : Array Value) : Prop := ∃ o, h.get? a = some o ∧ o.cls = .type "tuple" ∧ ∃ n, o.data = .seq items n ∧ o.dict = none
theorem IsTupN.tup {h : Heap} {a : Addr} {items : Array Value} (x : IsTupN h a items) : PyProof.Rows.IsTup h a items := let ⟨o, e, c, n, d, _⟩ := x; ⟨o, e, c, n, d⟩
theorem IsTupN.new (h : Heap) (items : Array Value) : IsTupN (h.push { cls := .type "tuple", data := .seq items }) h.objs.size items := ⟨_, Heap.get?_push_size _ rfl, rfl, _, rfl, rfl⟩
theorem IsTupN.lt {h : Heap} {a : Addr} {items : Array Value} (x : IsTupN h a items) : a < h.objs.size := let ⟨_, e, _⟩ := x; Heap.lt_size e

section
variable (P : Program) (w : World)
def ObjOk (H : Hp) (h : Heap) (a : Addr) : HO → Prop
  | .lst xs => xs.length ≤ sizeLine ∧ ∃ (its : List Value) (n : Nat), Vals xs its ∧ h.get? a = some { cls := .type "list", data := .seq its.toArray n }
  | .tup xs => xs.length ≤ sizeLine ∧ ∃ its : List Value, Vals xs its ∧ IsTupN h a its.toArray
  | .dK kvs => kvs.length ≤ sizeLine ∧ (a == sysModules) = false ∧ ∃ vs, KV kvs vs ∧ h.DictOf (mixKind P w) a vs
  | .dT kvs => kvs.length ≤ sizeLine ∧ (a == sysModules) = false ∧ ∃ xs : List (List Key × Addr × Value),
      Paired (fun (p : List Key × V) (q : List Key × Addr × Value) => p.1 = q.1 ∧ H q.2.1 = some (.tup (p.1.map kV)) ∧ RelV p.2 q.2.2) kvs xs ∧
      ∃ o es ep, h.get? a = some o ∧ o.ExactDict ∧ o.data = .dict es ep ∧ es.toList = xs.map (entryOfKey (tupleKind (mixKind P w))) ∧ (xs.map (·.1)).Nodup
  | .set S n => h.SetOf (intKind P w) a S n
  | .ins C dx fs => H dx = some (.own a) ∧ fs.length ≤ 1000 ∧ dx ≠ a ∧ h.get? a = some (PySem.W.instObj C dx) ∧
      ∃ mA, h.Ns1 dx mA ∧ (∀ f, RelO (fs.lookup f) (mA f)) ∧ PySem.Within mA (fs.map (·.1))
  | .own _ => ∃ o, h.get? a = some o
  | .xd fs => ∃ mA, h.Ns1 a mA ∧ ∀ f, RelO (fs.lookup f) (mA f)
  | .rng lo hi => ∃ t u v, h.get? a = some { cls := .type "range", data := .fields #[.int lo t, .int hi u, .int 1 v] }
  | .frz o u => h.get? a = some o ∧ ObjOk H h a u
  | .tbl ps => h.get? a = some { cls := .none, data := .fields ps }
  | .tab q => ∃ ps : Array Value, h.get? a = some { cls := .none, data := .fields ps } ∧ TriplesOk ps.toList ∧ ∀ pos cv, codeAmong pos ps.toList = some cv →
      ∃ c oc vs t, cv = .ref c ∧ H c = some (.frz oc (.own 0)) ∧ oc.data = .fields vs ∧ vs[1]? = some (.str q t)
  | .met f x => h.get? a = some (PySem.W.methodObj (.ref f) (.ref x))
  | .ext φ => φ h ∧ (∃ o, h.get? a = some o) ∧ ∀ h1 h2 : Heap, φ h1 → (∀ o, h1.get? a = some o → h2.get? a = some o) → φ h2
/-- the abstract heap is held -/
def HOk (H : Hp) (h : Heap) : Prop := ∀ a o, H a = some o → ObjOk P w H h a o
end

section
variable {P : Program} {w : World} {H H' : Hp} {h h' : Heap} {a : Addr} {o : HO}
theorem ObjOk.lt (x : ObjOk P w H h a o) : a < h.objs.size := by
  cases o with
  | lst xs => obtain ⟨_, _, _, _, e⟩ := x; exact Heap.lt_size e
  | tup xs => obtain ⟨_, _, _, p⟩ := x; exact p.lt
  | dK kvs => obtain ⟨_, _, _, _, o, _, _, e, _⟩ := x; exact Heap.lt_size e
  | dT kvs => obtain ⟨_, _, _, _, o, _, _, e, _⟩ := x; exact Heap.lt_size e
  | set S n => obtain ⟨o, _, _, _, e, _⟩ := x; exact Heap.lt_size e
  | ins C dx fs => obtain ⟨_, _, _, e, _⟩ := x; exact Heap.lt_size e
  | own y => obtain ⟨_, e⟩ := x; exact Heap.lt_size e
  | xd fs => obtain ⟨_, ⟨_, _, _, e, _⟩, _⟩ := x; exact Heap.lt_size e
  | rng lo hi => obtain ⟨_, _, _, e⟩ := x; exact Heap.lt_size e
  | frz ob u => obtain ⟨e, _⟩ := x; exact Heap.lt_size e
  | tbl ps => exact Heap.lt_size (show h.get? a = some _ from x)
  | tab q => obtain ⟨_, e, _⟩ := x; exact Heap.lt_size e
  | met f y => exact Heap.lt_size (show h.get? a = some _ from x)
  | ext φ => obtain ⟨_, ⟨_, e⟩, _⟩ := x; exact Heap.lt_size e
theorem Paired.mapP {α β : Type} {F G : α → β → Prop} : ∀ {l₁ : List α} {l₂ : List β}, Paired F l₁ l₂ → (∀ a b, F a b → G a b) → Paired G l₁ l₂
  | _, _, .nil, _ => .nil
  | _, _, .cons r t, f => .cons (f _ _ r) (Paired.mapP t f)
/-- what an object's description leans on: its own object, its own dict, the tuples -/
theorem ObjOk.stay (x : ObjOk P w H h a o) (k : ∀ b u, (b = a ∨ H b = some (.own a)) → h.get? b = some u → h'.get? b = some u)
    (ho : ∀ b, H b = some (.own a) → H' b = some (.own a)) (ht : ∀ b xs, H b = some (.tup xs) → H' b = some (.tup xs)) (hz : ∀ b ob, H b = some (.frz ob (.own 0)) → H' b = some (.frz ob (.own 0)) := by exact fun _ _ q => q) : ObjOk P w H' h' a o := by
  induction o with
  | lst xs => obtain ⟨z, its, n, r, e⟩ := x; exact ⟨z, its, n, r, k _ _ (.inl rfl) e⟩
  | tup xs => obtain ⟨z, its, r, ob, e, c⟩ := x; exact ⟨z, its, r, ob, k _ _ (.inl rfl) e, c⟩
  | dK kvs => obtain ⟨z, y, vs, r, ob, es, ep, e, c⟩ := x; exact ⟨z, y, vs, r, ob, es, ep, k _ _ (.inl rfl) e, c⟩
  | dT kvs =>
    obtain ⟨z, y, xs, r, ob, es, ep, e, c⟩ := x
    exact ⟨z, y, xs, Paired.mapP r fun p q z => ⟨z.1, ht _ _ z.2.1, z.2.2⟩, ob, es, ep, k _ _ (.inl rfl) e, c⟩
  | set S n => obtain ⟨ob, es, ep, t, e, c⟩ := x; exact ⟨ob, es, ep, t, k _ _ (.inl rfl) e, c⟩
  | ins C dx fs =>
    obtain ⟨d, z, ne, e, mA, ⟨od, es, ep, e2, c⟩, r⟩ := x
    exact ⟨ho _ d, z, ne, k _ _ (.inl rfl) e, mA, ⟨od, es, ep, k _ _ (.inr d) e2, c⟩, r⟩
  | own y => obtain ⟨ob, e⟩ := x; exact ⟨ob, k _ _ (.inl rfl) e⟩
  | xd fs => obtain ⟨mA, ⟨od, es, ep, e, c⟩, r⟩ := x; exact ⟨mA, ⟨od, es, ep, k _ _ (.inl rfl) e, c⟩, r⟩
  | rng lo hi => obtain ⟨t, u, v, e⟩ := x; exact ⟨t, u, v, k _ _ (.inl rfl) e⟩
  | frz ob u ih => obtain ⟨e, q⟩ := x; exact ⟨k _ _ (.inl rfl) e, ih q⟩
  | tab q =>
    obtain ⟨ps, e, tr, cs⟩ := x
    refine ⟨ps, k a _ (.inl rfl) e, tr, fun pos cv hc => ?_⟩
    obtain ⟨c, oc, vs, t, h1, h2, h3⟩ := cs pos cv hc
    exact ⟨c, oc, vs, t, h1, hz c oc h2, h3⟩
  | tbl ps =>
    have e : h.get? a = some { cls := .none, data := .fields ps } := x
    show h'.get? a = some { cls := .none, data := .fields ps }
    exact k a _ (.inl rfl) e
  | met f y =>
    have e : h.get? a = some (PySem.W.methodObj (.ref f) (.ref y)) := x
    show h'.get? a = some (PySem.W.methodObj (.ref f) (.ref y))
    exact k a _ (.inl rfl) e
  | ext φ => obtain ⟨p, ⟨o, e⟩, st⟩ := x; exact ⟨st _ _ p fun o q => k _ _ (.inl rfl) q, ⟨o, k _ _ (.inl rfl) e⟩, st⟩
theorem HOk.lt (x : HOk P w H h) (e : H a = some o) : a < h.objs.size := (x a o e).lt
theorem HOk.fresh (x : HOk P w H h) (e : h.objs.size ≤ a) : H a = none := by
  cases q : H a with
  | none => rfl
  | some u => exact absurd (Nat.lt_of_lt_of_le (x.lt q) e) (Nat.lt_irrefl _)
/-- every object of the heap is kept -/
theorem HOk.kept (x : HOk P w H h) (k : ∀ b u, h.get? b = some u → h'.get? b = some u) : HOk P w H h' := fun a o e =>
  (x a o e).stay (fun b u _ q => k b u q) (fun _ q => q) fun _ _ q => q
/-- a new object is laid and tracked -/
theorem HOk.laid (x : HOk P w H h) (k : ∀ b u, h.get? b = some u → h'.get? b = some u) (hp : h.objs.size ≤ a) (new : ObjOk P w (upd H a o) h' a o) : HOk P w (upd H a o) h' := fun b u e => by
  have hn := x.fresh hp
  by_cases hb : b = a
  · subst hb; rw [upd_same] at e; cases e; exact new
  · rw [upd_ne hb] at e
    exact (x b u e).stay (fun c v _ q => k c v q) (fun c q => by rw [upd_ne (ne_of_none q hn)]; exact q) (fun c xs q => by rw [upd_ne (ne_of_none q hn)]; exact q) fun c ob q => by rw [upd_ne (ne_of_none q hn)]; exact q
end

/-- what may be read as u: it is u, or a known u -/
def Rd (H : Hp) (a : Addr) (u : HO) : Prop := H a = some u ∨ ∃ o, H a = some (.frz o u)
theorem Rd.ok {P : Program} {w : World} {H : Hp} {h : Heap} {a : Addr} {u : HO} (r : Rd H a u) (x : HOk P w H h) : ObjOk P w H h a u := by
  rcases r with r | ⟨o, r⟩
  · exact x a u r
  · obtain ⟨_, q⟩ := x a _ r
    exact q
/-- what may be written -/
def Mut : Option HO → Prop
  | some (.lst _) => True
  | some (.dK _) => True
  | some (.dT _) => True
  | some (.set _ _) => True
  | some (.ins _ _ _) => True
  | some (.ext _) => True
  | some (.tab _) => True
  | _ => False
section
variable {P : Program} {w : World} {H : Hp} {h h' : Heap} {x e : Addr} {o' : HO}
/-- the object at e is changed: x itself, or the dict of the instance x -/
theorem HOk.write (ok : HOk P w H h) (mu : Mut (H x)) (he : e = x ∨ H e = some (.own x)) (k : ∀ b u, b ≠ e → h.get? b = some u → h'.get? b = some u) (heo : ∃ u, h'.get? e = some u)
    (new : ObjOk P w (upd H x o') h' x o') : HOk P w (upd H x o') h' := fun b u q => by
  have nown : ∀ c y, H c = some (.own y) → c ≠ x := fun c y r z => by subst z; rw [r] at mu; exact mu
  have ntup : ∀ c xs, H c = some (.tup xs) → c ≠ x := fun c xs r z => by subst z; rw [r] at mu; exact mu
  by_cases hb : b = x
  · subst hb; rw [upd_same] at q; cases q; exact new
  · rw [upd_ne hb] at q
    by_cases hbe : b = e
    · have q' : H b = some (.own x) := by
        rcases he with z | z
        · exact absurd (hbe.trans z) hb
        · rw [hbe]; exact z
      rw [q] at q'; cases q'
      obtain ⟨v, hv⟩ := heo
      exact ⟨v, by rw [hbe]; exact hv⟩
    · refine (ok b u q).stay (fun c v hc r => k c v ?_ r) (fun c r => by rw [upd_ne (nown c b r)]; exact r) (fun c xs r => by rw [upd_ne (ntup c xs r)]; exact r) (fun c ob r => by rw [upd_ne (fun z => by subst z; rw [r] at mu; exact mu)]; exact r)
      rcases hc with rfl | hc
      · exact hbe
      · rintro rfl
        rcases he with z | z
        · exact nown c b hc z
        · rw [hc] at z; cases z; exact hb rfl
end

/-! ### kept unless tracked; of the frames at fs (the callers') the slots may change (an exception that passes writes there); of the records at ex (iterators) nothing is said -/
structure Un (fs ex : List Addr) (H H' : Hp) (h h' : Heap) : Prop where
  keep : ∀ b o, h.get? b = some o → H b = none → b ∉ fs → b ∉ ex → h'.get? b = some o
  slot : ∀ b o, h.get? b = some o → H b = none → b ∈ fs → b ∉ ex → ∃ sl, h'.get? b = some { o with slots := sl }
  free : ∀ b o, h.get? b = some o → H b = none → b ∉ ex → H' b = none
  there : ∀ b o, h.get? b = some o → b ∉ ex → ∃ o', h'.get? b = some o'
  tups : ∀ b xs, H b = some (.tup xs) → H' b = some (.tup xs)
  frzs : ∀ b o u, H b = some (.frz o u) → H' b = some (.frz o u)
  tbls : ∀ b ps, H b = some (.tbl ps) → ∃ more, H' b = some (.tbl (ps ++ more))
section
variable {fs fs' ex ex' : List Addr} {H H1 H2 : Hp} {h h1 h2 h' : Heap} {a x e : Addr} {o : HO}
theorem Un.any (u : Un fs ex H H1 h h1) {b : Addr} {ob : Obj} (q : h.get? b = some ob) (n : H b = none) (hx : b ∉ ex) : ∃ sl, h1.get? b = some { ob with slots := sl } := by
  by_cases hb : b ∈ fs
  · exact u.slot b ob q n hb hx
  · exact ⟨ob.slots, u.keep b ob q n hb hx⟩
theorem Un.kept (k : ∀ b u, h.get? b = some u → h'.get? b = some u) : Un fs ex H H h h' :=
  ⟨fun b ob q _ _ _ => k b ob q, fun b ob q _ _ _ => ⟨ob.slots, k b ob q⟩, fun _ _ _ n _ => n, fun b ob q _ => ⟨ob, k b ob q⟩, fun _ _ q => q, fun _ _ _ q => q, fun _ ps q => ⟨#[], by rw [q]; simp⟩⟩
theorem Un.refl : Un fs ex H H h h := Un.kept fun _ _ q => q
theorem Un.laid (k : ∀ b u, h.get? b = some u → h'.get? b = some u) (hp : h.objs.size ≤ a) (hn : H a = none) : Un fs ex H (upd H a o) h h' where
  keep := fun b u q _ _ _ => k b u q
  slot := fun b u q _ _ _ => ⟨u.slots, k b u q⟩
  free := fun b u q n _ => by rw [upd_ne (Nat.ne_of_lt (Nat.lt_of_lt_of_le (Heap.lt_size q) hp))]; exact n
  there := fun b u q _ => ⟨u, k b u q⟩
  tups := fun b xs q => by rw [upd_ne (ne_of_none q hn)]; exact q
  frzs := fun b u xs q => by rw [upd_ne (ne_of_none q hn)]; exact q
  tbls := fun b ps q => ⟨#[], by rw [upd_ne (ne_of_none q hn), q]; simp⟩
theorem Un.write (mu : Mut (H x)) (he : e = x ∨ H e = some (.own x)) (k : ∀ b u, b ≠ e → h.get? b = some u → h'.get? b = some u) (heo : ∃ u, h'.get? e = some u) : Un fs ex H (upd H x o) h h' := by
  have hx : ∀ b, H b = none → b ≠ x := fun b n z => by subst z; rw [n] at mu; exact mu
  have hb : ∀ b, H b = none → b ≠ e := fun b n z => by
    subst z
    rcases he with r | r
    · exact hx b n r
    · rw [n] at r; cases r
  have hm : ∀ b u, H b = some u → ¬ Mut (some u) → b ≠ x := fun b u q nm z => by subst z; rw [q] at mu; exact nm mu
  refine ⟨fun b u q n _ _ => k b u (hb b n) q, fun b u q n _ _ => ⟨u.slots, k b u (hb b n) q⟩, fun b u q n _ => by rw [upd_ne (hx b n)]; exact n, fun b u q _ => ?_,
    fun b xs q => by rw [upd_ne (hm b _ q fun z => z)]; exact q, fun b u xs q => by rw [upd_ne (hm b _ q fun z => z)]; exact q, fun b ps q => ⟨#[], by rw [upd_ne (hm b _ q fun z => z), q]; simp⟩⟩
  by_cases hbe : b = e
  · subst hbe; exact heo
  · exact ⟨u, k b u hbe q⟩
end

/-! ### the heap without what is tracked -/
def trk (h : Heap) (H : Hp) : List Addr := (List.range h.objs.size).filter fun a => (H a).isSome
def hidT (h : Heap) (H : Hp) : Heap := PySem.W.hideAll h (trk h H)
theorem hidT_size (h : Heap) (H : Hp) : (hidT h H).objs.size = h.objs.size := PySem.W.hideAll_size _ _
theorem hidT_get {h : Heap} {H : Hp} {b : Addr} {o : Obj} (e : h.get? b = some o) (n : H b = none) : (hidT h H).get? b = some o :=
  PySem.W.hideAll_get _ e fun hm => by
    have q : (H b).isSome = true := (List.mem_filter.mp hm).2
    rw [n] at q; simp at q
theorem of_hidT {h : Heap} {H : Hp} {b : Addr} {o : Obj} (e : (hidT h H).get? b = some o) : h.get? b = some o ∧ H b = none := by
  have e' : h.get? b = some o := PySem.W.of_hideAll (trk h H) e
  refine ⟨e', ?_⟩
  cases q : H b with
  | none => rfl
  | some x =>
    have hm : b ∈ trk h H := List.mem_filter.mpr ⟨List.mem_range.mpr (Heap.lt_size e'), by simp [q]⟩
    have z : (hidT h H).get? b = none := PySem.W.hideAll_none (trk h H) hm
    rw [z] at e; cases e

/-! ### OpenK's ledger, filled with every new object but one -/
end L2

namespace L2
open PySem PySem.Spec PyProof.Rows

/-- the module's facts, over the base: the heap at the law's entry without what is tracked there -/
structure Mod (K : PySem.W.Frag) (mg : Str → Option Value) (base : Heap) : Prop where
  kin : K.In base
  glob : base.Ns mainGlobals mg
  blt : ∃ mb, base.Ns builtinsNs mb ∧ ∀ x : Str, x ≠ "__name__" → mb x = bootBuiltins x
  nolimit : base.NoLimit

/-- the context: a def's body (or a comprehension's block) running. base: fixed through the whole law; s₀, H₀: the entry; outer: the frames whose slots others may change (a def's callers); stack: all frames that run;
   ex: iterators that were made ahead of the entry and are walked here (a comprehension's); fn: the names whose cells were made at the entry (a def: all; a comprehension's block: its own); calm: not within an except suite; pn: pins that every state bears; xe: what is wanted of an exception that leaves the code -/
structure Cx where
  prog : Program
  w : World
  K : PySem.W.Frag
  mg : Str → Option Value
  base : Heap
  A : Around
  N : List Str
  s₀ : Shared
  H₀ : Hp
  env : Env
  outer : List Env
  stack : List Env
  ex : List Addr
  fn : Str → Bool
  calm : Bool
  pn : List (Addr × Obj)
  xe : Value → Shared → Prop
/-- the callers' frames -/
def frs (l : List Env) : List Addr := l.filterMap (·.frame)
abbrev Cx.fs (X : Cx) : List Addr := frs X.outer

def Vis (sc : Scope) (x : Str) : Prop := sc.names.lookup x = some .local ∨ sc.names.lookup x = some .cell ∨ sc.names.lookup x = some .free
def Loc (sc : Scope) (x : Str) : Prop := sc.names.lookup x = some .local ∨ sc.names.lookup x = some .cell
def Look (env : Env) (h : Heap) (m : Str → Option Value) (x : Str) (u : Value) : Prop :=
  (env.kindOf x = some .local ∧ m x = some u) ∨ ((env.kindOf x = some .cell ∨ env.kindOf x = some .free) ∧ ∃ c, env.cells.lookup x = some c ∧ h.IsCell c (some u))

structure Cx.Ok (X : Cx) : Prop where
  mod : Mod X.K X.mg X.base
  kind : X.env.scope.kind = .function
  glob : X.env.globals = mainGlobals
  blt : X.env.builtins = builtinsNs
  above : X.s₀.heap.objs.size ≤ X.env.locals
  inj : ∀ x y c, X.env.cells.lookup x = some c → X.env.cells.lookup y = some c → x = y
  has : ∀ x, (X.env.kindOf x = some .cell ∨ X.env.kindOf x = some .free) → ∃ c, X.env.cells.lookup x = some c
  cab : ∀ x c, X.fn x = true → X.env.cells.lookup x = some c → X.s₀.heap.objs.size ≤ c
  hd : X.calm = true → X.A.handled = none
  frames : X.A.frames = some X.stack
  stk : X.stack = X.outer ∨ (X.stack = X.env :: X.outer ∧ X.env.frame = some X.env.locals)
  exf : ∀ b ∈ X.ex, b ≠ X.env.locals ∧ ∀ x c, X.env.cells.lookup x = some c → c ≠ b
  bs : ∀ b o, X.base.get? b = some o → X.s₀.heap.get? b = some o ∧ X.H₀ b = none
  bsz : X.base.objs.size ≤ X.s₀.heap.objs.size
  noex : ∀ b o, X.base.get? b = some o → b ∉ X.ex
  exfs : ∀ b ∈ X.ex, b ∉ X.fs
  funs : X.s₀.heap.FunFrames X.base X.outer
  frf : ∀ b ∈ X.fs, X.H₀ b = none

structure Inv (X : Cx) (pins : List (Addr × Obj)) (σ : List (Option V)) (H : Hp) (s : Shared) : Prop where
  ok : X.Ok
  os : s.os = X.s₀.os
  bare : AllBare s.gens
  base : Un X.fs X.ex X.H₀ H X.s₀.heap s.heap
  loc : ∃ m, s.heap.Ns X.env.locals m ∧ ∀ (i : Nat) (x : Str) (v : V), X.N[i]? = some x → σ[i]? = some (some v) → Vis X.env.scope x → ∃ u, RelV v u ∧ Look X.env s.heap m x u
  cell : ∀ x c, X.env.cells.lookup x = some c → ∃ v, s.heap.IsCell c v
  free : H X.env.locals = none
  freeC : ∀ x c, X.env.cells.lookup x = some c → H c = none
  pin : ∀ p ∈ X.pn ++ pins, s.heap.get? p.1 = some p.2 ∧ H p.1 = none ∧ p.1 ≠ X.env.locals ∧ p.1 ∉ X.fs ∧ ∀ v, p.2.data ≠ .cell v
  hok : HOk X.prog X.w H s.heap
  len : σ.length = X.N.length

section
variable {X : Cx} {pins : List (Addr × Obj)} {σ : List (Option V)} {H H' : Hp} {s : Shared} {h' : Heap}

theorem Cx.Ok.nofr (ok : X.Ok) {b : Addr} {o : Obj} (e : X.base.get? b = some o) : b ∉ X.fs := fun hb => by
  have := (ok.funs.mem hb).1
  rw [e] at this; cases this
theorem Inv.bs (I : Inv X pins σ H s) : ∀ b o, X.base.get? b = some o → s.heap.get? b = some o ∧ H b = none := fun b o e =>
  ⟨I.base.keep b o (I.ok.bs b o e).1 (I.ok.bs b o e).2 (I.ok.nofr e) (I.ok.noex b o e), I.base.free b o (I.ok.bs b o e).1 (I.ok.bs b o e).2 (I.ok.noex b o e)⟩
theorem Inv.bk (I : Inv X pins σ H s) : ∀ b o, X.base.get? b = some o → s.heap.get? b = some o := fun b o e => (I.bs b o e).1
theorem Inv.mod (I : Inv X pins σ H s) : Mod X.K X.mg X.base := I.ok.mod
theorem Inv.kIn (I : Inv X pins σ H s) : X.K.In s.heap := I.ok.mod.kin.keeps I.bk
theorem Inv.lt (I : Inv X pins σ H s) : X.env.locals < s.heap.objs.size := let ⟨_, hn, _⟩ := I.loc; hn.lt
theorem Inv.sz (I : Inv X pins σ H s) : X.s₀.heap.objs.size ≤ s.heap.objs.size := Nat.le_trans I.ok.above (Nat.le_of_lt I.lt)
theorem Inv.nofs (I : Inv X pins σ H s) {a : Addr} (h : s.heap.objs.size ≤ a) : a ∉ X.fs := fun hb => by
  obtain ⟨_, o, ho, _⟩ := I.ok.funs.mem hb
  exact absurd (Nat.lt_of_lt_of_le (Heap.lt_size ho) (Nat.le_trans I.sz h)) (Nat.lt_irrefl _)
theorem Inv.cne (I : Inv X pins σ H s) : ∀ x c, X.env.cells.lookup x = some c → c ≠ X.env.locals := fun x c e z => by
  obtain ⟨v, o, ho, hd⟩ := I.cell x c e
  obtain ⟨m, ⟨o', es, ep, ho', hd', _⟩, _⟩ := I.loc
  rw [z, ho'] at ho; cases ho; rw [hd'] at hd; cases hd
theorem Inv.funs (I : Inv X pins σ H s) : s.heap.FunFrames X.base X.outer := by
  have all : ∀ (l : List Env), (∀ b ∈ frs l, b ∈ X.fs) → X.s₀.heap.FunFrames X.base l → s.heap.FunFrames X.base l := by
    intro l
    induction l with
    | nil => intro _ _; trivial
    | cons env r ih =>
      intro hs hl
      obtain ⟨hk, ⟨L, o, hf, hn, ho, hd⟩, hr⟩ := hl
      have hL : L ∈ X.fs := hs L (by unfold frs; rw [List.filterMap_cons, hf]; exact List.mem_cons_self)
      obtain ⟨sl, e⟩ := I.base.slot L o ho (I.ok.frf L hL) hL fun z => I.ok.exfs L z hL
      exact ⟨hk, ⟨L, _, hf, hn, e, hd⟩, ih (fun b hb => hs b (by unfold frs; rw [List.filterMap_cons, hf]; exact List.mem_cons_of_mem _ hb)) hr⟩
  exact all X.outer (fun _ hb => hb) I.ok.funs

/-- the frames that run, for a call -/
theorem Inv.stack (I : Inv X pins σ H s) : s.heap.FunFrames X.base X.stack := by
  rcases I.ok.stk with e | ⟨e, hf⟩
  · rw [e]; exact I.funs
  · rw [e]
    obtain ⟨m, hn, _⟩ := I.loc
    refine .cons (by rw [I.ok.kind]; decide) hf hn ?_ I.funs
    exact Heap.get?_none_of_le (Nat.le_trans I.ok.bsz I.ok.above)
theorem Inv.stkSub (I : Inv X pins σ H s) : ∀ b ∈ frs X.stack, b ∈ X.env.locals :: X.fs := fun b hb => by
  rcases I.ok.stk with e | ⟨e, hf⟩
  · rw [e] at hb; exact List.mem_cons_of_mem _ hb
  · rw [e] at hb
    unfold frs at hb
    rw [List.filterMap_cons, hf] at hb
    exact hb
theorem Inv.stkFree (I : Inv X pins σ H s) : ∀ b ∈ frs X.stack, H b = none := fun b hb => by
  rcases List.mem_cons.mp (I.stkSub b hb) with e | hb
  · rw [e]; exact I.free
  · obtain ⟨_, o, ho, _⟩ := I.ok.funs.mem hb
    exact I.base.free b o ho (I.ok.frf b hb) fun z => I.ok.exfs b z hb

/-- THE STEP: the untracked objects but the frame and the records at ch are kept (the callers' frames up to slots), the frame's map is kept, the new abstract heap is held -/
theorem Inv.step {g' : Array GenState} {t' : Nat} {d' : Drawn} {ch : List Addr} (I : Inv X pins σ H s)
    (hch : ∀ b ∈ ch, (b ∈ X.ex ∨ X.s₀.heap.objs.size ≤ b) ∧ b ≠ X.env.locals ∧ (∀ x c, X.env.cells.lookup x = some c → c ≠ b) ∧ ∀ p ∈ X.pn ++ pins, p.1 ≠ b)
    (keep : ∀ b o, b ≠ X.env.locals → b ∉ X.fs → b ∉ ch → s.heap.get? b = some o → H b = none → h'.get? b = some o)
    (slot : ∀ b o, b ≠ X.env.locals → b ∈ X.fs → b ∉ ch → s.heap.get? b = some o → H b = none → ∃ sl, h'.get? b = some { o with slots := sl }) (free : ∀ b o, b ∉ ch → s.heap.get? b = some o → H b = none → H' b = none)
    (there : ∀ b o, b ∉ ch → s.heap.get? b = some o → ∃ o', h'.get? b = some o')
    (tups : ∀ b xs, H b = some (.tup xs) → H' b = some (.tup xs)) (frzs : ∀ b o u, H b = some (.frz o u) → H' b = some (.frz o u)) (tbls : ∀ b ps, H b = some (.tbl ps) → ∃ more, H' b = some (.tbl (ps ++ more)))
    (ns : ∀ m, s.heap.Ns X.env.locals m → h'.Ns X.env.locals m) (hok : HOk X.prog X.w H' h') (hg : AllBare g') :
    Inv X pins σ H' { s with heap := h', gens := g', drawn := d', toks := t' } := by
  have neL : ∀ b o, X.s₀.heap.get? b = some o → b ≠ X.env.locals := fun b o e => Nat.ne_of_lt (Nat.lt_of_lt_of_le (Heap.lt_size e) I.ok.above)
  have neC : ∀ b o, X.s₀.heap.get? b = some o → b ∉ X.ex → b ∉ ch := fun b o e hx hb => by
    rcases (hch b hb).1 with z | z
    · exact hx z
    · exact absurd (Nat.lt_of_lt_of_le (Heap.lt_size e) z) (Nat.lt_irrefl _)
  have cellK : ∀ x c, X.env.cells.lookup x = some c → ∀ v, s.heap.IsCell c v → h'.IsCell c v := fun x c e v ⟨o, ho, hd⟩ => by
    have nch : c ∉ ch := fun z => (hch c z).2.2.1 x c e rfl
    by_cases hc : c ∈ X.fs
    · obtain ⟨sl, q⟩ := slot c o (I.cne x c e) hc nch ho (I.freeC x c e)
      exact ⟨_, q, hd⟩
    · exact ⟨o, keep c o (I.cne x c e) hc nch ho (I.freeC x c e), hd⟩
  refine ⟨I.ok, I.os, hg, ⟨fun b o e n hb hx => ?_, fun b o e n hb hx => ?_, fun b o e n hx => ?_, fun b o e hx => ?_, fun b xs e => tups b xs (I.base.tups b xs e), fun b o xs e => frzs b o xs (I.base.frzs b o xs e), fun b ps e => ?_⟩, ?_, fun x c e => ?_, ?_, fun x c e => ?_, fun p hp => ?_, hok, I.len⟩
  · exact keep b o (neL b o e) hb (neC b o e hx) (I.base.keep b o e n hb hx) (I.base.free b o e n hx)
  · obtain ⟨sl, e1⟩ := I.base.slot b o e n hb hx
    obtain ⟨sl', e2⟩ := slot b _ (neL b o e) hb (neC b o e hx) e1 (I.base.free b o e n hx)
    exact ⟨sl', e2⟩
  · obtain ⟨o', e1⟩ := I.base.there b o e hx
    exact free b o' (neC b o e hx) e1 (I.base.free b o e n hx)
  · obtain ⟨o', e1⟩ := I.base.there b o e hx
    exact there b o' (neC b o e hx) e1
  · obtain ⟨m1, e1⟩ := I.base.tbls b ps e
    obtain ⟨m2, e2⟩ := tbls b _ e1
    exact ⟨m1 ++ m2, by rw [e2, Array.append_assoc]⟩
  · obtain ⟨m, hn, hl⟩ := I.loc
    refine ⟨m, ns m hn, fun i x v e1 e2 e3 => ?_⟩
    obtain ⟨u, r, l⟩ := hl i x v e1 e2 e3
    refine ⟨u, r, ?_⟩
    rcases l with l | ⟨k, c, e, z⟩
    · exact .inl l
    · exact .inr ⟨k, c, e, cellK x c e _ z⟩
  · obtain ⟨v, z⟩ := I.cell x c e
    exact ⟨v, cellK x c e v z⟩
  · obtain ⟨m, ⟨o, _, _, ho, _⟩, _⟩ := I.loc
    exact free _ o (fun z => (hch _ z).2.1 rfl) ho I.free
  · obtain ⟨v, o, ho, hd⟩ := I.cell x c e
    exact free c o (fun z => (hch c z).2.2.1 x c e rfl) ho (I.freeC x c e)
  · obtain ⟨e, n, ne, nf, d⟩ := I.pin p hp
    have nch : p.1 ∉ ch := fun z => (hch p.1 z).2.2.2 p hp rfl
    exact ⟨keep p.1 p.2 ne nf nch e n, free p.1 p.2 nch e n, ne, nf, d⟩
/-- .. where the frame's own object is kept too -/
theorem Inv.un {t' : Nat} (I : Inv X pins σ H s) (u : Un X.fs [] H H' s.heap h') (hok : HOk X.prog X.w H' h') : Inv X pins σ H' { s with heap := h', toks := t' } := by
  obtain ⟨m, ⟨o, es, ep, ho, r⟩, _⟩ := id I.loc
  obtain ⟨sl, hL⟩ := u.any ho I.free (by simp)
  exact I.step (g' := s.gens) (d' := s.drawn) (ch := []) (fun _ z => nomatch z) (fun b o _ hb _ e n => u.keep b o e n hb (by simp)) (fun b o _ hb _ e n => u.slot b o e n hb (by simp)) (fun b o _ e n => u.free b o e n (by simp)) (fun b o _ e => u.there b o e (by simp)) u.tups u.frzs u.tbls (fun m' hm => by
    obtain ⟨o', es', ep', ho', r'⟩ := hm
    rw [ho] at ho'; cases ho'
    exact ⟨_, es', ep', hL, r'⟩) hok I.bare
/-- behind a call (or a comprehension's block): the slots of this frame may have changed too, the records at ch may have turned -/
theorem Inv.call {g' : Array GenState} {t' : Nat} {d' : Drawn} {ch : List Addr} (I : Inv X pins σ H s) (u : Un (frs X.stack) ch H H' s.heap h') (hok : HOk X.prog X.w H' h') (hg : AllBare g')
    (hch : ∀ b ∈ ch, (b ∈ X.ex ∨ X.s₀.heap.objs.size ≤ b) ∧ b ≠ X.env.locals ∧ (∀ x c, X.env.cells.lookup x = some c → c ≠ b) ∧ ∀ p ∈ X.pn ++ pins, p.1 ≠ b) :
    Inv X pins σ H' { s with heap := h', gens := g', drawn := d', toks := t' } := by
  obtain ⟨m, ⟨o, es, ep, ho, r⟩, _⟩ := id I.loc
  obtain ⟨sl, hL⟩ := u.any ho I.free fun z => (hch _ z).2.1 rfl
  exact I.step (ch := ch) hch (fun b o hL hb hc e n => u.keep b o e n (fun z => (List.mem_cons.mp (I.stkSub b z)).elim hL hb) hc) (fun b o _ _ hc e n => u.any e n hc) (fun b o hc e n => u.free b o e n hc) (fun b o hc e => u.there b o e hc) u.tups u.frzs u.tbls (fun m' hm => by
    obtain ⟨o', es', ep', ho', r'⟩ := hm
    rw [ho] at ho'; cases ho'
    exact ⟨_, es', ep', hL, r'⟩) hok hg
/-- an untracked record of ours (an iterator) has turned -/
theorem Inv.turned {t' : Nat} {it : Addr} (I : Inv X pins σ H s) (k : ∀ b o, b ≠ it → s.heap.get? b = some o → h'.get? b = some o) (hn : H it = none) (hL : it ≠ X.env.locals)
    (h1 : it ∈ X.ex ∨ X.s₀.heap.objs.size ≤ it) (h2 : ∀ x c, X.env.cells.lookup x = some c → c ≠ it) (h3 : ∀ p ∈ X.pn ++ pins, p.1 ≠ it) : Inv X pins σ H { s with heap := h', toks := t' } := by
  have nit : ∀ b u, H b = some u → b ≠ it := fun b u e z => by rw [z, hn] at e; cases e
  refine I.step (g' := s.gens) (d' := s.drawn) (ch := [it]) (fun b hb => ?_) (fun b o _ _ hc e _ => k b o (fun z => hc (by simp [z])) e) (fun b o _ _ hc e _ => ⟨o.slots, k b o (fun z => hc (by simp [z])) e⟩) (fun _ _ _ _ n => n)
    (fun b o hc e => ⟨o, k b o (fun z => hc (by simp [z])) e⟩) (fun _ _ e => e) (fun _ _ _ e => e) (fun b ps e => ⟨#[], by rw [e]; simp⟩) (fun m hm => ?_) (fun b u e => ?_) I.bare
  · have e : b = it := by simpa using hb
    subst e
    exact ⟨h1, hL, h2, h3⟩
  · obtain ⟨o, es, ep, ho, r⟩ := hm
    exact ⟨o, es, ep, k _ o (Ne.symm hL) ho, r⟩
  · refine (I.hok b u e).stay (fun c v hc q => k c v ?_ q) (fun _ q => q) fun _ _ q => q
    rcases hc with z | z
    · rw [z]; exact nit b u e
    · exact nit c _ z
theorem Inv.tok (I : Inv X pins σ H s) (t : Nat) : Inv X pins σ H { s with toks := t } := I.un (h' := s.heap) (t' := t) Un.refl I.hok
/-- all objects kept -/
theorem Inv.kept {t' : Nat} (I : Inv X pins σ H s) (k : ∀ b u, s.heap.get? b = some u → h'.get? b = some u) : Inv X pins σ H { s with heap := h', toks := t' } := I.un (Un.kept k) (I.hok.kept k)
/-- a new object laid and tracked -/
theorem Inv.laid {a : Addr} {o : HO} {t' : Nat} (I : Inv X pins σ H s) (k : ∀ b u, s.heap.get? b = some u → h'.get? b = some u) (hp : s.heap.objs.size ≤ a) (new : ObjOk X.prog X.w (upd H a o) h' a o) :
    Inv X pins σ (upd H a o) { s with heap := h', toks := t' } := I.un (Un.laid k hp (I.hok.fresh hp)) (I.hok.laid k hp new)
/-- an object written -/
theorem Inv.write {x e : Addr} {o : HO} {t' : Nat} (I : Inv X pins σ H s) (mu : Mut (H x)) (he : e = x ∨ H e = some (.own x)) (k : ∀ b u, b ≠ e → s.heap.get? b = some u → h'.get? b = some u) (heo : ∃ u, h'.get? e = some u)
    (new : ObjOk X.prog X.w (upd H x o) h' x o) : Inv X pins σ (upd H x o) { s with heap := h', toks := t' } := I.un (Un.write mu he k heo) (I.hok.write mu he k heo new)
theorem Inv.pins_of {pins' : List (Addr × Obj)} (I : Inv X pins σ H s) (h : ∀ p ∈ pins', s.heap.get? p.1 = some p.2 ∧ H p.1 = none ∧ p.1 ≠ X.env.locals ∧ p.1 ∉ X.fs ∧ ∀ v, p.2.data ≠ .cell v) : Inv X pins' σ H s :=
  ⟨I.ok, I.os, I.bare, I.base, I.loc, I.cell, I.free, I.freeC, fun p hp => (List.mem_append.mp hp).elim (fun z => I.pin p (List.mem_append_left _ z)) (h p), I.hok, I.len⟩

theorem nodup_ix {N : List Str} (hN : N.Nodup) {i j : Nat} {x : Str} (a : N[i]? = some x) (b : N[j]? = some x) : i = j := by
  obtain ⟨h1, e1⟩ := List.getElem?_eq_some_iff.mp a
  obtain ⟨h2, e2⟩ := List.getElem?_eq_some_iff.mp b
  exact (List.getElem_inj hN).mp (e1.trans e2.symm)

/-- a name is stored; what changed -/
theorem store_ok2 {M : Model} {A : Around} {E : Value → Shared → Prop} {i : Nat} {x : Str} {v : V} {u : Value} {Q : Unit → Shared → Prop} (I : Inv X pins σ H s) (hN : X.N.Nodup) (hi : X.N[i]? = some x) (hx : Loc X.env.scope x) (r : RelV v u)
    (h : ∀ s', Inv X pins (σ.set i (some v)) H s' → (∃ a, Heap.SameBut a s.heap s'.heap ∧ (a = X.env.locals ∨ X.env.cells.lookup x = some a)) → Q () s') (hf : X.fn x = true ∨ X.env.scope.names.lookup x = some .local := by first | exact .inl rfl | exact .inr rfl | assumption) : wpAny M A (storeName X.env x u) Q E s := by
  obtain ⟨m, hn, hl⟩ := id I.loc
  have hcls : (X.env.scope.kind == .class || (X.env.scope.kind == .module && X.env.locals != X.env.globals)) = false := by rw [I.ok.kind]; rfl
  have hiσ : i < σ.length := by rw [I.len]; exact (List.getElem?_eq_some_iff.mp hi).1
  have cne := I.cne
  have tracked : ∀ {a : Addr} {h' : Heap}, (∃ o, s.heap.get? a = some o ∧ H a = none) → Heap.SameBut a s.heap h' → HOk X.prog X.w H h' := fun {a h'} ha hs b ob e => by
    obtain ⟨_, _, hfree⟩ := ha
    refine (I.hok b ob e).stay (fun c w' hc q => (hs.2 c ?_).trans q) (fun _ q => q) fun _ _ q => q
    rintro rfl
    rcases hc with rfl | hc
    · rw [hfree] at e; cases e
    · rw [hfree] at hc; cases hc
  rcases hx with hk | hk
  · refine wpAny_storeName_local hk hn (fun h' hn' hs => ?_) hcls
    obtain ⟨oL, _, _, hoL, _⟩ := id hn
    refine h _ ⟨I.ok, I.os, I.bare, ⟨fun b o e n hb hx => ?_, fun b o e n hb hx => ?_, I.base.free, fun b o e hx => ?_, I.base.tups, I.base.frzs, I.base.tbls⟩, ⟨_, hn', fun j y v' e1 e2 e3 => ?_⟩, fun y c e => ?_, I.free, I.freeC, fun p hp => ?_, tracked ⟨oL, hoL, I.free⟩ hs, by simpa using I.len⟩ ⟨_, hs, .inl rfl⟩
    · exact (hs.2 b (Nat.ne_of_lt (Nat.lt_of_lt_of_le (Heap.lt_size e) I.ok.above))).trans (I.base.keep b o e n hb hx)
    · obtain ⟨sl, e1⟩ := I.base.slot b o e n hb hx
      exact ⟨sl, (hs.2 b (Nat.ne_of_lt (Nat.lt_of_lt_of_le (Heap.lt_size e) I.ok.above))).trans e1⟩
    · obtain ⟨o', e1⟩ := I.base.there b o e hx
      exact ⟨o', (hs.2 b (Nat.ne_of_lt (Nat.lt_of_lt_of_le (Heap.lt_size e) I.ok.above))).trans e1⟩
    · by_cases hj : j = i
      · subst hj
        rw [hi] at e1; cases e1
        rw [List.getElem?_set_self hiσ] at e2
        cases e2
        exact ⟨u, r, .inl ⟨hk, by simp⟩⟩
      · rw [List.getElem?_set_ne (Ne.symm hj)] at e2
        obtain ⟨u', r', q⟩ := hl j y v' e1 e2 e3
        refine ⟨u', r', ?_⟩
        rcases q with ⟨k, e⟩ | ⟨k, c, e, z⟩
        · refine .inl ⟨k, ?_⟩
          have : y ≠ x := fun e => hj (nodup_ix hN e1 (e ▸ hi))
          simp [this, e]
        · exact .inr ⟨k, c, e, z.sameBut hs (cne y c e)⟩
    · obtain ⟨w', z⟩ := I.cell y c e
      exact ⟨w', z.sameBut hs (cne y c e)⟩
    · obtain ⟨e, n, ne, nf, d⟩ := I.pin p hp
      exact ⟨(hs.2 p.1 ne).trans e, n, ne, nf, d⟩
  · have hfn : X.fn x = true := by
      rcases hf with z | z
      · exact z
      · rw [z] at hk; cases hk
    obtain ⟨c, hc⟩ := I.ok.has x (.inl hk)
    obtain ⟨w', z⟩ := I.cell x c hc
    refine wpAny_storeName_cell I.ok.kind hk hc z (fun h' hc' hs => ?_)
    obtain ⟨oc, hoc, hocd⟩ := id z
    refine h { s with heap := h' } ⟨I.ok, I.os, I.bare, ⟨fun b o e n hb hx => ?_, fun b o e n hb hx => ?_, I.base.free, fun b o e hx => ?_, I.base.tups, I.base.frzs, I.base.tbls⟩, ⟨m, hn.sameBut hs (Ne.symm (cne x c hc)), fun j y v' e1 e2 e3 => ?_⟩, fun y c' e => ?_, I.free, I.freeC, fun p hp => ?_, tracked ⟨oc, hoc, I.freeC x c hc⟩ hs, by simpa using I.len⟩ ⟨c, hs, .inr hc⟩
    · exact (hs.2 b (Nat.ne_of_lt (Nat.lt_of_lt_of_le (Heap.lt_size e) (I.ok.cab x c hfn hc)))).trans (I.base.keep b o e n hb hx)
    · obtain ⟨sl, e1⟩ := I.base.slot b o e n hb hx
      exact ⟨sl, (hs.2 b (Nat.ne_of_lt (Nat.lt_of_lt_of_le (Heap.lt_size e) (I.ok.cab x c hfn hc)))).trans e1⟩
    · obtain ⟨o', e1⟩ := I.base.there b o e hx
      exact ⟨o', (hs.2 b (Nat.ne_of_lt (Nat.lt_of_lt_of_le (Heap.lt_size e) (I.ok.cab x c hfn hc)))).trans e1⟩
    · by_cases hj : j = i
      · subst hj
        rw [hi] at e1; cases e1
        rw [List.getElem?_set_self hiσ] at e2
        cases e2
        exact ⟨u, r, .inr ⟨.inl hk, c, hc, hc'⟩⟩
      · rw [List.getElem?_set_ne (Ne.symm hj)] at e2
        obtain ⟨u', r', q⟩ := hl j y v' e1 e2 e3
        refine ⟨u', r', ?_⟩
        rcases q with q | ⟨k, c', e, z'⟩
        · exact .inl q
        · refine .inr ⟨k, c', e, z'.sameBut hs ?_⟩
          rintro rfl
          exact hj (nodup_ix hN e1 (I.ok.inj _ _ _ e hc ▸ hi))
    · by_cases hcc : c' = c
      · subst hcc; exact ⟨_, hc'⟩
      · obtain ⟨w2, z2⟩ := I.cell y c' e
        exact ⟨w2, z2.sameBut hs hcc⟩
    · obtain ⟨e, n, ne, nf, d⟩ := I.pin p hp
      refine ⟨(hs.2 p.1 ?_).trans e, n, ne, nf, d⟩
      intro q
      rw [q, hoc] at e
      have q' : oc = p.2 := Option.some.inj e
      exact d w' (by rw [← q']; exact hocd)
theorem store_ok {M : Model} {A : Around} {E : Value → Shared → Prop} {i : Nat} {x : Str} {v : V} {u : Value} {Q : Unit → Shared → Prop} (I : Inv X pins σ H s) (hN : X.N.Nodup) (hi : X.N[i]? = some x) (hx : Loc X.env.scope x) (r : RelV v u)
    (h : ∀ s', Inv X pins (σ.set i (some v)) H s' → Q () s') (hf : X.fn x = true ∨ X.env.scope.names.lookup x = some .local := by first | exact .inl rfl | exact .inr rfl | assumption) : wpAny M A (storeName X.env x u) Q E s :=
  store_ok2 I hN hi hx r (fun s' I' _ => h s' I') hf
/-- behind a call or a block, the state as it is -/
theorem Inv.call' {s' : Shared} {ch : List Addr} (I : Inv X pins σ H s) (ho : s'.os = s.os) (u : Un (frs X.stack) ch H H' s.heap s'.heap) (hok : HOk X.prog X.w H' s'.heap) (hg : AllBare s'.gens)
    (hch : ∀ b ∈ ch, (b ∈ X.ex ∨ X.s₀.heap.objs.size ≤ b) ∧ b ≠ X.env.locals ∧ (∀ x c, X.env.cells.lookup x = some c → c ≠ b) ∧ ∀ p ∈ X.pn ++ pins, p.1 ≠ b) : Inv X pins σ H' s' := by
  obtain ⟨h', g', d', t', o'⟩ := s'
  have e : o' = s.os := ho
  subst e
  exact I.call (g' := g') (t' := t') (d' := d') u hok hg hch
end

/-! ### the judgements -/
/-- an exception: its class, its own dict's address (where it has one), the abstract heap behind it -/
abbrev XK := Value → Option Addr → Hp → Prop
abbrev St := List (Option V)
abbrev VK := V → Hp → Prop
/-- an expression's reading; a test's; an argument list's -/
abbrev TE := St → Hp → VK → Prop
abbrev TT := St → Hp → (Bool → Hp → Prop) → Prop
abbrev TA := St → Hp → (List V → Hp → Prop) → Prop
/-- what is wanted behind a statement -/
structure Ends where
  nx : St → Hp → Prop
  rt : VK
  bk : St → Hp → Prop := fun _ _ => False
  ct : St → Hp → Prop := fun _ _ => False
abbrev TS := Ends → St → Hp → Prop

def EP (X : Cx) (pins : List (Addr × Obj)) (σ : St) (Q : VK) (u : Value) (s' : Shared) : Prop := ∃ v H', Inv X pins σ H' s' ∧ RelV v u ∧ Q v H'
def TP (X : Cx) (pins : List (Addr × Obj)) (σ : St) (Q : Bool → Hp → Prop) (b : Bool) (s' : Shared) : Prop := ∃ H', Inv X pins σ H' s' ∧ Q b H'
def AP (X : Cx) (pins : List (Addr × Obj)) (σ : St) (Q : List V → Hp → Prop) (us : List Value) (s' : Shared) : Prop := ∃ vs H', Inv X pins σ H' s' ∧ Vals vs us ∧ Q vs H'
def SP (X : Cx) (pins : List (Addr × Obj)) (D : Ends) (f : Flow) (s' : Shared) : Prop :=
  match f with
  | .next => ∃ σ' H', Inv X pins σ' H' s' ∧ D.nx σ' H'
  | .brk => ∃ σ' H', Inv X pins σ' H' s' ∧ D.bk σ' H'
  | .cont => ∃ σ' H', Inv X pins σ' H' s' ∧ D.ct σ' H'
  | .ret u => ∃ v σ' H', Inv X pins σ' H' s' ∧ RelV v u ∧ D.rt v H'

def PE (X : Cx) (e : Expr) (t : TE) : Prop :=
  ∀ (pins : List (Addr × Obj)) (s : Shared) (σ : St) (H : Hp) (Q : VK), Inv X pins σ H s → t σ H Q → wpAny (model X.prog X.w) X.A (eval e X.env) (EP X pins σ Q) X.xe s
def PT (X : Cx) (e : Expr) (t : TT) : Prop :=
  ∀ (pins : List (Addr × Obj)) (s : Shared) (σ : St) (H : Hp) (Q : Bool → Hp → Prop), Inv X pins σ H s → t σ H Q → wpAny (model X.prog X.w) X.A (isTrue e X.env (eval e X.env)) (TP X pins σ Q) X.xe s
/-- a test whatever its 'whole' is (and, or) -/
def PW (X : Cx) (e : Expr) (t : TT) : Prop :=
  ∀ (whole : Sem Value) (pins : List (Addr × Obj)) (s : Shared) (σ : St) (H : Hp) (Q : Bool → Hp → Prop), Inv X pins σ H s → t σ H Q → wpAny (model X.prog X.w) X.A (isTrue e X.env whole) (TP X pins σ Q) X.xe s
theorem PW.pt {X : Cx} {e : Expr} {t : TT} (h : PW X e t) : PT X e t := h _
/-- an argument list (no star), from the left -/
def PA (X : Cx) (es : List Expr) (t : TA) : Prop :=
  ∀ (pos : Pos) (pins : List (Addr × Obj)) (s : Shared) (σ : St) (H : Hp) (Q : List V → Hp → Prop), Inv X pins σ H s → t σ H Q → wpAny (model X.prog X.w) X.A (spliced (backTo pos (starEach es X.env))) (AP X pins σ Q) X.xe s
def PS (X : Cx) (st : Stmt) (t : TS) : Prop :=
  ∀ (pins : List (Addr × Obj)) (s : Shared) (σ : St) (H : Hp) (D : Ends), Inv X pins σ H s → t D σ H → wpAny (model X.prog X.w) X.A (exec st X.env) (SP X pins D) X.xe s
def PSs (X : Cx) (st : List Stmt) (t : TS) : Prop :=
  ∀ (pins : List (Addr × Obj)) (s : Shared) (σ : St) (H : Hp) (D : Ends), Inv X pins σ H s → t D σ H → wpAny (model X.prog X.w) X.A (execs st X.env) (SP X pins D) X.xe s
/-- weaken the end -/
theorem thn {α : Type} {t : Sem α} {Q Q' : α → Shared → Prop} {M : Model} {A : Around} {E : Value → Shared → Prop} {s : Shared} (h : wpAny M A t Q E s) (hQ : ∀ a s, Q a s → Q' a s) : wpAny M A t Q' E s := wpAny_mono h hQ fun _ _ x => x
end L2

namespace L2
open PySem PySem.Spec PyProof.Rows
section
variable {X : Cx}

/-! ### names and constants -/
def tVar (i : Nat) : TE := fun σ H Q => ∃ v, σ[i]? = some (some v) ∧ Q v H
def tC (v : V) : TE := fun _ H Q => Q v H
theorem pe_var {i : Nat} {x : Str} {pos : Pos} (hN : X.N[i]? = some x) (hv : Vis X.env.scope x) (hd : (x == ("__debug__" : Str)) = false := by decide) (hcd : (x == ("__classdict__" : Str)) = false := by decide) : PE X (.Name x pos) (tVar i) := by
  intro pins s σ H Q I h
  obtain ⟨v, e, h⟩ := h
  obtain ⟨m, hn, hl⟩ := I.loc
  obtain ⟨u, r, l⟩ := hl i x v hN e hv
  have fin : EP X pins σ Q u s := ⟨v, H, I, r, h⟩
  rcases l with ⟨hk, hm⟩ | ⟨hk, c, hc, hcell⟩
  · exact wpAny_Name (wpAny_loadName_local I.ok.kind hk hn hm fin) hd
  · rcases hk with hk | hk
    · exact wpAny_Name (wpAny_loadName_cell I.ok.kind hk hc hcell fin) hd
    · exact wpAny_Name (wpAny_loadName_free I.ok.kind hk hc hcell fin hcd) hd
theorem pe_int {i j pos} : PE X (.Constant (.int i) j pos) (tC (.int i)) := fun _ _ _ H _ I h => wpAny_Constant_int ⟨.int i, H, I.tok _, ⟨_, rfl⟩, h⟩
theorem pe_bl {b j pos} : PE X (.Constant (.bool b) j pos) (tC (.bl b)) := fun _ _ _ H _ I h => Constant_bool ⟨.bl b, H, I, rfl, h⟩
theorem pe_non {j pos} : PE X (.Constant .none j pos) (tC .non) := fun _ _ _ H _ I h => Constant_none ⟨.non, H, I, rfl, h⟩
theorem pe_str {x j pos} : PE X (.Constant (.str x) j pos) (tC (.str x)) := fun _ _ _ H _ I h => Calls.Constant_str ⟨.str x, H, I.tok _, ⟨_, rfl⟩, h⟩

/-- a global name of the def -/
def Gl (X : Cx) (x : Str) : Prop := X.env.kindOf x = some .globalImplicit
theorem ld_glob {E : Value → Shared → Prop} {pins : List (Addr × Obj)} {s : Shared} {σ : St} {H : Hp} {x : Str} {u : Value} {pos : Pos} {Q : Value → Shared → Prop} (I : Inv X pins σ H s) (hg : Gl X x) (hm : X.mg x = some u) (h : Q u s)
    (hd : (x == ("__debug__" : Str)) = false := by decide) : wpAny (model X.prog X.w) X.A (eval (.Name x pos) X.env) Q E s :=
  Calls.Name_function_global I.ok.kind hg (Calls.loadGlobal_global (by rw [I.ok.glob]; exact I.mod.glob.keeps I.bk) hm h) hd
theorem ld_blt {E : Value → Shared → Prop} {pins : List (Addr × Obj)} {s : Shared} {σ : St} {H : Hp} {x : Str} {u : Value} {pos : Pos} {Q : Value → Shared → Prop} (I : Inv X pins σ H s) (hg : Gl X x) (hm : X.mg x = none) (hv : bootBuiltins x = some u) (h : Q u s)
    (hn : x ≠ "__name__" := by decide) (hd : (x == ("__debug__" : Str)) = false := by decide) : wpAny (model X.prog X.w) X.A (eval (.Name x pos) X.env) Q E s := by
  obtain ⟨mb, h1, h2⟩ := I.mod.blt
  exact Calls.Name_function_global I.ok.kind hg (Calls.loadGlobal_builtin (by rw [I.ok.glob]; exact I.mod.glob.keeps I.bk) hm (by rw [I.ok.blt]; exact h1.keeps I.bk) ((h2 x hn).trans hv) h) hd
/-- a module's constant, a class, a function, as a value -/
theorem pe_glob {x : Str} {v : V} {u : Value} {pos : Pos} (hg : Gl X x) (hm : X.mg x = some u) (r : RelV v u) (hd : (x == ("__debug__" : Str)) = false := by decide) : PE X (.Name x pos) (tC v) :=
  fun _ _ _ H _ I h => ld_glob I hg hm ⟨v, H, I, r, h⟩ hd
/-! ### arithmetic -/
variable {a b : Expr} {ta tb : TE} {pos : Pos}
/-! ### comparisons -/
/-! ### and, or, not -/
variable {tA tB' : TT} {rest : List Expr}
def tAnd (t u : TT) : TT := fun σ H Q => t σ H fun c H1 => if c = true then u σ H1 Q else Q false H1
def tOr (t u : TT) : TT := fun σ H Q => t σ H fun c H1 => if c = true then Q true H1 else u σ H1 Q
theorem pw_and1 (ha : PT X a tA) : PW X (.BoolOp .And [a] pos) tA := by
  intro wh pins s σ H Q I h
  refine isTrue_and (thn (ha pins s σ H Q I h) fun c s1 e => ?_)
  cases c with
  | true => exact isTrue_and_nil e
  | false => exact e
theorem pw_or1 (ha : PT X a tA) : PW X (.BoolOp .Or [a] pos) tA := by
  intro wh pins s σ H Q I h
  refine isTrue_or (thn (ha pins s σ H Q I h) fun c s1 e => ?_)
  cases c with
  | false => exact isTrue_or_nil e
  | true => exact e
theorem pw_and (ha : PT X a tA) (hb : PW X (.BoolOp .And (b :: rest) pos) tB') : PW X (.BoolOp .And (a :: b :: rest) pos) (tAnd tA tB') := by
  intro wh pins s σ H Q I h
  refine isTrue_and (thn (ha pins s σ H _ I h) fun c s1 ⟨H1, I1, q1⟩ => ?_)
  cases c with
  | true => exact hb wh pins s1 σ H1 Q I1 q1
  | false => exact ⟨H1, I1, q1⟩
theorem pw_or (ha : PT X a tA) (hb : PW X (.BoolOp .Or (b :: rest) pos) tB') : PW X (.BoolOp .Or (a :: b :: rest) pos) (tOr tA tB') := by
  intro wh pins s σ H Q I h
  refine isTrue_or (thn (ha pins s σ H _ I h) fun c s1 ⟨H1, I1, q1⟩ => ?_)
  cases c with
  | true => exact ⟨H1, I1, q1⟩
  | false => exact hb wh pins s1 σ H1 Q I1 q1
end
end L2

namespace L2
open PySem PySem.Spec PyProof.Rows

/-! ### a list, a tuple that is read: tracked, frozen, or an object of the module -/
def SqL (K : PySem.W.Frag) (H : Hp) (a : Addr) (xs : List V) : Prop :=
  Rd H a (.lst xs) ∨
    ∃ (o : Obj) (its : Array Value) (n : Nat), K.lookup a = some o ∧ o.cls = .type "list" ∧ o.dict = none ∧ o.data = .seq its n ∧ its.size ≤ sizeLine ∧ Vals xs its.toList
def SqT (K : PySem.W.Frag) (H : Hp) (a : Addr) (xs : List V) : Prop :=
  Rd H a (.tup xs) ∨
    ∃ (o : Obj) (its : Array Value) (n : Nat), K.lookup a = some o ∧ o.cls = .type "tuple" ∧ o.data = .seq its n ∧ its.size ≤ sizeLine ∧ Vals xs its.toList
def absV : Value → Option V
  | .none => some .non
  | .bool b => some (.bl b)
  | .int i _ => some (.int i)
  | .str x _ => some (.str x)
  | .bytes b _ => some (.byt b)
  | .float b _ => some (.flt b)
  | .ref a => some (.ref a)
  | .type n => some (.ty n)
  | _ => none
theorem RelV.abs {x : V} {u : Value} (r : RelV x u) : absV u = some x := by
  cases x with
  | non => cases r; rfl
  | bl _ => cases r; rfl
  | int _ => obtain ⟨t, rfl⟩ := r; rfl
  | str _ => obtain ⟨t, rfl⟩ := r; rfl
  | byt _ => obtain ⟨t, rfl⟩ := r; rfl
  | flt _ => obtain ⟨t, rfl⟩ := r; rfl
  | ref _ => cases r; rfl
  | ty _ => cases r; rfl
theorem RelV.inj {x y : V} {u : Value} (r : RelV x u) (q : RelV y u) : x = y := Option.some.inj (r.abs.symm.trans q.abs)
theorem Vals.inj : ∀ {xs ys : List V} {us : List Value}, Vals xs us → Vals ys us → xs = ys
  | _, _, _, .nil, .nil => rfl
  | _, _, _, .cons r t, .cons r' t' => by rw [r.inj r', Vals.inj t t']
section
variable {X : Cx} {pins : List (Addr × Obj)} {σ : St} {H : Hp} {s : Shared} {a : Addr} {xs ys : List V}
theorem SqL.of {K : PySem.W.Frag} (h : H a = some (.lst xs)) : SqL K H a xs := .inl (.inl h)
theorem SqT.of {K : PySem.W.Frag} (h : H a = some (.tup xs)) : SqT K H a xs := .inl (.inl h)
theorem Inv.list (I : Inv X pins σ H s) (h : SqL X.K H a xs) : ∃ its : List Value, Vals xs its ∧ PlainL s.heap a its.toArray ∧ xs.length ≤ sizeLine := by
  rcases h with h | ⟨o, its, n, hk, hc, hd, hs, hz, r⟩
  · obtain ⟨z, its, n, r, e⟩ := h.ok I.hok
    exact ⟨its, r, ⟨_, n, e, rfl, rfl, rfl⟩, z⟩
  · refine ⟨its.toList, r, ⟨o, n, I.kIn a o hk, hc, hd, by simpa using hs⟩, ?_⟩
    have e := r.length
    simp only [Array.length_toList] at e
    omega
theorem Inv.tuple (I : Inv X pins σ H s) (h : SqT X.K H a xs) : ∃ its : List Value, Vals xs its ∧ IsTup s.heap a its.toArray ∧ xs.length ≤ sizeLine := by
  rcases h with h | ⟨o, its, n, hk, hc, hs, hz, r⟩
  · obtain ⟨z, its, r, p⟩ := h.ok I.hok
    exact ⟨its, r, p.tup, z⟩
  · refine ⟨its.toList, r, ⟨o, I.kIn a o hk, hc, n, by simpa using hs⟩, ?_⟩
    have e := r.length
    simp only [Array.length_toList] at e
    omega
theorem Inv.list_inj (I : Inv X pins σ H s) (h : SqL X.K H a xs) (h' : SqL X.K H a ys) : xs = ys := by
  obtain ⟨its, r, ⟨o, n, e, _, _, d⟩, _⟩ := I.list h
  obtain ⟨its', r', ⟨o', n', e', _, _, d'⟩, _⟩ := I.list h'
  rw [e] at e'; cases e'
  rw [d] at d'
  injection d' with d1 _
  have : its = its' := by simpa using congrArg Array.toList d1
  subst this
  exact r.inj r'
theorem Inv.tuple_inj (I : Inv X pins σ H s) (h : SqT X.K H a xs) (h' : SqT X.K H a ys) : xs = ys := by
  obtain ⟨its, r, ⟨o, e, _, n, d⟩, _⟩ := I.tuple h
  obtain ⟨its', r', ⟨o', e', _, n', d'⟩, _⟩ := I.tuple h'
  rw [e] at e'; cases e'
  rw [d] at d'
  injection d' with d1 _
  have : its = its' := by simpa using congrArg Array.toList d1
  subst this
  exact r.inj r'
end

/-! ### another wish about exceptions -/
abbrev Cx.wish (X : Cx) (E : Value → Shared → Prop) : Cx := { X with xe := E }
/-- no exception leaves -/
abbrev Cx.nox (X : Cx) : Cx := X.wish fun _ _ => False
theorem Cx.Ok.wish {X : Cx} (ok : X.Ok) (E : Value → Shared → Prop) : (X.wish E).Ok :=
  ⟨ok.mod, ok.kind, ok.glob, ok.blt, ok.above, ok.inj, ok.has, ok.cab, ok.hd, ok.frames, ok.stk, ok.exf, ok.bs, ok.bsz, ok.noex, ok.exfs, ok.funs, ok.frf⟩
theorem Cx.Ok.unwish {X : Cx} {E : Value → Shared → Prop} (ok : (X.wish E).Ok) : X.Ok :=
  ⟨ok.mod, ok.kind, ok.glob, ok.blt, ok.above, ok.inj, ok.has, ok.cab, ok.hd, ok.frames, ok.stk, ok.exf, ok.bs, ok.bsz, ok.noex, ok.exfs, ok.funs, ok.frf⟩
section
variable {X : Cx} {pins : List (Addr × Obj)} {σ : St} {H : Hp} {s : Shared} {E : Value → Shared → Prop}
theorem Inv.wish (I : Inv X pins σ H s) (E : Value → Shared → Prop) : Inv (X.wish E) pins σ H s := ⟨I.ok.wish E, I.os, I.bare, I.base, I.loc, I.cell, I.free, I.freeC, I.pin, I.hok, I.len⟩
theorem Inv.unwish (I : Inv (X.wish E) pins σ H s) : Inv X pins σ H s := ⟨I.ok.unwish, I.os, I.bare, I.base, I.loc, I.cell, I.free, I.freeC, I.pin, I.hok, I.len⟩
theorem SP.unwish {D : Ends} {f : Flow} {s' : Shared} (h : SP (X.wish E) pins D f s') : SP X pins D f s' := by
  cases f with
  | next => obtain ⟨σ', H', I, q⟩ := h; exact ⟨σ', H', I.unwish, q⟩
  | brk => obtain ⟨σ', H', I, q⟩ := h; exact ⟨σ', H', I.unwish, q⟩
  | cont => obtain ⟨σ', H', I, q⟩ := h; exact ⟨σ', H', I.unwish, q⟩
  | ret u => obtain ⟨v, σ', H', I, r, q⟩ := h; exact ⟨v, σ', H', I.unwish, r, q⟩
theorem PSs.nox {st : List Stmt} {t : TS} (h : PSs X.nox st t) : PSs X st t := fun pins s σ H D I hw =>
  wpAny_mono (h pins s σ H D (I.wish _) hw) (fun _ _ q => q.unwish) fun _ _ z => False.elim z
end

/-! ### blocks and small statements -/
section
variable {X : Cx} {st : Stmt} {rest : List Stmt} {t u : TS} {e : Expr} {te : TE} {pos : Pos}
def tNext : TS := fun D σ H => D.nx σ H
def tSeq (t u : TS) : TS := fun D σ H => t { D with nx := u D } σ H
theorem pss_nil : PSs X [] tNext := fun _ _ σ H _ I h => wpAny_execs_nil ⟨σ, H, I, h⟩
theorem pss_cons (h1 : PS X st t) (h2 : PSs X rest u) : PSs X (st :: rest) (tSeq t u) := by
  intro pins s σ H D I h
  refine wpAny_execs_cons (thn (h1 pins s σ H { D with nx := u D } I h) fun f s1 q => ?_)
  cases f with
  | next =>
    obtain ⟨σ', H', I', q⟩ := q
    exact h2 pins s1 σ' H' D I' q
  | ret v => exact q
  | brk => exact q
  | cont => exact q
theorem pss_one (h1 : PS X st t) : PSs X [st] t := by
  intro pins s σ H D I h
  refine wpAny_execs_cons (thn (h1 pins s σ H D I h) fun f s1 q => ?_)
  cases f with
  | next => exact wpAny_execs_nil q
  | ret v => exact q
  | brk => exact q
  | cont => exact q
/-- in a def's body nothing is shown -/
theorem Inv.quiet {pins : List (Addr × Obj)} {σ : St} {H : Hp} {s : Shared} (I : Inv X pins σ H s) : interactive X.env = false := by simp [interactive, I.ok.kind]
/-- an expression whose value is dropped -/
def tDrop (te : TE) : TS := fun D σ H => te σ H fun _ H1 => D.nx σ H1
theorem ps_expr (he : PE X e te) (hs : swapsWith e none pos.line X.env = pure false := by rfl) : PS X (.Expr e pos) (tDrop te) := by
  intro pins s σ H D I h
  exact wpAny_Expr_any (thn (he pins s σ H _ I h) fun v s1 ⟨x, H1, I1, r1, q1⟩ => ⟨σ, H1, I1, q1⟩) I.quiet hs
def tRet (te : TE) : TS := fun D σ H => te σ H D.rt
theorem ps_ret (he : PE X e te) : PS X (.Return (some e) pos) (tRet te) := by
  intro pins s σ H D I h
  exact wpAny_Return_some (thn (he pins s σ H _ I h) fun v s1 ⟨x, H1, I1, r1, q1⟩ => ⟨x, σ, H1, I1, r1, q1⟩)
def tIfS (c : TT) (t u : TS) : TS := fun D σ H => c σ H fun b H1 => if b = true then t D σ H1 else u D σ H1
theorem ps_if {c : Expr} {a b : List Stmt} {tc : TT} (hc : PT X c tc) (ha : PSs X a t) (hb : PSs X b u) : PS X (.If c a b pos) (tIfS tc t u) := by
  intro pins s σ H D I h
  refine wpAny_If (thn (hc pins s σ H _ I h) fun d s1 ⟨H1, I1, q1⟩ => ?_)
  cases d with
  | true => exact ha pins s1 σ H1 D I1 q1
  | false => exact hb pins s1 σ H1 D I1 q1
/-- code that the proof never comes to -/
def tNever : TS := fun _ _ _ => False
theorem ps_never : PS X st tNever := fun _ _ _ _ _ _ h => h.elim
end

/-! ### targets -/
abbrev TG := V → St → Hp → (St → Hp → Prop) → Prop
abbrev TGs := List V → St → Hp → (St → Hp → Prop) → Prop
def PG (X : Cx) (target : Expr) (t : TG) : Prop :=
  ∀ (pins : List (Addr × Obj)) (s : Shared) (σ : St) (H : Hp) (v : V) (u : Value) (Q : St → Hp → Prop), Inv X pins σ H s → RelV v u → t v σ H Q →
    wpAny (model X.prog X.w) X.A (assign target X.env u) (fun _ s' => ∃ σ' H', Inv X pins σ' H' s' ∧ Q σ' H') X.xe s
/-- several targets, one after another -/
def PGs (X : Cx) (ts : List Expr) (t : TGs) : Prop :=
  ∀ (pins : List (Addr × Obj)) (s : Shared) (σ : St) (H : Hp) (vs : List V) (us : List Value) (Q : St → Hp → Prop), Inv X pins σ H s → Vals vs us → t vs σ H Q →
    wpAny (model X.prog X.w) X.A (assignInOrder ((assignEach ts X.env).map (·.2)) us) (fun _ s' => ∃ σ' H', Inv X pins σ' H' s' ∧ Q σ' H') X.xe s
/-- o[i] = v, by values -/
abbrev TSet := V → V → V → Hp → (Hp → Prop) → Prop
def PSet (X : Cx) (t : TSet) : Prop :=
  ∀ (pins : List (Addr × Obj)) (s : Shared) (σ : St) (H : Hp) (o i v : V) (ov iv u : Value) (Q : Hp → Prop), Inv X pins σ H s → RelV o ov → RelV i iv → RelV v u → t o i v H Q →
    wpAny (model X.prog X.w) X.A (setItem ov iv u) (fun _ s' => ∃ H', Inv X pins σ H' s' ∧ Q H') X.xe s
/-- a op= b, by values -/
abbrev TIp := V → V → Hp → VK → Prop
def PIp (X : Cx) (op : Operator) (t : TIp) : Prop :=
  ∀ (pins : List (Addr × Obj)) (s : Shared) (σ : St) (H : Hp) (x y : V) (v u : Value) (Q : VK), Inv X pins σ H s → RelV x v → RelV y u → t x y H Q →
    wpAny (model X.prog X.w) X.A (inplaceOp op v u) (EP X pins σ Q) X.xe s
section
variable {X : Cx} {pos : Pos}
def gName (i : Nat) : TG := fun v σ H Q => Q (σ.set i (some v)) H
theorem pg_name {i : Nat} {x : Str} (hN : X.N.Nodup) (hi : X.N[i]? = some x) (hx : Loc X.env.scope x) (hf : X.fn x = true ∨ X.env.scope.names.lookup x = some .local := by first | exact .inl rfl | exact .inr rfl | assumption) : PG X (.Name x pos) (gName i) := by
  intro pins s σ H v u Q I r h
  exact wpAny_assign_Name (store_ok I hN hi hx r (fun s' I' => ⟨_, H, I', h⟩) hf)
def gNil : TGs := fun vs σ H Q => vs = [] ∧ Q σ H
def gCons (t : TG) (u : TGs) : TGs := fun vs σ H Q => ∃ v r, vs = v :: r ∧ t v σ H fun σ' H' => u r σ' H' Q
theorem pgs_nil : PGs X [] gNil := by
  intro pins s σ H vs us Q I r h
  obtain ⟨e, h⟩ := h
  subst e
  cases r
  exact assignInOrder_nil ⟨σ, H, I, h⟩
theorem pgs_cons {e : Expr} {es : List Expr} {t : TG} {u : TGs} (h1 : PG X e t) (h2 : PGs X es u)
    (hs : (assignEach (e :: es) X.env).map (·.2) = assign e X.env :: (assignEach es X.env).map (·.2) := by rfl) : PGs X (e :: es) (gCons t u) := by
  intro pins s σ H vs us Q I r h
  obtain ⟨v, vr, e1, h⟩ := h
  subst e1
  cases r with
  | cons r rr =>
    rw [hs]
    refine assignInOrder_cons (thn (h1 pins s σ H _ _ _ I r h) fun _ s1 ⟨σ1, H1, I1, q1⟩ => ?_)
    exact h2 pins s1 σ1 H1 _ _ Q I1 rr q1
/-- (a, b, ..) = a tuple of that length -/
def gTup (K : PySem.W.Frag) (n : Nat) (t : TGs) : TG := fun v σ H Q => ∃ a xs, v = .ref a ∧ SqT K H a xs ∧ xs.length = n ∧ t xs σ H Q
theorem pg_tup {es : List Expr} {k : Nat} {t : TGs} {n : Nat} (hc : X.calm = true) (h : PGs X es t)
    (hn : (assignEach es X.env).length = n := by rfl) (hst : (assignEach es X.env).findIdx? (·.1) = none := by rfl) : PG X (.Tuple es k pos) (gTup X.K n t) := by
  intro pins s σ H v u Q I r hw
  obtain ⟨a, xs, e1, hq, hl, hw⟩ := hw
  subst e1
  cases r
  obtain ⟨its, rv, ht, hz⟩ := I.tuple hq
  refine assign_Tuple_tuple (I.ok.hd hc) ht (by simp [hn, ← hl, rv.length]) hst fun h' hx => ?_
  have I1 : Inv X pins σ H { s with heap := h' } := I.kept (t' := s.toks) fun b o e => hx b o (Nat.ne_of_lt (Heap.lt_size e)) e
  exact h pins _ σ H xs _ Q I1 (by simpa using rv) hw
/-- o[i] = .. -/
def gSub (to ti : TE) (t : TSet) : TG := fun v σ H Q => to σ H fun o H1 => ti σ H1 fun i H2 => t o i v H2 fun H3 => Q σ H3
theorem pg_sub {o i : Expr} {to ti : TE} {t : TSet} (ho : PE X o to) (hi : PE X i ti) (hs : PSet X t)
    (ha : ∀ v, assign (.Subscript o i pos) X.env v = (do
      let ov ← holding [v] (eval o X.env)
      let iv ← holding [v, ov] (eval i X.env)
      standAt pos
      holding [v, ov, iv] (setItem ov iv v)
      release [v, ov, iv] []) := by intro _; rfl) : PG X (.Subscript o i pos) (gSub to ti t) := by
  intro pins s σ H v u Q I r h
  rw [ha]
  refine wpAny_bind (wpAny_holding (thn (ho pins s σ H _ I h) fun ov s1 ⟨x, H1, I1, r1, q1⟩ => ?_))
  refine wpAny_bind (wpAny_holding (thn (hi pins s1 σ H1 _ I1 q1) fun iv s2 ⟨y, H2, I2, r2, q2⟩ => ?_))
  refine wpAny_bind (wpAny_standAt (wpAny_bind (wpAny_holding (thn (hs pins s2 σ H2 x y v ov iv u _ I2 r1 r2 r q2) fun _ s3 ⟨H3, I3, q3⟩ => ?_))))
  exact wpAny_release ⟨σ, H3, I3, q3⟩
/-- target = value -/
def tAsg (te : TE) (g : TG) : TS := fun D σ H => te σ H fun x H1 => g x σ H1 D.nx
theorem ps_asg {tg e : Expr} {te : TE} {g : TG} (he : PE X e te) (hg : PG X tg g) (hs : swapsWithSole [tg] e pos.line X.env = pure false := by rfl) (hw : swappedStores [tg] e X.env = pure none := by rfl)
    (h1 : (assignEach [tg] X.env).map (·.2) = [assign tg X.env] := by rfl) : PS X (.Assign [tg] e pos) (tAsg te g) := by
  intro pins s σ H D I h
  refine wpAny_Assign_stores (thn (he pins s σ H _ I h) fun v s1 ⟨x, H1, I1, r1, q1⟩ => ?_) hs hw
  rw [h1]
  exact thn (hg pins s1 σ H1 x v _ I1 r1 q1) fun _ s2 q => q
/-- name = value -/
theorem ps_set {i : Nat} {x : Str} {e : Expr} {te : TE} {pos' : Pos} (hN : X.N.Nodup) (hi : X.N[i]? = some x) (hx : Loc X.env.scope x) (he : PE X e te) (hs : swapsWith e (some (.Name x pos')) pos.line X.env = pure false := by rfl) (hf : X.fn x = true ∨ X.env.scope.names.lookup x = some .local := by first | exact .inl rfl | exact .inr rfl | assumption) :
    PS X (.Assign [.Name x pos'] e pos) (tAsg te (gName i)) := by
  intro pins s σ H D I h
  refine wpAny_Assign_Name (thn (he pins s σ H _ I h) fun v s1 ⟨y, H1, I1, r1, q1⟩ => ?_) hs
  exact store_ok I1 hN hi hx r1 (fun s2 I2 => ⟨_, H1, I2, q1⟩) hf
/-- a, b = x, y with plain local names: stored from the right; the pair itself is not tracked (the opening rows as in PyProof/Rows/TupAssign.lean:23) -/
def tPar (i j : Nat) (ta : TA) : TS := fun D σ H => ta σ H fun vs H1 => ∃ v w, vs = [v, w] ∧ D.nx ((σ.set i (some v)).set j (some w)) H1
theorem ps_par {i j : Nat} {x y : Str} {a b : Expr} {ta : TA} {px py pt : Pos} {kt k2 pt2} (hc : X.calm = true) (hN : X.N.Nodup) (hi : X.N[i]? = some x) (hj : X.N[j]? = some y) (hij : i ≠ j)
    (hx : X.env.scope.names.lookup x = some .local) (hy : X.env.scope.names.lookup y = some .local) (ha : PA X [a, b] ta)
    (hw : swappedStores [.Tuple [.Name x px, .Name y py] kt pt] (.Tuple [a, b] k2 pt2) X.env = pure (some [x, y]))
    (hs : swapsWithSole [.Tuple [.Name x px, .Name y py] kt pt] (.Tuple [a, b] k2 pt2) pos.line X.env = pure false := by rfl) :
    PS X (.Assign [.Tuple [.Name x px, .Name y py] kt pt] (.Tuple [a, b] k2 pt2) pos) (tPar i j ta) := by
  intro pins s σ H D I h
  rw [exec_Assign_arm]
  refine wpAny_bind (wpAny_standAt ?_)
  rw [hs]
  refine wpAny_bind (wpAny_pure ?_)
  rw [if_neg (by decide)]
  refine wpAny_bind (Tuple_ (thn (ha _ pins s σ H _ I h) fun us s1 ⟨vs, H1, I1, r1, q1⟩ => ?_))
  obtain ⟨v, w, e1, q1⟩ := q1
  subst e1
  obtain ⟨u1, u2, rfl, rv, rw'⟩ : ∃ u1 u2, us = [u1, u2] ∧ RelV v u1 ∧ RelV w u2 := by
    cases r1 with
    | cons p q =>
      cases q with
      | cons p' q' =>
        cases q'
        exact ⟨_, _, rfl, p, p'⟩
  refine wpAny_newObj_type ?_ (by show 2 ≤ sizeLine; decide)
  have I2 : Inv X pins σ H1 { s1 with heap := s1.heap.push { cls := .type "tuple", data := .seq [u1, u2].toArray } } := I1.kept (t' := s1.toks) fun b o e => Heap.get?_push_of_some _ e
  rw [hw]
  refine wpAny_bind (wpAny_pure ?_)
  show wpAny (model X.prog X.w) X.A (do rule "assign.swapped-stores"; let items ← unpackItems (.ref s1.heap.objs.size) 2 none; assignInOrder [fun v => bindName X.env y v, fun v => bindName X.env x v] items.reverse; pure Flow.next) _ _ _
  refine wpAny_bind (wpAny_rule (wpAny_bind (unpackItems_tuple (items := #[u1, u2]) (I.ok.hd hc) (IsTup.new s1.heap _) fun h' hx' => ?_)))
  have I3 := I2.kept (h' := h') (t' := s1.toks) fun b o e => hx' b o (Nat.ne_of_lt (Heap.lt_size e)) e
  show wpAny _ _ (assignInOrder [fun v => bindName X.env y v, fun v => bindName X.env x v] [u2, u1] >>= fun _ => pure Flow.next) _ _ _
  refine wpAny_bind (assignInOrder_cons (wpAny_bindName (store_ok I3 hN hj (.inl hy) rw' (fun s2 I4 => ?_) (.inr hy))))
  refine assignInOrder_cons (wpAny_bindName (store_ok I4 hN hi (.inl hx) rv (fun s3 I5 => assignInOrder_nil (wpAny_pure ?_)) (.inr hx)))
  rw [List.set_comm _ _ (Ne.symm hij)] at I5
  exact ⟨_, H1, I5, q1⟩
/-- o[i] op= e -/
def tAugS (to ti te : TE) (tget : V → V → Hp → VK → Prop) (tip : TIp) (tset : TSet) : TS := fun D σ H => to σ H fun o H1 => ti σ H1 fun i H2 => tget o i H2 fun x H3 => te σ H3 fun y H4 => tip x y H4 fun z H5 => tset o i z H5 fun H6 => D.nx σ H6
/-- o[i], by values -/
def PGet (X : Cx) (t : V → V → Hp → VK → Prop) : Prop :=
  ∀ (pins : List (Addr × Obj)) (s : Shared) (σ : St) (H : Hp) (o i : V) (ov iv : Value) (Q : VK), Inv X pins σ H s → RelV o ov → RelV i iv → t o i H Q →
    wpAny (model X.prog X.w) X.A (getItem ov iv) (EP X pins σ Q) X.xe s
theorem ps_augS {o i e : Expr} {to ti te : TE} {tget : V → V → Hp → VK → Prop} {tip : TIp} {tset : TSet} {op : Operator} {tpos : Pos} (ho : PE X o to) (hi : PE X i ti) (hg : PGet X tget) (he : PE X e te) (hp : PIp X op tip) (hs : PSet X tset)
    (ha : ∀ ov iv new, augStore i ov iv new = (do holding [new, ov, iv] (setItem ov iv new); release [new, ov, iv] []; pure .next) := by intros; rfl) : PS X (.AugAssign (.Subscript o i tpos) op e pos) (tAugS to ti te tget tip tset) := by
  intro pins s σ H D I h
  refine wpAny_AugAssign_SubscriptAny (thn (ho pins s σ H _ I h) fun ov s1 ⟨x1, H1, I1, r1, q1⟩ => ?_) ha
  refine thn (hi pins s1 σ H1 _ I1 q1) fun iv s2 ⟨x2, H2, I2, r2, q2⟩ => ?_
  refine thn (hg pins s2 σ H2 x1 x2 ov iv _ I2 r1 r2 q2) fun old s3 ⟨x3, H3, I3, r3, q3⟩ => ?_
  refine thn (he pins s3 σ H3 _ I3 q3) fun v s4 ⟨x4, H4, I4, r4, q4⟩ => ?_
  refine thn (hp pins s4 σ H4 x3 x4 old v _ I4 r3 r4 q4) fun new s5 ⟨x5, H5, I5, r5, q5⟩ => ?_
  exact thn (hs pins s5 σ H5 x1 x2 x5 ov iv new _ I5 r1 r2 r5 q5) fun _ s6 ⟨H6, I6, q6⟩ => ⟨σ, H6, I6, q6⟩
/-- ints -/
def ipI (f : Int → Int → Int) : TIp := fun x y H Q => ∃ i j, x = .int i ∧ y = .int j ∧ Q (.int (f i j)) H
theorem ip_add : PIp X .Add (ipI fun i j => i + j) := by
  intro pins s σ H x y v u Q I r1 r2 h
  obtain ⟨i, j, e1, e2, q⟩ := h
  subst e1; subst e2
  obtain ⟨t, rfl⟩ := r1
  obtain ⟨t', rfl⟩ := r2
  exact iadd_int ⟨.int _, H, I.tok _, ⟨_, rfl⟩, q⟩
end

/-! ### while -/
section
variable {X : Cx} {pos : Pos}
/-- the invariant W with its measure -/
def tWhile (c : TT) (tb : TS) : TS := fun D σ H => ∃ W : Nat → St → Hp → Prop, (∃ m, W m σ H) ∧ ∀ m σ H, W m σ H →
  c σ H fun b H1 => if b = true then ∃ N : St → Hp → Prop, (∀ σ' H', N σ' H' → ∃ m', m' < m ∧ W m' σ' H') ∧ tb { D with nx := N, ct := N, bk := D.nx } σ H1 else D.nx σ H1
theorem ps_while {c : Expr} {body : List Stmt} {tc : TT} {tb : TS} (hp : PassesOwn (model X.prog X.w) X.A X.env X.xe) (hc : PT X c tc) (hb : PSs X body tb) : PS X (.While c body [] pos) (tWhile tc tb) := by
  intro pins s σ H D I h
  obtain ⟨W, ⟨m0, w0⟩, turn⟩ := h
  refine wpAny_While (codeAny_whileLoop (fun n s' => ∃ σ' H', Inv X pins σ' H' s' ∧ W n σ' H') ?_ m0 ⟨σ, H, I, w0⟩)
  rintro n s1 ⟨σ1, H1, I1, w1⟩
  refine wpAny_passesOwn hp (thn (hc pins s1 σ1 H1 _ I1 (turn n σ1 H1 w1)) fun b s2 ⟨H2, I2, q2⟩ => ?_)
  cases b with
  | true =>
    obtain ⟨N, hN, q2⟩ := q2
    rw [if_pos rfl]
    refine wpAny_passesOwn hp (thn (hb pins s2 σ1 H2 _ I2 q2) fun f s3 q3 => ?_)
    cases f with
    | next =>
      obtain ⟨σ3, H3, I3, n3⟩ := q3
      obtain ⟨m', hm, w3⟩ := hN σ3 H3 n3
      exact ⟨m', hm, σ3, H3, I3, w3⟩
    | cont =>
      obtain ⟨σ3, H3, I3, n3⟩ := q3
      obtain ⟨m', hm, w3⟩ := hN σ3 H3 n3
      exact ⟨m', hm, σ3, H3, I3, w3⟩
    | brk => exact q3
    | ret v => exact q3
  | false =>
    rw [if_neg Bool.false_ne_true]
    exact wpAny_execs_nil ⟨σ1, H2, I2, q2⟩
end

/-! ### what a loop or a comprehension walks -/
/-- at turn i: it yields x (the heap may grow), or it stops -/
structure It where
  go : Nat → Hp → Prop
  yld : Nat → Hp → V → Hp → Prop
  stop : Nat → Hp → Prop
/-- the iterator's own objects may turn: they are not the frame's, not pinned, younger than the entry (or a comprehension's own) -/
def FpOk (X : Cx) (pins : List (Addr × Obj)) (H : Hp) (b : Addr) : Prop :=
  H b = none ∧ b ≠ X.env.locals ∧ b ∉ X.fs ∧ (b ∈ X.ex ∨ X.s₀.heap.objs.size ≤ b) ∧ (∀ x c, X.env.cells.lookup x = some c → c ≠ b) ∧ ∀ p ∈ X.pn ++ pins, p.1 ≠ b
theorem Inv.fpOk {X : Cx} {pins : List (Addr × Obj)} {σ : St} {H H' : Hp} {s : Shared} {b : Addr} (I : Inv X pins σ H s) (hb : s.heap.objs.size ≤ b) (hn : H' b = none) : FpOk X pins H' b := by
  refine ⟨hn, Nat.ne_of_gt (Nat.lt_of_lt_of_le I.lt hb), I.nofs hb, .inr (Nat.le_trans I.sz hb), fun x c e z => ?_, fun p hp z => ?_⟩
  · obtain ⟨v, q⟩ := I.cell x c e
    exact absurd (Nat.lt_of_lt_of_le q.lt (by rw [z]; exact hb)) (Nat.lt_irrefl _)
  · exact absurd (Nat.lt_of_lt_of_le (Heap.lt_size (I.pin p hp).1) (by rw [z]; exact hb)) (Nat.lt_irrefl _)
structure Turn (P : Program) (w : World) (K : PySem.W.Frag) (tg : Expr) (J : It) (fp : List Addr) (it : Addr) (tn : Nat → Heap → Prop) : Prop where
  mem : it ∈ fp
  obj : ∀ i h, tn i h → ∀ b ∈ fp, ∃ o, h.get? b = some o ∧ ∀ v, o.data ≠ .cell v
  keep : ∀ i h h', tn i h → (∀ b ∈ fp, ∀ o, h.get? b = some o → h'.get? b = some o) → tn i h'
  item : ∀ (X : Cx), X.prog = P → X.w = w → X.K = K → X.calm = true → ∀ (i : Nat) (pins : List (Addr × Obj)) (s : Shared) (σ : St) (H : Hp) (E : Value → Shared → Prop), Inv X pins σ H s → (∀ b ∈ fp, FpOk X pins H b) → tn i s.heap → J.go i H →
    wpAny (model P w) X.A (pyNext (.ref it)) (fun r s1 => ∃ u, r = some u ∧
      wpAny (model P w) X.A (letOwnedTupleGo tg (.ref it) u) (fun _ s2 => ∃ x H', Inv X pins σ H' s2 ∧ RelV x u ∧ J.yld i H x H' ∧ tn (i + 1) s2.heap ∧ ∀ b ∈ fp, H' b = none) E s1) E s
  done : ∀ (X : Cx), X.prog = P → X.w = w → X.K = K → X.calm = true → ∀ (i : Nat) (pins : List (Addr × Obj)) (s : Shared) (σ : St) (H : Hp) (E : Value → Shared → Prop), Inv X pins σ H s → (∀ b ∈ fp, FpOk X pins H b) → tn i s.heap → J.stop i H →
    wpAny (model P w) X.A (pyNext (.ref it)) (fun r s1 => r = none ∧ Inv X pins σ H s1) E s
  self : ∀ (A : Around) (i : Nat) (s : Shared) (Q : Value → Shared → Prop) (E : Value → Shared → Prop), tn i s.heap → Q (.ref it) s → wpAny (model P w) A (pyIter (.ref it)) Q E s
abbrev TI := St → Hp → (It → Hp → Prop) → Prop
/-- an iterator has come -/
def PIE (X : Cx) (pins : List (Addr × Obj)) (σ : St) (tg : Expr) (R : It → Hp → Prop) (itv : Value) (s2 : Shared) : Prop :=
  ∃ (it : Addr) (fp : List Addr) (tn : Nat → Heap → Prop) (J : It) (H' : Hp), itv = .ref it ∧ Inv X pins σ H' s2 ∧ Turn X.prog X.w X.K tg J fp it tn ∧ tn 0 s2.heap ∧ (∀ b ∈ fp, FpOk X pins H' b) ∧ R J H'
def PI (X : Cx) (tg iter : Expr) (wi : TI) : Prop :=
  ∀ (pins : List (Addr × Obj)) (s : Shared) (σ : St) (H : Hp) (R : It → Hp → Prop), Inv X pins σ H s → wi σ H R →
    wpAny (model X.prog X.w) X.A (eval iter X.env) (fun v s1 => wpAny (model X.prog X.w) X.A (pyIter v) (PIE X pins σ tg R) X.xe s1) X.xe s

/-- the step ahead of the store is nothing for an iterator that keeps no tuple -/
theorem go_of {M : Model} {A : Around} {E : Value → Shared → Prop} {s : Shared} {tg : Expr} {it : Addr} {u : Value} {o : Obj} {n : String} {vs : Array Value} {Q : Unit → Shared → Prop} (ho : s.heap.get? it = some o) (hc : o.cls = .type n) (hd : o.data = .fields vs)
    (hn : ["enumerate", "zip", "dict_itemiterator", "dict_reverseitemiterator", "odict_iterator", "itertools.zip_longest", "itertools.pairwise"].contains n = false) (hQ : Q () s) : wpAny M A (letOwnedTupleGo tg (.ref it) u) Q E s := by
  unfold letOwnedTupleGo
  cases tg <;> first
    | exact wpAny_pure hQ
    | (cases u <;> first
        | exact wpAny_pure hQ
        | (refine wpAny_bind (wpAny_load ho ?_)
           rw [hc, hd]
           show wpAny M A (if (["enumerate", "zip", "dict_itemiterator", "dict_reverseitemiterator", "odict_iterator", "itertools.zip_longest", "itertools.pairwise"].contains n && vs[0]? == some (rawInt _)) = true then _ else _) Q E s
           rw [if_neg (by intro h; rw [hn, Bool.false_and] at h; cases h)]
           exact wpAny_pure hQ))

/-- the list at a, as it stands at each turn (a loop may append to it) -/
def Itl (K : PySem.W.Frag) (a : Addr) : It :=
  ⟨fun i H => ∃ xs x, SqL K H a xs ∧ xs[i]? = some x, fun i H x H' => H' = H ∧ ∀ xs, SqL K H a xs → xs[i]? = some x, fun i H => ∃ xs, SqL K H a xs ∧ xs.length ≤ i⟩
/-- lo, lo + 1, .. (n of them) -/
def Itr (lo : Int) (n : Nat) : It := ⟨fun i _ => i < n, fun i H x H' => H' = H ∧ x = .int (lo + i), fun i _ => n ≤ i⟩
theorem turn_list {P : Program} {w : World} {K : PySem.W.Frag} {tg : Expr} (a it : Addr) : Turn P w K tg (Itl K a) [it] it (fun i h => h.IsListIter it a i) where
  mem := by simp
  obj := fun i h st b hb => by
    have e : b = it := by simpa using hb
    subst e
    obtain ⟨o, e, c, d⟩ := st
    exact ⟨o, e, fun v z => by rw [d] at z; cases z⟩
  keep := fun i h h' st k => st.at fun o e => k it (by simp) o e
  item := by
    intro X hP hw hK hc i pins s σ H E I hf st hg
    subst hP hw hK
    obtain ⟨xs, x, hq, hx⟩ := hg
    obtain ⟨its, rv, p, hz⟩ := I.list hq
    obtain ⟨u, hu, ru⟩ := rv.get hx
    obtain ⟨f0, f1, f2, f3, f4, f5⟩ := hf it (by simp)
    refine wpAny_pyNext_list_item st p.isList (x := u) (by simpa using hu) fun h' st' sb => ?_
    have I1 : Inv X pins σ H { s with heap := h' } := I.turned (t' := s.toks) (fun b o hb e => (sb.2 b hb).trans e) f0 f1 f3 f4 f5
    obtain ⟨o, e, c, d⟩ := id st'
    exact ⟨u, rfl, go_of (s := { s with heap := h' }) e c d (by decide) ⟨x, H, I1, ru, ⟨rfl, fun ys hy => by rw [I.list_inj hy hq]; exact hx⟩, st', fun b hb => (hf b hb).1⟩⟩
  done := by
    intro X hP hw hK hc i pins s σ H E I hf st hg
    subst hP hw hK
    obtain ⟨xs, hq, hx⟩ := hg
    obtain ⟨its, rv, p, hz⟩ := I.list hq
    obtain ⟨f0, f1, f2, f3, f4, f5⟩ := hf it (by simp)
    have hl := rv.length
    exact wpAny_pyNext_list_end (I.ok.hd hc) st p.isList (by simp; omega) fun h' eb => ⟨rfl, I.turned (t' := s.toks) (fun b o hb e => eb b o hb e) f0 f1 f3 f4 f5⟩
  self := fun _ _ _ _ _ st h => wpAny_pyIter_listiter st h
theorem turn_range {P : Program} {w : World} {K : PySem.W.Frag} {tg : Expr} (it : Addr) (lo : Int) (n : Nat) : Turn P w K tg (Itr lo n) [it] it (fun i h => IsRangeIter h it (lo + (i : Nat) * 1) ((n : Int) - (i : Nat)) 1) where
  mem := by simp
  obj := fun i h st b hb => by
    have e : b = it := by simpa using hb
    subst e
    exact ⟨_, st, fun v z => by
      have z' : Data.fields _ = Data.cell v := z
      cases z'⟩
  keep := fun i h h' st k => k it (by simp) _ st
  item := by
    intro X hP hw hK hc i pins s σ H E I hf st hg
    subst hP hw hK
    obtain ⟨f0, f1, f2, f3, f4, f5⟩ := hf it (by simp)
    have W := Walks.range (prog := X.prog) (w := X.w) (I.ok.hd hc) it lo 1 n
    refine W.item i s _ _ hg st fun v h' tk hv st' kk => ?_
    obtain ⟨t, rfl⟩ := hv
    have I1 : Inv X pins σ H { s with heap := h', toks := tk } := I.turned (fun b o hb e => kk b o (by simpa using hb) e) f0 f1 f3 f4 f5
    refine ⟨_, rfl, go_of (s := { s with heap := h', toks := tk }) (n := "range_iterator") st' rfl rfl (by decide) ⟨.int (lo + i), H, I1, ⟨t, ?_⟩, ⟨rfl, rfl⟩, st', fun b hb => (hf b hb).1⟩⟩
    rw [Int.mul_one]
  done := by
    intro X hP hw hK hc i pins s σ H E I hf st hg
    subst hP hw hK
    obtain ⟨f0, f1, f2, f3, f4, f5⟩ := hf it (by simp)
    exact wpAny_pyNext_range_end (I.ok.hd hc) st (by have : n ≤ i := hg; omega) fun h' eb => ⟨rfl, I.turned (t' := s.toks) (fun b o hb e => eb b o hb e) f0 f1 f3 f4 f5⟩
  self := fun _ _ _ _ _ st h => wpAny_pyIter_rangeiter st h
end L2

namespace L2
open PySem PySem.Spec PyProof.Rows
section
variable {X : Cx} {tg : Expr}
def iList (K : PySem.W.Frag) (tl : TE) : TI := fun σ H R => tl σ H fun x H1 => ∃ a, x = .ref a ∧ (∃ xs, SqL K H1 a xs) ∧ R (Itl K a) H1
theorem pi_list {l : Expr} {tl : TE} (hl : PE X l tl) : PI X tg l (iList X.K tl) := by
  intro pins s σ H R I h
  refine thn (hl pins s σ H _ I h) fun v s1 ⟨x, H1, I1, r1, q1⟩ => ?_
  obtain ⟨a, e, ⟨xs, hq⟩, q⟩ := q1
  subst e
  cases r1
  obtain ⟨its, rv, p, hz⟩ := I1.list hq
  refine wpAny_pyIter_list p.isList ?_
  refine ⟨s1.heap.objs.size, [s1.heap.objs.size], _, _, H1, rfl, I1.kept (t' := s1.toks) fun b o e => Heap.get?_push_of_some _ e, turn_list a _, ⟨_, Heap.get?_push_size _ rfl, rfl, rfl⟩, fun b hb => ?_, q⟩
  have e : b = s1.heap.objs.size := by simpa using hb
  subst e
  exact I1.fpOk (Nat.le_refl _) (I1.hok.fresh (Nat.le_refl _))
/-- a range object just made, walked -/
theorem range_it {pins : List (Addr × Obj)} {σ : St} {H : Hp} {s : Shared} {R : It → Hp → Prop} {E : Value → Shared → Prop} {lo hi : Int} {t u v : Tok} {tk : Nat} (I : Inv X pins σ H s) (h1 : -(2 ^ 62) ≤ lo) (h2 : lo < 2 ^ 62) (h3 : -(2 ^ 62) ≤ hi) (h4 : hi < 2 ^ 62)
    (q : R (Itr lo (hi - lo).toNat) H) : wpAny (model X.prog X.w) X.A (pyIter (.ref s.heap.objs.size)) (PIE X pins σ tg R) E { s with heap := s.heap.push { cls := .type "range", data := .fields #[.int lo t, .int hi u, .int 1 v] }, toks := tk } := by
  refine wpAny_pyIter_range (IsRange.new ..) (small_one h1 h2 h3 h4) ?_
  have I1 : Inv X pins σ H { s with heap := s.heap.push { cls := .type "range", data := .fields #[.int lo t, .int hi u, .int 1 v] }, toks := tk } := I.kept fun b o e => Heap.get?_push_of_some _ e
  refine ⟨(s.heap.push { cls := .type "range", data := .fields #[.int lo t, .int hi u, .int 1 v] }).objs.size, [(s.heap.push { cls := .type "range", data := .fields #[.int lo t, .int hi u, .int 1 v] }).objs.size], _, _, H, rfl,
    I1.kept (t' := tk) fun b o e => Heap.get?_push_of_some _ e, turn_range _ lo (hi - lo).toNat, ?_, fun b hb => ?_, q⟩
  · have e1 : lo + ((0 : Nat) : Int) * 1 = lo := by simp
    have e2 : (((hi - lo).toNat : Nat) : Int) - ((0 : Nat) : Int) = Builtin.Range.rangeSize lo hi 1 := by rw [rangeSize_one]; split <;> omega
    show IsRangeIter _ _ (lo + ((0 : Nat) : Int) * 1) ((((hi - lo).toNat : Nat) : Int) - ((0 : Nat) : Int)) 1
    rw [e1, e2]
    exact Heap.get?_push_size _ rfl
  · have e : b = (s.heap.push { cls := .type "range", data := .fields #[.int lo t, .int hi u, .int 1 v] }).objs.size := by simpa using hb
    subst e
    exact I1.fpOk (Nat.le_refl _) (I1.hok.fresh (Nat.le_refl _))
def iRng1 (ta : TA) : TI := fun σ H R => ta σ H fun vs H1 => ∃ j : Int, vs = [.int j] ∧ -(2 ^ 62) ≤ j ∧ j < 2 ^ 62 ∧ R (Itr 0 j.toNat) H1
theorem pi_range1 {a : Expr} {ta : TA} {p pos : Pos} (hg : Gl X "range") (hm : X.mg "range" = none) (ha : PA X [a] ta) (hs : starEach [a] X.env = [(false, eval a X.env)] := by rfl) : PI X tg (.Call (.Name "range" p) [a] [] pos) (iRng1 ta) := by
  intro pins s σ H R I h
  refine Call_ (ld_blt I hg hm boot_range (PyProof.Rows.callWith_type1 (thn (ha pos pins s σ H _ I h) fun us s1 ⟨vs, H1, I1, r1, q1⟩ => ?_) hs rfl))
  obtain ⟨j, e, q1, q2, q⟩ := q1
  subst e
  cases r1 with
  | cons r rr =>
    cases rr
    obtain ⟨t, rfl⟩ := r
    exact call_range_1 (range_it I1 (by omega) (by omega) q1 q2 (by simpa using q))
/-! ### for -/
/-- W: the invariant by the turn and a measure; N: what the body is to reach -/
def tFor (wi : TI) (g : TG) (tb : TS) : TS := fun D σ H => wi σ H fun J H1 => ∃ W : Nat → Nat → St → Hp → Prop, (∃ m, W 0 m σ H1) ∧ ∀ i m σ H, W i m σ H →
  (J.stop i H ∧ D.nx σ H) ∨ (J.go i H ∧ ∃ N : St → Hp → Prop, (∀ σ' H', N σ' H' → ∃ m', m' < m ∧ W (i + 1) m' σ' H') ∧ ∀ x H', J.yld i H x H' → g x σ H' fun σ2 H2 => tb { D with nx := N, ct := N, bk := D.nx } σ2 H2)
/-- the records at fp as they stand -/
def pinsAt (fp : List Addr) (h : Heap) : List (Addr × Obj) := fp.filterMap fun b => (h.get? b).map fun o => (b, o)
theorem mem_pinsAt {fp : List Addr} {h : Heap} {b : Addr} {o : Obj} (hb : b ∈ fp) (e : h.get? b = some o) : (b, o) ∈ pinsAt fp h := List.mem_filterMap.mpr ⟨b, hb, by rw [e]; rfl⟩
theorem of_pinsAt {fp : List Addr} {h : Heap} {p : Addr × Obj} (hp : p ∈ pinsAt fp h) : p.1 ∈ fp ∧ h.get? p.1 = some p.2 := by
  obtain ⟨b, hb, e⟩ := List.mem_filterMap.mp hp
  cases q : h.get? b with
  | none => rw [q] at e; cases e
  | some o =>
    rw [q] at e
    have e' : (b, o) = p := Option.some.inj e
    subst e'
    exact ⟨hb, q⟩
theorem Inv.pinned {pins : List (Addr × Obj)} {σ : St} {H : Hp} {s : Shared} {fp : List Addr} (I : Inv X pins σ H s) (hf : ∀ b ∈ fp, FpOk X pins H b) (ho : ∀ b ∈ fp, ∃ o, s.heap.get? b = some o ∧ ∀ v, o.data ≠ .cell v) : Inv X (pins ++ pinsAt fp s.heap) σ H s :=
  I.pins_of fun p hp => (List.mem_append.mp hp).elim (fun z => I.pin p (List.mem_append_right _ z)) fun z => by
    obtain ⟨hb, e⟩ := of_pinsAt z
    obtain ⟨f0, f1, f2, _⟩ := hf p.1 hb
    obtain ⟨o, e', d⟩ := ho p.1 hb
    rw [e] at e'; cases e'
    exact ⟨e, f0, f1, f2, d⟩
theorem Inv.unpinned {pins pl : List (Addr × Obj)} {σ : St} {H : Hp} {s : Shared} (I : Inv X (pins ++ pl) σ H s) : Inv X pins σ H s := I.pins_of fun p hp => I.pin p (List.mem_append_right _ (List.mem_append_left _ hp))
theorem ps_for {iter : Expr} {body : List Stmt} {wi : TI} {g : TG} {tb : TS} {pos : Pos} (hp : PassesOwn (model X.prog X.w) X.A X.env X.xe) (hc : X.calm = true) (hi : PI X tg iter wi) (hg : PG X tg g) (hb : PSs X body tb)
    (hs : ∀ x, foldedSetIterable iter X.env x = pure x := by intro _; rfl) : PS X (.For tg iter body [] pos) (tFor wi g tb) := by
  intro pins s σ H D I h
  refine wpAny_For (thn (hi pins s σ H _ I h) fun v s1 h1 => thn h1 fun itv s2 h2 => ?_) hs
  obtain ⟨it, fp, tn, J, H2, e, I2, T, st2, f2, W, ⟨m0, w0⟩, turn⟩ := h2
  subst e
  -- what stays true of the iterator's objects through the loop
  have stat : ∀ {H' : Hp}, (∀ b ∈ fp, H' b = none) → ∀ b ∈ fp, FpOk X pins H' b := fun hn b hb => ⟨hn b hb, (f2 b hb).2⟩
  refine codeAny_forLoop_any (fun n s' => ∃ i σ' H', Inv X pins σ' H' s' ∧ tn i s'.heap ∧ (∀ b ∈ fp, H' b = none) ∧ W i n σ' H') ?_ m0 ⟨0, σ, H2, I2, st2, fun b hb => (f2 b hb).1, w0⟩
  rintro n s3 ⟨i, σ3, H3, I3, st3, fr3, w3⟩
  rcases turn i n σ3 H3 w3 with ⟨stop, qn⟩ | ⟨go, N, hN, step⟩
  · refine wpAny_passesOwn hp (thn (T.done X rfl rfl rfl hc i pins s3 σ3 H3 X.xe I3 (stat fr3) st3 stop) fun r s4 ⟨hr, I4⟩ => ?_)
    subst hr
    exact wpAny_execs_nil ⟨σ3, H3, I4, qn⟩
  · refine wpAny_passesOwn hp (thn (T.item X rfl rfl rfl hc i pins s3 σ3 H3 X.xe I3 (stat fr3) st3 go) fun r s4 ⟨u, hr, h4⟩ => ?_)
    subst hr
    refine wpAny_passesOwn hp (thn h4 fun _ s5 ⟨x, H5, I5, r5, y5, st5, fr5⟩ => ?_)
    have I5' := I5.pinned (stat fr5) (T.obj _ _ st5)
    refine wpAny_passesOwn hp (thn (hg _ s5 σ3 H5 x u _ I5' r5 (step x H5 y5)) fun _ s6 ⟨σ6, H6, I6, q6⟩ => ?_)
    refine wpAny_passesOwn hp (thn (hb _ s6 σ6 H6 _ I6 q6) fun f s7 q7 => ?_)
    have again : ∀ {σ7 : St} {H7 : Hp}, Inv X (pins ++ pinsAt fp s5.heap) σ7 H7 s7 → N σ7 H7 → ∃ m, m < n ∧ ∃ i σ' H', Inv X pins σ' H' s7 ∧ tn i s7.heap ∧ (∀ b ∈ fp, H' b = none) ∧ W i m σ' H' := fun {σ7 H7} I7 n7 => by
      obtain ⟨m', hm, w7⟩ := hN σ7 H7 n7
      refine ⟨m', hm, i + 1, σ7, H7, I7.unpinned, T.keep _ _ _ st5 fun b hb o e => (I7.pin (b, o) (List.mem_append_right _ (List.mem_append_right _ (mem_pinsAt hb e)))).1, fun b hb => ?_, w7⟩
      obtain ⟨o, e, d⟩ := T.obj _ _ st5 b hb
      exact (I7.pin (b, o) (List.mem_append_right _ (List.mem_append_right _ (mem_pinsAt hb e)))).2.1
    cases f with
    | next => obtain ⟨σ7, H7, I7, n7⟩ := q7; exact again I7 n7
    | cont => obtain ⟨σ7, H7, I7, n7⟩ := q7; exact again I7 n7
    | brk => obtain ⟨σ7, H7, I7, q7⟩ := q7; exact ⟨σ7, H7, I7.unpinned, q7⟩
    | ret v => obtain ⟨x7, σ7, H7, I7, r7, q7⟩ := q7; exact ⟨x7, σ7, H7, I7.unpinned, r7, q7⟩
end

/-! ### the forms one uses -/
/-- over a list that the body leaves as it is -/
theorem for_list {K : PySem.W.Frag} {a : Addr} {xs : List V} {g : TG} {tb : TS} {D : Ends} {σ : St} {H : Hp} (Pv : Nat → St → Hp → Prop) (h0 : Pv 0 σ H) (hl : ∀ i σ H, i ≤ xs.length → Pv i σ H → SqL K H a xs)
    (hs : ∀ i x σ H, xs[i]? = some x → Pv i σ H → g x σ H fun σ2 H2 => tb { D with nx := Pv (i + 1), ct := Pv (i + 1), bk := D.nx } σ2 H2) (hd : ∀ σ H, Pv xs.length σ H → D.nx σ H) :
    ∃ W : Nat → Nat → St → Hp → Prop, (∃ m, W 0 m σ H) ∧ ∀ i m σ H, W i m σ H →
      ((Itl K a).stop i H ∧ D.nx σ H) ∨ ((Itl K a).go i H ∧ ∃ N : St → Hp → Prop, (∀ σ' H', N σ' H' → ∃ m', m' < m ∧ W (i + 1) m' σ' H') ∧ ∀ x H', (Itl K a).yld i H x H' → g x σ H' fun σ2 H2 => tb { D with nx := N, ct := N, bk := D.nx } σ2 H2) := by
  refine ⟨fun i m σ H => m = xs.length - i ∧ i ≤ xs.length ∧ Pv i σ H, ⟨xs.length, by simp, Nat.zero_le _, h0⟩, ?_⟩
  rintro i m σ H ⟨rfl, hi, p⟩
  have q := hl i σ H hi p
  by_cases hlt : i < xs.length
  · refine .inr ⟨⟨xs, xs[i], q, by simp [hlt]⟩, Pv (i + 1), fun σ' H' p' => ⟨xs.length - (i + 1), by omega, rfl, hlt, p'⟩, fun x H' y => ?_⟩
    obtain ⟨e, y⟩ := y
    subst e
    exact hs i x σ _ (y xs q) p
  · have e : i = xs.length := by omega
    subst e
    exact .inl ⟨⟨xs, q, Nat.le_refl _⟩, hd σ H p⟩
theorem for_range {lo : Int} {n : Nat} {g : TG} {tb : TS} {D : Ends} {σ : St} {H : Hp} (Pv : Nat → St → Hp → Prop) (h0 : Pv 0 σ H)
    (hs : ∀ i σ H, i < n → Pv i σ H → g (.int (lo + i)) σ H fun σ2 H2 => tb { D with nx := Pv (i + 1), ct := Pv (i + 1), bk := D.nx } σ2 H2) (hd : ∀ σ H, Pv n σ H → D.nx σ H) :
    ∃ W : Nat → Nat → St → Hp → Prop, (∃ m, W 0 m σ H) ∧ ∀ i m σ H, W i m σ H →
      ((Itr lo n).stop i H ∧ D.nx σ H) ∨ ((Itr lo n).go i H ∧ ∃ N : St → Hp → Prop, (∀ σ' H', N σ' H' → ∃ m', m' < m ∧ W (i + 1) m' σ' H') ∧ ∀ x H', (Itr lo n).yld i H x H' → g x σ H' fun σ2 H2 => tb { D with nx := N, ct := N, bk := D.nx } σ2 H2) := by
  refine ⟨fun i m σ H => m = n - i ∧ i ≤ n ∧ Pv i σ H, ⟨n, by simp, Nat.zero_le _, h0⟩, ?_⟩
  rintro i m σ H ⟨rfl, hi, p⟩
  by_cases hlt : i < n
  · refine .inr ⟨hlt, Pv (i + 1), fun σ' H' p' => ⟨n - (i + 1), by omega, rfl, hlt, p'⟩, fun x H' y => ?_⟩
    obtain ⟨e, y⟩ := y
    subst e y
    exact hs i σ _ hlt p
  · have e : i = n := by omega
    subst e
    exact .inl ⟨Nat.le_refl _, hd σ H p⟩
/-- while, by a word and a measure of the state -/
theorem while_by {c : TT} {tb : TS} {D : Ends} {σ : St} {H : Hp} (Pv : St → Hp → Prop) (μ : St → Hp → Nat) (h0 : Pv σ H)
    (hs : ∀ σ H, Pv σ H → c σ H fun b H1 => if b = true then tb { D with nx := fun σ' H' => Pv σ' H' ∧ μ σ' H' < μ σ H, ct := fun σ' H' => Pv σ' H' ∧ μ σ' H' < μ σ H, bk := D.nx } σ H1 else D.nx σ H1)
    (mono : ∀ σ H Q Q', (∀ b H1, Q b H1 → Q' b H1) → c σ H Q → c σ H Q') : tWhile c tb D σ H := by
  refine ⟨fun m σ H => m = μ σ H ∧ Pv σ H, ⟨_, rfl, h0⟩, ?_⟩
  rintro m σ H ⟨rfl, p⟩
  refine mono σ H _ _ (fun b H1 q => ?_) (hs σ H p)
  cases b with
  | true => exact ⟨_, fun σ' H' ⟨p', l⟩ => ⟨_, l, rfl, p'⟩, q⟩
  | false => exact q
end L2

namespace L2
open PySem PySem.Spec PyProof.Rows

abbrev R2 := V → V → Hp → VK → Prop
/-- a two-place operation on values: f is binaryOp op, inplaceOp op or compareOp op -/
def OpR (X : Cx) (f : Value → Value → Sem Value) (r : R2) : Prop :=
  ∀ (pins : List (Addr × Obj)) (s : Shared) (σ : St) (H : Hp) (x y : V) (v u : Value) (Q : VK), Inv X pins σ H s → RelV x v → RelV y u → r x y H Q →
    wpAny (model X.prog X.w) X.A (f v u) (EP X pins σ Q) X.xe s
/-- a call of a value that is known (a builtin, a type) with values -/
def CallR (X : Cx) (f : Value) (r : List V → Hp → VK → Prop) : Prop :=
  ∀ (pins : List (Addr × Obj)) (s : Shared) (σ : St) (H : Hp) (xs : List V) (us : List Value) (Q : VK), Inv X pins σ H s → Vals xs us → r xs H Q →
    wpAny (model X.prog X.w) X.A (call f us) (EP X pins σ Q) X.xe s
def tOp (r : R2) (ta tb : TE) : TE := fun σ H Q => ta σ H fun x H1 => tb σ H1 fun y H2 => r x y H2 Q
/-- ints in, under C, and a value out -/
def rI (C : Int → Int → Prop) (g : Int → Int → V) : R2 := fun x y H Q => ∃ i j, x = .int i ∧ y = .int j ∧ C i j ∧ Q (g i j) H
def rI0 (g : Int → Int → V) : R2 := fun x y H Q => ∃ i j, x = .int i ∧ y = .int j ∧ Q (g i j) H
section
variable {X : Cx} {a b c : Expr} {ta tb tc : TE} {pos : Pos}

theorem binT (ha : PE X a ta) (hb : PE X b tb) {pins : List (Addr × Obj)} {s : Shared} {σ : St} {H : Hp} {R : V → V → Hp → Prop} (I : Inv X pins σ H s)
    (h : ta σ H fun x H1 => tb σ H1 fun y H2 => R x y H2) {Q : Value → Shared → Prop} {f : Value → Value → Sem Value}
    (hf : ∀ v u s2 x y H2, Inv X pins σ H2 s2 → RelV x v → RelV y u → R x y H2 → wpAny (model X.prog X.w) X.A (f v u) Q X.xe s2) :
    wpAny (model X.prog X.w) X.A (eval a X.env) (fun v s₁ => wpAny (model X.prog X.w) X.A (eval b X.env) (fun u s₂ => wpAny (model X.prog X.w) X.A (f v u) Q X.xe s₂) X.xe s₁) X.xe s := by
  refine thn (ha pins s σ H _ I h) fun v s1 ⟨x, H1, I1, r1, q1⟩ => ?_
  refine thn (hb pins s1 σ H1 _ I1 q1) fun u s2 ⟨y, H2, I2, r2, q2⟩ => ?_
  exact hf v u s2 x y H2 I2 r1 r2 q2

theorem pe_op {op : Operator} {r : R2} (ho : OpR X (binaryOp op) r) (ha : PE X a ta) (hb : PE X b tb) : PE X (.BinOp a op b pos) (tOp r ta tb) := by
  intro pins s σ H Q I h
  exact wpAny_BinOp (binT ha hb I h fun v u s2 x y H2 I2 rx ry q => ho pins s2 σ H2 x y v u Q I2 rx ry q)
/-! ### ints -/
theorem opI {f : Value → Value → Sem Value} {C : Int → Int → Prop} {g : Int → Int → Int}
    (rule : ∀ (i j : Int) (t u : Tok) (s : Shared) (Q : Value → Shared → Prop) (E : Value → Shared → Prop), C i j → Q (.int (g i j) s.toks) { s with toks := s.toks + 1 } → wpAny (model X.prog X.w) X.A (f (.int i t) (.int j u)) Q E s) :
    OpR X f (rI C fun i j => .int (g i j)) := by
  intro pins s σ H x y v u Q I rx ry h
  obtain ⟨i, j, rfl, rfl, hc, q⟩ := h
  obtain ⟨t, rfl⟩ := rx
  obtain ⟨t', rfl⟩ := ry
  exact rule i j t t' s _ _ hc ⟨.int (g i j), H, I.tok _, ⟨_, rfl⟩, q⟩
theorem opI0 {f : Value → Value → Sem Value} {g : Int → Int → Int}
    (rule : ∀ (i j : Int) (t u : Tok) (s : Shared) (Q : Value → Shared → Prop) (E : Value → Shared → Prop), Q (.int (g i j) s.toks) { s with toks := s.toks + 1 } → wpAny (model X.prog X.w) X.A (f (.int i t) (.int j u)) Q E s) :
    OpR X f (rI0 fun i j => .int (g i j)) := by
  intro pins s σ H x y v u Q I rx ry h
  obtain ⟨i, j, rfl, rfl, q⟩ := h
  obtain ⟨t, rfl⟩ := rx
  obtain ⟨t', rfl⟩ := ry
  exact rule i j t t' s _ _ ⟨.int (g i j), H, I.tok _, ⟨_, rfl⟩, q⟩
theorem opB0 {f : Value → Value → Sem Value} {g : Int → Int → Bool}
    (rule : ∀ (i j : Int) (t u : Tok) (s : Shared) (Q : Value → Shared → Prop) (E : Value → Shared → Prop), Q (.bool (g i j)) s → wpAny (model X.prog X.w) X.A (f (.int i t) (.int j u)) Q E s) :
    OpR X f (rI0 fun i j => .bl (g i j)) := by
  intro pins s σ H x y v u Q I rx ry h
  obtain ⟨i, j, rfl, rfl, q⟩ := h
  obtain ⟨t, rfl⟩ := rx
  obtain ⟨t', rfl⟩ := ry
  exact rule i j t t' s _ _ ⟨.bl (g i j), H, I, rfl, q⟩

def CDiv (i j : Int) : Prop := 0 < j ∧ j < 1073741824
def CPow (i j : Int) : Prop := 0 ≤ j ∧ j ≤ 1000000 ∧ i.natAbs < 2 ^ 64
def CMul (i j : Int) : Prop := (-(2 ^ 64) < i ∧ i < 2 ^ 64) ∨ (-(2 ^ 64) < j ∧ j < 2 ^ 64)
theorem CMul.ok {i j : Int} (h : CMul i j) : IntMulOk i j := by
  rcases h with ⟨h1, h2⟩ | ⟨h1, h2⟩
  · exact .of_left (intBits_le_64 h1 h2)
  · exact .of_right (intBits_le_64 h1 h2)
theorem op_add : OpR X (binaryOp .Add) (rI0 fun i j => .int (i + j)) := opI0 fun _ _ _ _ _ _ _ q => add_int q
theorem op_sub : OpR X (binaryOp .Sub) (rI0 fun i j => .int (i - j)) := opI0 fun _ _ _ _ _ _ _ q => sub_int q
theorem op_mul : OpR X (binaryOp .Mult) (rI CMul fun i j => .int (i * j)) := opI fun _ _ _ _ _ _ _ hc q => mul_int q hc.ok
/-- // by a positive divisor -/
theorem op_fdiv : OpR X (binaryOp .FloorDiv) (rI CDiv fun i j => .int (i / j)) := opI fun i j _ _ _ _ _ hc q => by
  have h1 : (0 : Int) < j := hc.1
  have h2 : j < 1073741824 := hc.2
  exact floordiv_int (by omega) (by rw [Int.fdiv_eq_ediv_of_nonneg i (by omega)]; exact q) (.inl (PyProof.noPylong_small (by omega)))
/-- % by a positive divisor of any size -/
theorem op_mod : OpR X (binaryOp .Mod) (rI (fun _ j => 0 < j) fun i j => .int (i % j)) := opI fun i j _ _ _ _ _ hc q => by
  have h1 : (0 : Int) < j := hc
  exact mod_int' (by omega) (by rw [Int.fmod_eq_emod_of_nonneg i (by omega)]; exact q)
theorem op_pow : OpR X (binaryOp .Pow) (rI CPow fun i j => .int (i ^ j.toNat)) := opI fun _ _ _ _ _ _ _ hc q => pow_int_small hc.1 hc.2.1 hc.2.2 q
/-! ### bools among ints: n += (a < b) -/
end

/-! ### comparisons -/
/-- the scalars that == tells apart as data does -/
def scal : V → V → Bool
  | .non, .non => true | .non, .int _ => true | .int _, .non => true | .non, .bl _ => true | .bl _, .non => true | .non, .str _ => true | .str _, .non => true
  | .int _, .int _ => true | .bl _, .bl _ => true | .str _, .str _ => true | .byt _, .byt _ => true
  | .int _, .str _ => true | .str _, .int _ => true | .bl _, .str _ => true | .str _, .bl _ => true
  | _, _ => false
def rEq : R2 := fun x y H Q => scal x y = true ∧ Q (.bl (decide (x = y))) H
def rNe : R2 := fun x y H Q => scal x y = true ∧ Q (.bl (!decide (x = y))) H

theorem dec_int {i j : Int} : decide (V.int i = V.int j) = (i == j) := by
  rw [Bool.eq_iff_iff]
  simp
theorem dec_bl {i j : Bool} : decide (V.bl i = V.bl j) = (i == j) := by
  rw [Bool.eq_iff_iff]
  simp
theorem dec_str {i j : Str} : decide (V.str i = V.str j) = (i == j) := by
  rw [Bool.eq_iff_iff]
  simp
theorem dec_byt {i j : Array UInt8} : decide (V.byt i = V.byt j) = (i.toList == j.toList) := by
  rw [Bool.eq_iff_iff]
  cases i
  cases j
  simp

section
variable {X : Cx} {a b c : Expr} {ta tb tc : TE} {pos : Pos}
theorem fin_bl {pins : List (Addr × Obj)} {σ : St} {H : Hp} {s : Shared} {Q : VK} {k k' : Bool} (I : Inv X pins σ H s) (q : Q (.bl k) H) (e : k = k') : EP X pins σ Q (.bool k') s := by
  subst e
  exact ⟨.bl k, H, I, rfl, q⟩
theorem op_eq : OpR X (compareOp .Eq) rEq := by
  intro pins s σ H x y v u Q I rx ry h
  obtain ⟨hs, q⟩ := h
  cases x with
  | non =>
    cases rx
    cases y with
    | non => cases ry; exact PySem.EqNone.eq_none_none (fin_bl I q (by simp))
    | bl j => cases ry; exact PySem.EqNone.eq_none_bool (fin_bl I q (by simp))
    | int j => obtain ⟨t', rfl⟩ := ry; exact PySem.EqNone.eq_none_int (fin_bl I q (by simp))
    | str j => obtain ⟨t', rfl⟩ := ry; exact PySem.EqNone.eq_none_str (fin_bl I q (by simp))
    | _ => exact absurd (show false = true from hs) Bool.false_ne_true
  | bl i =>
    cases rx
    cases y with
    | non => cases ry; exact PySem.EqNone.eq_bool_none (fin_bl I q (by simp))
    | bl j => cases ry; exact eq_bool (fin_bl I q dec_bl)
    | str j => obtain ⟨t', rfl⟩ := ry; exact PySem.EqMixed.eq_bool_str (fin_bl I q (by simp))
    | _ => exact absurd (show false = true from hs) Bool.false_ne_true
  | int i =>
    obtain ⟨t, rfl⟩ := rx
    cases y with
    | non => cases ry; exact PySem.EqNone.eq_int_none (fin_bl I q (by simp))
    | int j => obtain ⟨t', rfl⟩ := ry; exact eq_int (fin_bl I q dec_int)
    | str j => obtain ⟨t', rfl⟩ := ry; exact PySem.EqMixed.eq_int_str (fin_bl I q (by simp))
    | _ => exact absurd (show false = true from hs) Bool.false_ne_true
  | str i =>
    obtain ⟨t, rfl⟩ := rx
    cases y with
    | non => cases ry; exact PySem.EqNone.eq_str_none (fin_bl I q (by simp))
    | bl j => cases ry; exact PySem.EqMixed.eq_str_bool (fin_bl I q (by simp))
    | int j => obtain ⟨t', rfl⟩ := ry; exact PySem.EqMixed.eq_str_int (fin_bl I q (by simp))
    | str j => obtain ⟨t', rfl⟩ := ry; exact eq_str (fin_bl I q dec_str)
    | _ => exact absurd (show false = true from hs) Bool.false_ne_true
  | byt i =>
    obtain ⟨t, rfl⟩ := rx
    cases y with
    | byt j => obtain ⟨t', rfl⟩ := ry; exact PySem.W.eq_bytes (fin_bl I q dec_byt)
    | _ => exact absurd (show false = true from hs) Bool.false_ne_true
  | _ => cases y <;> exact absurd (show false = true from hs) Bool.false_ne_true
theorem op_ne : OpR X (compareOp .NotEq) rNe := by
  intro pins s σ H x y v u Q I rx ry h
  obtain ⟨hs, q⟩ := h
  cases x with
  | non =>
    cases rx
    cases y with
    | non => cases ry; exact PySem.EqNone.ne_none_none (fin_bl I q (by simp))
    | bl j => cases ry; exact PySem.EqNone.ne_none_bool (fin_bl I q (by simp))
    | int j => obtain ⟨t', rfl⟩ := ry; exact PySem.EqNone.ne_none_int (fin_bl I q (by simp))
    | str j => obtain ⟨t', rfl⟩ := ry; exact PySem.EqNone.ne_none_str (fin_bl I q (by simp))
    | _ => exact absurd (show false = true from hs) Bool.false_ne_true
  | bl i =>
    cases rx
    cases y with
    | non => cases ry; exact PySem.EqNone.ne_bool_none (fin_bl I q (by simp))
    | bl j => cases ry; exact ne_bool (fin_bl I q (congrArg not dec_bl))
    | str j => obtain ⟨t', rfl⟩ := ry; exact PySem.EqMixed.ne_bool_str (fin_bl I q (by simp))
    | _ => exact absurd (show false = true from hs) Bool.false_ne_true
  | int i =>
    obtain ⟨t, rfl⟩ := rx
    cases y with
    | non => cases ry; exact PySem.EqNone.ne_int_none (fin_bl I q (by simp))
    | int j => obtain ⟨t', rfl⟩ := ry; exact ne_int (fin_bl I q (congrArg not dec_int))
    | str j => obtain ⟨t', rfl⟩ := ry; exact PySem.EqMixed.ne_int_str (fin_bl I q (by simp))
    | _ => exact absurd (show false = true from hs) Bool.false_ne_true
  | str i =>
    obtain ⟨t, rfl⟩ := rx
    cases y with
    | non => cases ry; exact PySem.EqNone.ne_str_none (fin_bl I q (by simp))
    | bl j => cases ry; exact PySem.EqMixed.ne_str_bool (fin_bl I q (by simp))
    | int j => obtain ⟨t', rfl⟩ := ry; exact PySem.EqMixed.ne_str_int (fin_bl I q (by simp))
    | str j => obtain ⟨t', rfl⟩ := ry; exact ne_str (fin_bl I q (congrArg not dec_str))
    | _ => exact absurd (show false = true from hs) Bool.false_ne_true
  | byt i =>
    obtain ⟨t, rfl⟩ := rx
    cases y with
    | byt j => obtain ⟨t', rfl⟩ := ry; exact PySem.W.ne_bytes (fin_bl I q (congrArg not dec_byt))
    | _ => exact absurd (show false = true from hs) Bool.false_ne_true
  | _ => cases y <;> exact absurd (show false = true from hs) Bool.false_ne_true

theorem op_lt : OpR X (compareOp .Lt) (rI0 fun i j => .bl (decide (i < j))) := opB0 fun _ _ _ _ _ _ _ q => lt_int q
theorem op_gt : OpR X (compareOp .Gt) (rI0 fun i j => .bl (decide (j < i))) := opB0 fun _ _ _ _ _ _ _ q => gt_int q
theorem op_ge : OpR X (compareOp .GtE) (rI0 fun i j => .bl (decide (j ≤ i))) := opB0 fun _ _ _ _ _ _ _ q => ge_int q
theorem nomark (b : Expr) {op : CmpOp} (h : op ≠ .In := by decide) (h2 : op ≠ .NotIn := by decide) : behindInMarks op b = false := by
  have e1 : (op == CmpOp.In) = false := by cases op <;> first | rfl | exact absurd rfl h
  have e2 : (op == CmpOp.NotIn) = false := by cases op <;> first | rfl | exact absurd rfl h2
  cases b <;> simp [behindInMarks, e1, e2]
/-- a comparison as a value; hm: nomark b, or (for in, not in) by with_unfolding_all rfl -/
theorem pe_cmpR {op : CmpOp} {r : R2} (ho : OpR X (compareOp op) r) (ha : PE X a ta) (hb : PE X b tb) (hm : behindInMarks op b = false) : PE X (.Compare a [op] [b] pos) (tOp r ta tb) := by
  intro pins s σ H Q I h
  exact wpAny_Compare1 (binT ha hb I h fun v u s2 x y H2 I2 rx ry q => ho pins s2 σ H2 x y v u Q I2 rx ry q) hm
/-- a reading of a value as a test -/
def tTest (t : TE) : TT := fun σ H Q => t σ H fun x H' => ∃ k, x = .bl k ∧ Q k H'
theorem pt_cmpR {op : CmpOp} {r : R2} (ho : OpR X (compareOp op) r) (ha : PE X a ta) (hb : PE X b tb) (hm : behindInMarks op b = false) : PT X (.Compare a [op] [b] pos) (tTest (tOp r ta tb)) := by
  intro pins s σ H Q I h
  refine wpAny_isTrue_Compare1 (thn (ha pins s σ H _ I h) fun v s1 ⟨x, H1, I1, r1, q1⟩ => thn (hb pins s1 σ H1 _ I1 q1) fun u s2 ⟨y, H2, I2, r2, q2⟩ =>
    thn (ho pins s2 σ H2 x y v u _ I2 r1 r2 q2) fun c s3 ⟨z, H3, I3, r3, k, e, q3⟩ => ?_) hm
  subst e
  cases r3
  exact wpAny_truthy_bool ⟨H3, I3, q3⟩
/-! ### truth -/
theorem line63 : (sizeLine : Nat) < 2 ^ 63 := by rw [sizeLine_eq]; decide
/-! ### strs and bytes -/
/-! ### scalar builtins, by CallR -/
theorem vals1 {x : V} {us : List Value} (r : Vals [x] us) : ∃ u, us = [u] ∧ RelV x u := by
  cases r with
  | cons r1 r2 => cases r2; exact ⟨_, rfl, r1⟩
theorem call_abs : CallR X (.builtin "abs") (fun xs H Q => ∃ i, xs = [.int i] ∧ Q (.int (if i < 0 then -i else i)) H) := by
  intro pins s σ H xs us Q I r h
  obtain ⟨i, rfl, q⟩ := h
  obtain ⟨u, rfl, t, rfl⟩ := vals1 r
  exact call_abs_int fun u tk => ⟨.int (if i < 0 then -i else i), H, I.tok _, ⟨_, rfl⟩, q⟩
theorem call_int1 : CallR X (.type "int") (fun xs H Q => (∃ i, xs = [.int i] ∧ Q (.int i) H) ∨ ∃ k, xs = [.bl k] ∧ Q (.int (if k then 1 else 0)) H) := by
  intro pins s σ H xs us Q I r h
  rcases h with ⟨i, rfl, q⟩ | ⟨k, rfl, q⟩
  · obtain ⟨u, rfl, t, rfl⟩ := vals1 r
    exact call_int_int ⟨.int i, H, I, ⟨_, rfl⟩, q⟩
  · obtain ⟨u, rfl, r1⟩ := vals1 r
    cases r1
    exact call_int_bool ⟨.int (if k then 1 else 0), H, I.tok _, ⟨_, rfl⟩, q⟩
end
end L2

namespace L2
open PySem PySem.Spec PyProof.Rows

/-! ### an instance, its attributes a map -/
section
variable {prog : Program} {w : World} {A : Around} {E : Value → Shared → Prop} {s : Shared} {K : PySem.W.Frag} {x dx C f : Addr} {mA : Str → Option Value} {name : Str} {v : Value}

end

/-! ### the attributes as a list of pairs -/
theorem RelO.some_of {v : V} {o : Option Value} (r : RelO (some v) o) : ∃ u, o = some u ∧ RelV v u := by
  cases o with
  | none => exact (show False from r).elim
  | some u => exact ⟨u, rfl, r⟩
section
variable {P : Program} {w : World} {H H' : Hp} {h h' : Heap} {a C dx : Addr} {fs fs' : List (Str × V)}
end

/-! ### what of the text a class must have -/
section
variable {X : Cx} {pins : List (Addr × Obj)} {σ : St} {H : Hp} {s : Shared} {a C dx : Addr} {fs : List (Str × V)} {f : Str} {v : V} {A : Around} {E : Value → Shared → Prop}

end

/-! ### readings and rules -/
section
variable {X : Cx} {o e value : Expr} {f : Str} {pos pos' tpos : Pos} {ta tv : TE}
end

/-! ### isinstance -/
section
variable {X : Cx} {pins : List (Addr × Obj)} {σ : St} {H : Hp} {s : Shared} {A : Around} {E : Value → Shared → Prop} {Q : Value → Shared → Prop} {c : Value} {b : Bool}
end
end L2

namespace L2
open PySem PySem.Spec PyProof.Rows

/-! ### room -/
structure Room (k : Nat) (A : Around) : Prop where
  hd : A.handled = none
  dp : A.depth + 3 * k + 5 < recursionLimit
  un : A.units + 16 * k + 200 < cLine
  gd : A.guards = some []
theorem Room.mono {j k : Nat} {A : Around} (r : Room k A) (h : j ≤ k) : Room j A := ⟨r.hd, by have := r.dp; omega, by have := r.un; omega, r.gd⟩
theorem Room.deeper {k : Nat} {A : Around} (r : Room (k + 1) A) (env : Env) : Room k (A.deeper env) :=
  ⟨r.hd, by have := r.dp; show A.depth + 1 + 3 * k + 5 < _; omega, by have := r.un; show A.units + 3 + 16 * k + 200 < _; omega, r.gd⟩
theorem Room.depth {k : Nat} {A : Around} (r : Room k A) : A.depth < recursionLimit := by have := r.dp; omega
theorem Room.units {k : Nat} {A : Around} (r : Room k A) : A.units + 64 < cLine := by have := r.un; omega
/-! ### argument lists and displays -/
def tNil : TA := fun _ H Q => Q [] H
def tCons (ta : TE) (tr : TA) : TA := fun σ H Q => ta σ H fun x H1 => tr σ H1 fun xs H2 => Q (x :: xs) H2
section
variable {X : Cx} {e : Expr} {es : List Expr} {te : TE} {t : TA} {pos : Pos}
theorem pa_nil : PA X [] tNil := fun _ _ _ _ H Q I h => Calls.spliced_nil ⟨[], H, I, .nil, h⟩
theorem pa_cons (ha : PE X e te) (hr : PA X es t) (hs : starEach (e :: es) X.env = (false, eval e X.env) :: starEach es X.env := by rfl) : PA X (e :: es) (tCons te t) := by
  intro pos pins s σ H Q I h
  rw [hs]
  show wpAny _ _ (spliced ((false, eval e X.env) :: backTo pos (starEach es X.env))) _ _ s
  refine Calls.spliced_cons (thn (ha pins s σ H _ I h) fun u s1 ⟨x, H1, I1, r1, q1⟩ => ?_)
  exact thn (hr pos pins s1 σ H1 _ I1 q1) fun us s2 ⟨xs, H2, I2, r2, q2⟩ => ⟨x :: xs, H2, I2, .cons r1 r2, q2⟩

/-- a tuple, a list of written items -/
def tTup (t : TA) : TE := fun σ H Q => t σ H fun xs H1 => xs.length ≤ sizeLine ∧ ∀ p, H1 p = none → Q (.ref p) (upd H1 p (.tup xs))
def tLst (t : TA) : TE := fun σ H Q => t σ H fun xs H1 => xs.length ≤ sizeLine ∧ ∀ p, H1 p = none → Q (.ref p) (upd H1 p (.lst xs))
theorem pe_tup {x1} (h : PA X es t) : PE X (.Tuple es x1 pos) (tTup t) := by
  intro pins s σ H Q I hq
  refine wpAny_Tuple_spliced (thn (h pos pins s σ H _ I hq) fun us s1 ⟨xs, H1, I1, r, z, q⟩ => ⟨by rw [← r.length]; exact z, ?_⟩)
  have hf : H1 s1.heap.objs.size = none := I1.hok.fresh (Nat.le_refl _)
  refine ⟨.ref s1.heap.objs.size, upd H1 s1.heap.objs.size (.tup xs), I1.laid (t' := s1.toks) (fun b u e => Heap.get?_push_of_some _ e) (Nat.le_refl _) ?_, rfl, q _ hf⟩
  exact ⟨z, us, r, ⟨_, Heap.get?_push_size _ rfl, rfl, _, rfl, rfl⟩⟩
theorem pe_lst (h : PA X es t) : PE X (.List es pos) (tLst t) := by
  intro pins s σ H Q I hq
  refine wpAny_List_spliced (thn (h pos pins s σ H _ I hq) fun us s1 ⟨xs, H1, I1, r, z, q⟩ => ⟨by rw [← r.length]; exact z, ?_⟩)
  have hf : H1 s1.heap.objs.size = none := I1.hok.fresh (Nat.le_refl _)
  refine ⟨.ref s1.heap.objs.size, upd H1 s1.heap.objs.size (.lst xs), I1.laid (t' := s1.toks) (fun b u e => Heap.get?_push_of_some _ e) (Nat.le_refl _) ?_, rfl, q _ hf⟩
  exact ⟨z, us, 0, r, Heap.get?_push_size _ rfl⟩
end

/-! ### what a def promises -/
/-- a def's promise: the bound arguments in the parameters' order, the heap, the wanted end, the wanted exception -/
abbrev Sp := List V → Hp → VK → XK → Prop
/-- how an exception lies behind a call (file 08 gives it): the callers' frames, abstract heap and state ahead of the call, the wish, the exception, the state -/
abbrev CXT := List Env → Hp → Shared → XK → Value → Shared → Prop

/-- the state at a call -/
structure Env0 (P : Program) (w : World) (K : PySem.W.Frag) (mg : Str → Option Value) (base : Heap) (A : Around) (outer : List Env) (s : Shared) (H : Hp) : Prop where
  frames : A.frames = some outer
  mod : Mod K mg base
  bs : ∀ b o, base.get? b = some o → s.heap.get? b = some o ∧ H b = none
  bsz : base.objs.size ≤ s.heap.objs.size
  funs : s.heap.FunFrames base outer
  frf : ∀ b ∈ frs outer, H b = none
  hok : HOk P w H s.heap
  bare : AllBare s.gens
/-- a call's end -/
def CE (outer : List Env) (P : Program) (w : World) (H : Hp) (s : Shared) (Q : VK) (u : Value) (s' : Shared) : Prop :=
  ∃ v H', s'.os = s.os ∧ AllBare s'.gens ∧ Un (frs outer) [] H H' s.heap s'.heap ∧ HOk P w H' s'.heap ∧ RelV v u ∧ Q v H'
def CR (CX : CXT) (outer : List Env) (P : Program) (w : World) (H : Hp) (s : Shared) (Q : VK) (E : XK) (r : Result) (s' : Shared) : Prop :=
  match r with
  | .ok (.ret u) => CE outer P w H s Q u s'
  | .ok _ => False
  | .error e => CX outer H s E e s'
structure FnOk (P : Program) (w : World) (K : PySem.W.Frag) (mg : Str → Option Value) (base : Heap) (CX : CXT) (k : Nat) (f : Addr) (fd : FuncData) (ps : List Str) (sp : Sp) : Prop where
  len : ∀ vs H Q E, sp vs H Q E → vs.length = ps.length
  run : ∀ (A : Around) (outer : List Env) (s : Shared) (H : Hp) (args : Args) (us : List Value) (vs : List V) (Q : VK) (E : XK), Room k A → Env0 P w K mg base A outer s H → BindsTo s fd args (ps.zip us) → Vals vs us → sp vs H Q E →
    codeAny (model P w) A (.call (.ref f) args) (CR CX outer P w H s Q E) s
section
variable {X : Cx} {pins : List (Addr × Obj)} {σ : St} {H : Hp} {s s' : Shared}
/-- from a body: what a callee wants -/
theorem Inv.env0 (I : Inv X pins σ H s) : Env0 X.prog X.w X.K X.mg X.base X.A X.stack s H :=
  ⟨I.ok.frames, I.ok.mod, I.bs, Nat.le_trans I.ok.bsz I.sz, I.stack, I.stkFree, I.hok, I.bare⟩
/-- behind a call -/
theorem Inv.after {Q : VK} {u : Value} (I : Inv X pins σ H s) (h : CE X.stack X.prog X.w H s Q u s') : EP X pins σ Q u s' := by
  obtain ⟨v, H', os, bare, un, hok, r, q⟩ := h
  obtain ⟨hh, g, d, t, os'⟩ := s'
  obtain rfl : os' = s.os := os
  exact ⟨v, H', I.call (h' := hh) (g' := g) (d' := d) (t' := t) (ch := []) un hok bare (fun b z => absurd z (by simp)), r, q⟩
end

/-! ### calls -/
/-- f(..): the written arguments, then the defaults dvs; E: what is wanted of an exception -/
def tCall (sp : Sp) (dvs : List V) (E : XK) (t : TA) : TE := fun σ H Q => t σ H fun vs H1 => sp (vs ++ dvs) H1 Q E
/-- how the parameters are bound: us the positional arguments, kw the keywords' values by name, ds the defaults that fill up -/
def Binds (K : PySem.W.Frag) (fd : FuncData) (ps : List Str) (ds : List Value) : Prop :=
  ∀ (s : Shared) (us : List Value), K.In s.heap → (us ++ ds).length = ps.length → BindsTo s fd ⟨us, []⟩ (ps.zip (us ++ ds))
/-- every parameter is given -/
theorem Binds.all {K : PySem.W.Frag} {fd : FuncData} {ps : List Str} (h : ∀ us : List Value, us.length = ps.length → bindArgs fd ⟨us, []⟩ = pure (ps.zip us)) : Binds K fd ps [] := fun s us _ hl => by
  rw [List.append_nil] at hl ⊢
  exact .of_eq (h us hl)

/-- an exception of a callee reaches what this body wants of exceptions -/
def Passes (CX : CXT) (X : Cx) (E : XK) : Prop := ∀ (pins : List (Addr × Obj)) (σ : St) (H : Hp) (s : Shared) (e : Value) (s' : Shared), Inv X pins σ H s → CX X.stack H s E e s' → X.xe e s'

section
variable {X : Cx} {CX : CXT} {k : Nat} {f C : Addr} {fd : FuncData} {ps : List Str} {sp : Sp} {dvs : List V} {ds : List Value} {E : XK} {x m : Str} {p pos apos : Pos} {e o : Expr} {es : List Expr} {ta : TE} {t : TA}

/-- the callee runs -/
theorem run_fn {pins : List (Addr × Obj)} {σ : St} {H : Hp} {s : Shared} {Q : VK} {us : List Value} {vs : List V} (F : FnOk X.prog X.w X.K X.mg X.base CX k f fd ps sp) (hr : Room k X.A) (hb : Binds X.K fd ps ds) (hd : Vals dvs ds) (hx : Passes CX X E)
    (I : Inv X pins σ H s) (r : Vals vs us) (h : sp (vs ++ dvs) H Q E) : wpAny (model X.prog X.w) X.A (call (.ref f) us) (EP X pins σ Q) X.xe s := by
  have r2 : Vals (vs ++ dvs) (us ++ ds) := r.append hd
  have hl : (us ++ ds).length = ps.length := by rw [← r2.length]; exact F.len _ _ _ _ h
  refine wpAny_call (codeAny_mono (F.run X.A X.stack s H ⟨us, []⟩ (us ++ ds) (vs ++ dvs) Q E hr I.env0 (hb s us I.kIn hl) r2 h) fun r s' hq => ?_)
  cases r with
  | error e => exact hx pins σ H s e s' I hq
  | ok fl =>
    cases fl with
    | ret u => exact I.after hq
    | next => exact False.elim hq
    | brk => exact False.elim hq
    | cont => exact False.elim hq

theorem pe_call (F : FnOk X.prog X.w X.K X.mg X.base CX k f fd ps sp) (hr : Room k X.A) (hg : Gl X x) (hm : X.mg x = some (.ref f)) (hk : PySem.W.keepIn X.K (.ref f) = true) (hb : Binds X.K fd ps ds) (hd : Vals dvs ds) (hx : Passes CX X E)
    (ha : PA X (e :: es) t) (hdb : (x == ("__debug__" : Str)) = false := by decide) (he : starEach (e :: es) X.env = (false, eval e X.env) :: starEach es X.env := by rfl) (hpl : (backTo pos (starEach es X.env)).any (·.1) = false := by rfl) :
    PE X (.Call (.Name x p) (e :: es) [] pos) (tCall sp dvs E t) := by
  intro pins s σ H Q I h
  refine wpAny_Call_Name_kw (ld_glob I hg hm ?_ hdb)
  refine PySem.W.callWith_K (h₀ := X.base) I.ok.mod.kin hk (thn (ha pos pins s σ H _ I h) fun us s1 ⟨vs, H1, I1, r, q⟩ => ⟨I1.kIn, ?_⟩) he hpl
  exact run_fn F hr hb hd hx I1 r q
end

/-! ### keywords -/
section
variable {X : Cx} {CX : CXT} {k : Nat} {f C : Addr} {fd : FuncData} {ps ks : List Str} {sp : Sp} {E : XK} {x m : Str} {p pos apos kpos : Pos} {e o : Expr} {es : List Expr} {kws : List Keyword} {te ta : TE} {t tk : TA} {nm : Option Str}
variable {g : List Value → List Value → List Value} {gV : List V → List V → List V}
end

/-! ### a def's body keeps its promise -/
/-- names: the parameters first -/
structure FnScope (N P : List Str) (sc : Scope) : Prop where
  kind : sc.kind = .function
  co : sc.isCoroutine = false
  gen : sc.isGenerator = false
  nd : N.Nodup
  pre : N.take P.length = P
  par : ∀ x ∈ P, sc.names.lookup x = some .local ∨ sc.names.lookup x = some .cell
  nofree : ∀ y ∈ sc.names, y.2 ≠ .free

theorem bindL_out {kindOf : Str → Option NameKind} {x : Str} : ∀ {binds : List (Str × Value)} {m : Str → Option Value}, (∀ v, (x, v) ∉ binds) → bindL kindOf binds m x = m x
  | [], _, _ => rfl
  | (n, v) :: r, m, h => by
    unfold bindL
    rw [bindL_out fun w hw => h w (List.mem_cons_of_mem _ hw)]
    split
    · have : x ≠ n := by rintro rfl; exact h v List.mem_cons_self
      simp [this]
    · rfl
theorem bindC_out {kindOf : Str → Option NameKind} {x : Str} : ∀ {binds : List (Str × Value)} {m : Str → Option Value}, (∀ v, (x, v) ∉ binds) → bindC kindOf binds m x = m x
  | [], _, _ => rfl
  | (n, v) :: r, m, h => by
    unfold bindC
    rw [bindC_out fun w hw => h w (List.mem_cons_of_mem _ hw)]
    split
    · rfl
    · have : x ≠ n := by rintro rfl; exact h v List.mem_cons_self
      simp [this]
theorem bindL_get {kindOf : Str → Option NameKind} {x : Str} {v : Value} : ∀ {P : List Str} {vs : List Value} {i : Nat} {m : Str → Option Value}, P.Nodup → P[i]? = some x → vs[i]? = some v → kindOf x = some .local →
    bindL kindOf (P.zip vs) m x = some v
  | [], _, _, _, _, h, _, _ => by simp at h
  | _ :: _, [], _, _, _, _, h, _ => by simp at h
  | p :: P, w :: vs, 0, m, nd, h1, h2, hk => by
    simp at h1 h2; subst h1; subst h2
    show bindL kindOf ((p, w) :: P.zip vs) m p = _
    unfold bindL
    rw [bindL_out fun v hv => (List.nodup_cons.mp nd).1 (List.of_mem_zip hv).1, if_pos hk]
    simp
  | p :: P, w :: vs, i + 1, m, nd, h1, h2, hk => by
    show bindL kindOf ((p, w) :: P.zip vs) m x = _
    unfold bindL
    exact bindL_get (i := i) (List.nodup_cons.mp nd).2 (by simpa using h1) (by simpa using h2) hk
theorem bindC_get {kindOf : Str → Option NameKind} {x : Str} {v : Value} : ∀ {P : List Str} {vs : List Value} {i : Nat} {m : Str → Option Value}, P.Nodup → P[i]? = some x → vs[i]? = some v → kindOf x ≠ some .local →
    bindC kindOf (P.zip vs) m x = some v
  | [], _, _, _, _, h, _, _ => by simp at h
  | _ :: _, [], _, _, _, _, h, _ => by simp at h
  | p :: P, w :: vs, 0, m, nd, h1, h2, hk => by
    simp at h1 h2; subst h1; subst h2
    show bindC kindOf ((p, w) :: P.zip vs) m p = _
    unfold bindC
    rw [bindC_out fun v hv => (List.nodup_cons.mp nd).1 (List.of_mem_zip hv).1, if_neg hk]
    simp
  | p :: P, w :: vs, i + 1, m, nd, h1, h2, hk => by
    show bindC kindOf ((p, w) :: P.zip vs) m x = _
    unfold bindC
    exact bindC_get (i := i) (List.nodup_cons.mp nd).2 (by simpa using h1) (by simpa using h2) hk

/-- the names' values at the entry -/
def start (N : List Str) (vs : List V) : St := vs.map some ++ List.replicate (N.length - vs.length) none

/-- the context of a def's body, at its entry; an exception leaves the frame, then lies as CX says -/
def cxOf (CX : CXT) (P : Program) (w : World) (K : PySem.W.Frag) (mg : Str → Option Value) (base : Heap) (N : List Str) (qual : Str) (scope : Scope) (f : Addr) (cd : Value) (A : Around) (outer : List Env) (s : Shared) (H : Hp) (E : XK) : Cx where
  prog := P
  w := w
  K := K
  mg := mg
  base := base
  A := A.deeper (envOfC qual scope s.heap.objs.size f cd)
  N := N
  s₀ := s
  H₀ := H
  env := envOfC qual scope s.heap.objs.size f cd
  outer := outer
  stack := envOfC qual scope s.heap.objs.size f cd :: outer
  ex := []
  calm := true
  fn := fun _ => true
  pn := []
  xe := fun e s' => wpAny (model P w) (A.deeper (envOfC qual scope s.heap.objs.size f cd)) (leaving (envOfC qual scope s.heap.objs.size f cd) e) (fun _ s'' => CX outer H s E e s'') (fun e' s'' => CX outer H s E e' s'') s'

theorem cell_has {sc : Scope} {n : Nat} {x : Str} (h : sc.names.lookup x = some .cell) : ∃ c, (cellsFrom n sc.names []).lookup x = some c := by
  have q := PySem.W.cellsFrom_some sc.names n [] (.inl h)
  exact Option.isSome_iff_exists.mp q

theorem inv_start {CX : CXT} {P : Program} {w : World} {K : PySem.W.Frag} {mg : Str → Option Value} {base : Heap} {N ps : List Str} {qual : Str} {scope : Scope} {f : Addr} {cd : Value} {A : Around} {outer : List Env} {s s1 : Shared} {H : Hp} {E : XK} {us : List Value} {vs : List V}
    (S : FnScope N ps scope) (hd : A.handled = none) (e0 : Env0 P w K mg base A outer s H) (hl : vs.length = ps.length) (r : Vals vs us)
    (x : InCallC s s.heap.objs.size (bindL (envOfC qual scope s.heap.objs.size f cd).kindOf (ps.zip us) fun _ => none) (cellsFrom (s.heap.objs.size + 1) scope.names []) (bindC (envOfC qual scope s.heap.objs.size f cd).kindOf (ps.zip us) fun _ => none) s1) :
    Inv (cxOf CX P w K mg base N qual scope f cd A outer s H E) [] (start N vs) H s1 := by
  have hpl : ps.length ≤ N.length := by have := congrArg List.length S.pre; rw [List.length_take] at this; omega
  obtain ⟨h1, tk, rfl, hk⟩ := x.done
  have noA : ∀ b : Addr, b ∉ (cxOf CX P w K mg base N qual scope f cd A outer s H E).ex := fun b z => absurd (show b ∈ ([] : List Addr) from z) (by simp)
  refine ⟨⟨e0.mod, S.kind, rfl, rfl, Nat.le_refl _, fun y z c h1 h2 => ?_, fun y hy => ?_, fun y c _ h => ?_, fun _ => hd, Around.frames_deeper e0.frames, .inr ⟨rfl, rfl⟩, fun b z => absurd z (noA b), e0.bs, e0.bsz, fun b _ _ => noA b, fun b z => absurd z (noA b), e0.funs, e0.frf⟩,
    rfl, e0.bare, Un.kept hk, ⟨_, x.toInCall.ns, fun i y v h1 h2 h3 => ?_⟩, fun y c h => ⟨_, x.cell y c h⟩, e0.hok.fresh (Nat.le_refl _), fun y c h => ?_, fun p hp => absurd (show p ∈ ([] : List (Addr × Obj)) from hp) (by simp), e0.hok.kept hk, ?_⟩
  · exact name_of_addr x.apart (PySem.mem_of_lookup h1) (PySem.mem_of_lookup h2)
  · have hy : scope.names.lookup y = some .cell ∨ scope.names.lookup y = some .free := hy
    rcases hy with hy | hy
    · exact cell_has hy
    · exact absurd rfl (S.nofree _ (PySem.mem_of_lookup hy))
  · exact Nat.le_of_lt (x.above y c (PySem.mem_of_lookup h))
  · have hi : i < vs.length := by
      unfold start at h2
      by_cases hi : i < vs.length
      · exact hi
      · rw [List.getElem?_append_right (by simpa using hi)] at h2
        rw [List.getElem?_replicate] at h2
        split at h2 <;> cases h2
    have ha : vs[i]? = some v := by
      unfold start at h2
      rw [List.getElem?_append_left (by simpa using hi), List.getElem?_map] at h2
      cases e : vs[i]? with
      | none => rw [e] at h2; cases h2
      | some a => rw [e] at h2; cases h2; rfl
    obtain ⟨u, hu, rv⟩ := r.get ha
    have hp : ps[i]? = some y := by
      rw [← S.pre, List.getElem?_take_of_lt (by omega)]; exact h1
    have ndP : ps.Nodup := by rw [← S.pre]; exact S.nd.sublist (List.take_sublist _ _)
    refine ⟨u, rv, ?_⟩
    rcases S.par y (List.mem_of_getElem? hp) with k | k
    · exact .inl ⟨k, bindL_get ndP hp hu k⟩
    · obtain ⟨c, e⟩ := cell_has (n := s.heap.objs.size + 1) k
      refine .inr ⟨.inl k, c, e, ?_⟩
      have q := x.cell y c e
      rw [bindC_get ndP hp hu (by show scope.names.lookup y ≠ _; rw [k]; decide)] at q
      exact q
  · exact e0.hok.fresh (Nat.le_of_lt (x.above y c (PySem.mem_of_lookup h)))
  · unfold start
    show _ = N.length
    rw [List.length_append, List.length_map, List.length_replicate]
    omega

/-- THE RULE: a def (or a method) of the text, by its body. The body's reading t is chosen for each entry; it is run at the parameters' values -/
theorem fn_of {CX : CXT} {P : Program} {w : World} {K : PySem.W.Frag} {mg : Str → Option Value} {base : Heap} {k : Nat} {f : Addr} {name qual : Str} {params : Arguments} {body : List Stmt} {scope : Scope} {dV kV doc pm cdv ct oc : Value} {an od : Option Addr}
    {osl : Array (Option Value)} {N ps : List Str} {sp : Sp} (lk : K.lookup f = some ⟨oc, od, .func (PySem.W.fnOf name qual params body scope dV kV doc pm an cdv ct), osl⟩) (hcd : PySem.W.codeIn K cdv qual = true) (S : FnScope N ps scope)
    (len : ∀ vs H Q E, sp vs H Q E → vs.length = ps.length)
    (hbody : ∀ (A : Around) (outer : List Env) (s : Shared) (H : Hp) (vs : List V) (Q : VK) (E : XK), Room k (A.deeper (envOfC qual scope s.heap.objs.size f cdv)) → sp vs H Q E →
      ∃ t, PSs (cxOf CX P w K mg base N qual scope f cdv A outer s H E) body t ∧ t { nx := fun _ H' => Q .non H', rt := Q } (start N vs) H) :
    FnOk P w K mg base CX (k + 1) f (PySem.W.fnOf name qual params body scope dV kV doc pm an cdv ct) ps sp := by
  refine ⟨len, fun A outer s H args us vs Q E hr e0 hb r hsp => ?_⟩
  have hl := len _ _ _ _ hsp
  have KX : K.In s.heap := e0.mod.kin.keeps fun b o e => (e0.bs b o e).1
  have lim : s.heap.NoLimit := e0.mod.nolimit.keeps fun b o e => (e0.bs b o e).1
  have hkind : ∀ y ∈ ps.zip us, scope.names.lookup y.1 = some .local ∨ (scope.names.lookup y.1 = some .cell ∧ ((cellsFrom (s.heap.objs.size + 1) scope.names []).lookup y.1).isSome = true) := fun ⟨n, v⟩ hy => by
    rcases S.par n (List.of_mem_zip hy).1 with q | q
    · exact .inl q
    · exact .inr ⟨q, PySem.W.cellsFrom_some _ _ _ (.inl q)⟩
  refine codeAny_call_function hr.depth (KX _ _ lk) rfl S.co S.gen rfl (PySem.W.codeRec_of KX hcd) (hb _ _ _ _ ?_)
  refine wpAny_newFunctionEnv_cells S.kind hkind fun env he s1 x => ?_
  subst he
  refine ⟨lim.keeps x.toInCall.keep, codeAny_func ?_⟩
  obtain ⟨t, ht, hq⟩ := hbody A outer s H vs Q E (hr.deeper _) hsp
  have I : Inv (cxOf CX P w K mg base N qual scope f cdv A outer s H E) [] (start N vs) H s1 := inv_start S hr.hd e0 hl r x
  refine wpAny_mono (ht [] s1 (start N vs) H _ I hq) (fun fl s' hs => ?_) fun e s' hs => hs
  have fin : ∀ {σ' : St} {H' : Hp} {v : V} {u : Value}, Inv (cxOf CX P w K mg base N qual scope f cdv A outer s H E) [] σ' H' s' → RelV v u → Q v H' → CE outer P w H s Q u s' :=
    fun {σ' H' v u} J rv q => ⟨v, H', J.os, J.bare, J.base, J.hok, rv, q⟩
  cases fl with
  | ret u =>
    obtain ⟨v, σ', H', J, rv, q⟩ := hs
    exact fin J rv q
  | next =>
    obtain ⟨σ', H', J, q⟩ := hs
    exact fin (v := V.non) (u := Value.none) J rfl q
  | brk =>
    obtain ⟨_, _, _, q⟩ := hs
    exact False.elim q
  | cont =>
    obtain ⟨_, _, _, q⟩ := hs
    exact False.elim q
end L2

namespace L2
open PySem PySem.Spec PyProof.Rows
section
variable {X : Cx} {x : Str} {p pos : Pos} {e : Expr} {es : List Expr} {t : TA} {id T : String} {r : List V → Hp → VK → Prop}

def tCB (r : List V → Hp → VK → Prop) (t : TA) : TE := fun σ H Q => t σ H fun vs H1 => r vs H1 Q
/-- f(e, ..), f a built-in function -/
theorem pe_callB (hc : CallR X (.builtin id) r) (hg : Gl X x) (hm : X.mg x = none) (hv : bootBuiltins x = some (.builtin id)) (ha : PA X (e :: es) t) (hn : x ≠ "__name__" := by decide) (hdb : (x == ("__debug__" : Str)) = false := by decide)
    (he : starEach (e :: es) X.env = (false, eval e X.env) :: starEach es X.env := by rfl) (hpl : (backTo pos (starEach es X.env)).any (·.1) = false := by rfl) : PE X (.Call (.Name x p) (e :: es) [] pos) (tCB r t) := by
  intro pins s σ H Q I h
  refine wpAny_Call_Name_kw (ld_blt I hg hm hv ?_ hn hdb)
  exact PyProof.Rows.callWith_builtin1 (thn (ha pos pins s σ H _ I h) fun us s1 ⟨vs, H1, I1, r1, q1⟩ => hc pins s1 σ H1 vs us Q I1 r1 q1) he hpl
/-- T(e, ..), T a built-in type -/
theorem pe_callTy (hc : CallR X (.type T) r) (hg : Gl X x) (hm : X.mg x = none) (hv : bootBuiltins x = some (.type T)) (ha : PA X (e :: es) t) (hn : x ≠ "__name__" := by decide) (hdb : (x == ("__debug__" : Str)) = false := by decide)
    (he : starEach (e :: es) X.env = (false, eval e X.env) :: starEach es X.env := by rfl) (hpl : (backTo pos (starEach es X.env)).any (·.1) = false := by rfl) : PE X (.Call (.Name x p) (e :: es) [] pos) (tCB r t) := by
  intro pins s σ H Q I h
  refine wpAny_Call_Name_kw (ld_blt I hg hm hv ?_ hn hdb)
  exact PyProof.Rows.callWith_type1 (thn (ha pos pins s σ H _ I h) fun us s1 ⟨vs, H1, I1, r1, q1⟩ => hc pins s1 σ H1 vs us Q I1 r1 q1) he hpl
end
end L2

namespace HT
open PySem PyProof.Rows

section
open PySem.SeqAt
open PySem.AutoSeq1 (wpAny_loadPart')
open PySem.MeetsSeq PySem.MeetsSeq2 PySem.MeetsSeq3

end

section
variable {prog : Program} {w : World} {A : Around} {E : Value → Shared → Prop} {s : Shared}

/-! ### t[a:b], not the whole -/
/-- a slice's bound as a place among n (d where it is left out) -/
def sIx (n d : Nat) : Option Int → Nat
  | none => d
  | some v => if v < 0 then (v + (n : Int)).toNat else min v.toNat n
theorem sIx_none (n d : Nat) : sIx n d none = d := rfl
theorem sIx_nat (n d k : Nat) : sIx n d (some (k : Int)) = min k n := by
  show (if (k : Int) < 0 then ((k : Int) + (n : Int)).toNat else min (k : Int).toNat n) = min k n
  rw [if_neg (by omega), Int.toNat_natCast]
end
end HT

namespace L2
open PySem PySem.Spec PyProof.Rows

/-! ### the parts of a slice -/
abbrev TO := St → Hp → (Option Int → Hp → Prop) → Prop
/-- a slice's part (left out, or an int) -/
def PO (X : Cx) (e : Option Expr) (t : TO) : Prop :=
  ∀ (pins : List (Addr × Obj)) (s : Shared) (σ : St) (H : Hp) (Q : Option Int → Hp → Prop), Inv X pins σ H s → t σ H Q →
    wpAny (model X.prog X.w) X.A (evalPart e X.env) (fun u s' => ∃ o H', Inv X pins σ H' s' ∧ IsPart u o ∧ Q o H') X.xe s
def tNoPart : TO := fun _ H Q => Q none H
def tPart (t : TE) : TO := fun σ H Q => t σ H fun x H1 => ∃ i, x = .int i ∧ Q (some i) H1

theorem intsAre_of {ns : List Int} : ∀ {us : List Value}, Vals (ns.map V.int) us → IntsAre us ns := by
  induction ns with
  | nil => intro us r; rw [List.map_nil] at r; cases r; exact .nil
  | cons n ns ih =>
    intro us r
    rw [List.map_cons] at r
    cases r with
    | cons r1 r2 =>
      obtain ⟨t, e⟩ := r1
      subst e
      exact .cons n t (ih r2)

section
variable {X : Cx} {e : Expr} {te : TE} {lo hi : Option Expr} {tl th : TO} {pos p2 : Pos}

theorem po_none : PO X none tNoPart := by
  intro pins s σ H Q I h
  rw [evalPart_none]
  exact wpAny_pure ⟨none, H, I, .none, h⟩
theorem po_some (h : PE X e te) : PO X (some e) (tPart te) := by
  intro pins s σ H Q I hw
  rw [evalPart_some]
  refine thn (h pins s σ H _ I hw) fun u s1 ⟨x, H1, I1, r1, q1⟩ => ?_
  obtain ⟨i, rfl, q⟩ := q1
  obtain ⟨t, rfl⟩ := r1
  exact ⟨some i, H1, I1, .int i t, q⟩

/-- what a slice of a value is, by values: the slice object stands at sl -/
def SlR (X : Cx) (r : V → Option Int → Option Int → Hp → VK → Prop) : Prop :=
  ∀ (pins : List (Addr × Obj)) (s : Shared) (σ : St) (H : Hp) (x : V) (v vl vu : Value) (lo hi : Option Int) (sl : Addr) (Q : VK), Inv X pins σ H s → RelV x v → s.heap.IsSliceOf sl vl vu .none → IsPart vl lo → IsPart vu hi → r x lo hi H Q →
    ∃ T id, typeLookup (.type T) "__getitem__" = pure (some (.builtin id)) ∧ s.TypeIs v T ∧ wpAny (model X.prog X.w) X.A (getItem v (.ref sl)) (EP X pins σ Q) X.xe s
def tSl (r : V → Option Int → Option Int → Hp → VK → Prop) (te : TE) (tl th : TO) : TE := fun σ H Q => te σ H fun x H1 => tl σ H1 fun l H2 => th σ H2 fun u H3 => r x l u H3 Q
/-- a[lo:hi], any a -/
theorem pe_slice {r : V → Option Int → Option Int → Hp → VK → Prop} (hr : SlR X r) (he : PE X e te) (hl : PO X lo tl) (hu : PO X hi th) : PE X (.Subscript e (.Slice lo hi none p2) pos) (tSl r te tl th) := by
  intro pins s σ H Q I h
  refine Subscript_ (thn (he pins s σ H _ I h) fun v s1 ⟨x, H1, I1, r1, q1⟩ => ?_)
  refine wpAny_Slice (thn (hl pins s1 σ H1 _ I1 q1) fun vl s2 ⟨l, H2, I2, pl, q2⟩ => thn (hu pins s2 σ H2 _ I2 q2) fun vu s3 ⟨u, H3, I3, pu, q3⟩ => ?_)
  rw [evalPart_none]
  refine wpAny_pure ?_
  have I4 : Inv X pins σ H3 { s3 with heap := s3.heap.push { cls := .type "slice", data := .fields #[vl, vu, .none] } } := I3.kept (t' := s3.toks) fun b ob q => Heap.get?_push_of_some _ q
  obtain ⟨T, id, hT, ht, hg⟩ := hr pins { s3 with heap := s3.heap.push { cls := .type "slice", data := .fields #[vl, vu, .none] } } σ H3 x v vl vu l u s3.heap.objs.size Q I4 r1 (Heap.IsSliceOf.new ..) pl pu q3
  show wpAny (model X.prog X.w) X.A (subscriptTail e (.Slice lo hi none p2) v (.ref s3.heap.objs.size)) (EP X pins σ Q) X.xe { s3 with heap := s3.heap.push { cls := .type "slice", data := .fields #[vl, vu, .none] } }
  exact tail_any (ops := [.ref s3.heap.objs.size, v]) ht hT hg (by with_unfolding_all rfl)

/-- the items of xs[lo:hi] -/
def cutV (xs : List V) (lo hi : Option Int) : List V := (xs.drop (HT.sIx xs.length 0 lo)).take (HT.sIx xs.length xs.length hi - HT.sIx xs.length 0 lo)
theorem cutV_length (xs : List V) (lo hi : Option Int) : (cutV xs lo hi).length ≤ xs.length := by
  unfold cutV
  rw [List.length_take, List.length_drop]
  omega
/-! ### t < u, t + u -/
end
end L2

namespace L2
open PySem PySem.Spec PyProof.Rows

/-! ### places -/
/-- the place that an index of any sign means -/
def ixN (n : Nat) (i : Int) : Option Nat := if 0 ≤ i then (if i < n then some i.toNat else none) else if -(n : Int) ≤ i then some (i + n).toNat else none
def atI {α : Type} (xs : List α) (i : Int) : Option α := (ixN xs.length i).bind fun j => xs[j]?
theorem ixN_seq {n : Nat} {i : Int} {j : Nat} (h : ixN n i = some j) : seqIndex? i n = some j ∧ j < n ∧ -(n : Int) ≤ i ∧ i < n := by
  unfold ixN at h
  by_cases h0 : 0 ≤ i
  · rw [if_pos h0] at h
    by_cases h1 : i < n
    · rw [if_pos h1] at h
      have e : i.toNat = j := Option.some.inj h
      exact ⟨by rw [seqIndex_of h0 h1, e], by omega, by omega, h1⟩
    · rw [if_neg h1] at h; cases h
  · rw [if_neg h0] at h
    by_cases h1 : -(n : Int) ≤ i
    · rw [if_pos h1] at h
      have e : (i + n).toNat = j := Option.some.inj h
      exact ⟨by rw [seqIndex_neg (by omega) h1, e], by omega, h1, by omega⟩
    · rw [if_neg h1] at h; cases h
theorem atI_get {α : Type} {xs : List α} {i : Int} {v : α} (h : atI xs i = some v) : ∃ j, seqIndex? i xs.length = some j ∧ xs[j]? = some v ∧ j < xs.length ∧ -(xs.length : Int) ≤ i ∧ i < xs.length := by
  unfold atI at h
  cases e : ixN xs.length i with
  | none => rw [e] at h; cases h
  | some j =>
    rw [e] at h
    obtain ⟨h1, h2, h3, h4⟩ := ixN_seq e
    exact ⟨j, h1, h, h2, h3, h4⟩
theorem atI_nat {α : Type} {xs : List α} {j : Nat} {v : α} (h : xs[j]? = some v) : atI xs (j : Int) = some v := by
  have hj : j < xs.length := (List.getElem?_eq_some_iff.mp h).1
  have e : ixN xs.length (j : Int) = some j := by
    unfold ixN
    rw [if_pos (by omega), if_pos (by omega)]; simp
  unfold atI; rw [e]; exact h
/-! ### what may be subscripted -/
/-- what stands as an index of a plain subscript -/
def PlainIx (b : Expr) : Prop := ∀ o i, subscripted b false o i = operate [o, i] (getItem o i)
/-- a subscript by values -/
def IxR (X : Cx) (r : R2) : Prop :=
  ∀ (value slice : Expr) (pins : List (Addr × Obj)) (s : Shared) (σ : St) (H : Hp) (x y : V) (v u : Value) (Q : VK), Inv X pins σ H s → RelV x v → RelV y u → r x y H Q →
    subscripted slice false v u = operate [v, u] (getItem v u) → wpAny (model X.prog X.w) X.A (subscriptTail value slice v u) (EP X pins σ Q) X.xe s
/-- a call of a builtin's method by values: the receiver, the arguments -/
def MtR (X : Cx) (id : String) (r : V → List V → Hp → VK → Prop) : Prop :=
  ∀ (pins : List (Addr × Obj)) (s : Shared) (σ : St) (H : Hp) (x : V) (xs : List V) (v : Value) (us : List Value) (Q : VK), Inv X pins σ H s → RelV x v → Vals xs us → r x xs H Q →
    wpAny (model X.prog X.w) X.A (call (.builtin id) (v :: us)) (EP X pins σ Q) X.xe s
section
variable {X : Cx} {a b : Expr} {ta tb : TE} {pos : Pos}
/-- a[b] -/
theorem pe_ix {r : R2} (hr : IxR X r) (ha : PE X a ta) (hb : PE X b tb) (hs : PlainIx b) : PE X (.Subscript a b pos) (tOp r ta tb) := by
  intro pins s σ H Q I h
  exact Subscript_ (binT ha hb I h fun v u s2 x y H2 I2 rx ry q => hr a b pins s2 σ H2 x y v u Q I2 rx ry q (hs _ _))

def rIxL (K : PySem.W.Frag) : R2 := fun x y H Q => ∃ p xs i v, x = .ref p ∧ y = .int i ∧ SqL K H p xs ∧ atI xs i = some v ∧ Q v H
def rIxT (K : PySem.W.Frag) : R2 := fun x y H Q => ∃ p xs i v, x = .ref p ∧ y = .int i ∧ SqT K H p xs ∧ atI xs i = some v ∧ Q v H
theorem ix_list : IxR X (rIxL X.K) := by
  intro value slice pins s σ H x y v u Q I rx ry h hs
  obtain ⟨p, xs, i, z, rfl, rfl, hq, he, q⟩ := h
  cases rx
  obtain ⟨t, rfl⟩ := ry
  obtain ⟨its, r, pl, hz⟩ := I.list hq
  obtain ⟨j, h1, h2, h3, h4, h5⟩ := atI_get he
  obtain ⟨w, ew, rw'⟩ := r.get h2
  have hl := r.length
  have hn := line63
  have fin : EP X pins σ Q w s := ⟨z, H, I, rw', q⟩
  by_cases h0 : 0 ≤ i
  · have hj : i.toNat = j := by
      rw [seqIndex_of h0 h5] at h1
      exact Option.some.inj h1
    exact item_listR pl.isList h0 (by omega) (by rw [hj]; simpa using ew) fin hs
  · have hj : (i + (its.toArray.size : Int)).toNat = j := by
      rw [seqIndex_neg (by omega) h4] at h1
      rw [List.size_toArray, ← hl]
      exact Option.some.inj h1
    exact subscriptTail_builtinR (x := w) pl.isList.typeIs slot_list_getitem.lookup
      (wpAny_getItem_list_neg (Q := fun r s' => r = w ∧ EP X pins σ Q r s') pl.isList (by omega) (by rw [List.size_toArray] <;> omega) (by omega) (by rw [hj]; simpa using ew) ⟨rfl, fin⟩) hs
theorem ix_tup : IxR X (rIxT X.K) := by
  intro value slice pins s σ H x y v u Q I rx ry h hs
  obtain ⟨p, xs, i, z, rfl, rfl, hq, he, q⟩ := h
  cases rx
  obtain ⟨t, rfl⟩ := ry
  obtain ⟨its, r, pl, hz⟩ := I.tuple hq
  obtain ⟨j, h1, h2, h3, h4, h5⟩ := atI_get he
  obtain ⟨w, ew, rw'⟩ := r.get h2
  have hl := r.length
  have hn := line63
  have fin : EP X pins σ Q w s := ⟨z, H, I, rw', q⟩
  exact subscriptTail_builtinR (x := w) pl.typeIs slot_tuple_getitem.lookup
    (getItem_tuple (j := j) (Q := fun r s' => r = w ∧ EP X pins σ Q r s') pl (by omega) (by omega) (by rw [List.size_toArray, ← hl]; exact h1) (by simpa using ew) ⟨rfl, fin⟩) hs
/-! ### xs[i] = v, any sign -/
/-- the list's object behind a store -/
theorem mapSeq_set (its : List Value) (n j : Nat) (u : Value) : Obj.mapSeq (·.setIfInBounds j u) { cls := .type "list", data := .seq its.toArray n } = { cls := .type "list", data := .seq (its.set j u).toArray n } := by
  simp [Obj.mapSeq]
theorem Inv.lst {pins : List (Addr × Obj)} {σ : St} {H : Hp} {s : Shared} {p : Addr} {xs : List V} (I : Inv X pins σ H s) (h : H p = some (.lst xs)) :
    ∃ (its : List Value) (n : Nat), Vals xs its ∧ s.heap.get? p = some { cls := .type "list", data := .seq its.toArray n } ∧ xs.length ≤ sizeLine := by
  obtain ⟨z, its, n, r, e⟩ := I.hok p _ h
  exact ⟨its, n, r, e, z⟩
/-- the list at p is written by an update of its object -/
theorem Inv.lstUpd {pins : List (Addr × Obj)} {σ : St} {H : Hp} {s : Shared} {p : Addr} {xs ys : List V} {its its' : List Value} {n n' : Nat} {f : Obj → Obj} (I : Inv X pins σ H s) (h : H p = some (.lst xs))
    (ho : s.heap.get? p = some { cls := .type "list", data := .seq its.toArray n }) (hf : f { cls := .type "list", data := .seq its.toArray n } = { cls := .type "list", data := .seq its'.toArray n' }) (r : Vals ys its') (hz : ys.length ≤ sizeLine) (t : Nat) :
    Inv X pins σ (upd H p (.lst ys)) { s with heap := s.heap.update p f, toks := t } := by
  have e : (s.heap.update p f).get? p = some { cls := .type "list", data := .seq its'.toArray n' } := by
    rw [Heap.get?_update_self f ho (by rw [hf] <;> rfl), hf]
  refine I.write (x := p) (e := p) (by rw [h]; trivial) (.inl rfl) (fun b u hb q => (Heap.get?_update_other _ _ (Ne.symm hb)).trans q) ⟨_, e⟩ ?_
  exact ⟨hz, its', n', r, e⟩
def rSetL : V → V → V → Hp → (Hp → Prop) → Prop := fun o i v H Q => ∃ p xs k j, o = .ref p ∧ i = .int k ∧ H p = some (.lst xs) ∧ ixN xs.length k = some j ∧ Q (upd H p (.lst (xs.set j v)))
theorem set_list : PSet X rSetL := by
  intro pins s σ H o i v ov iv u Q I ro ri rv h
  obtain ⟨p, xs, k, j, rfl, rfl, hp, hj, q⟩ := h
  cases ro
  obtain ⟨t, rfl⟩ := ri
  obtain ⟨its, n, r, ho, hz⟩ := I.lst hp
  obtain ⟨h1, h2, h3, h4⟩ := ixN_seq hj
  have hl := r.length
  have hn := line63
  have I' : Inv X pins σ (upd H p (.lst (xs.set j v))) { s with heap := s.heap.update p (Obj.mapSeq (·.setIfInBounds j u)) } :=
    I.lstUpd hp ho (mapSeq_set its n j u) (r.set rv j) (by rw [List.length_set]; exact hz) s.toks
  by_cases h0 : 0 ≤ k
  · have hk : k.toNat = j := by
      rw [seqIndex_of h0 h4] at h1
      exact Option.some.inj h1
    exact PySem.W.ki_setAt ho h0 (by omega) (by rw [List.size_toArray, ← hl]; exact h4) (by rw [hk]; exact ⟨_, I', q⟩)
  · have hk : (k + (its.toArray.size : Int)).toNat = j := by
      rw [seqIndex_neg (by omega) h3] at h1
      rw [List.size_toArray, ← hl]
      exact Option.some.inj h1
    exact PySem.W.ki_setBack ho (by omega) (by rw [List.size_toArray, ← hl]; exact h3) (by omega) (by rw [hk]; exact ⟨_, I', q⟩)

/-! ### slices -/
theorem slice_bounds (lo hi : Option Int) (n : Nat) : (sliceBounds lo hi none n).1 = ((HT.sIx n 0 lo : Nat) : Int) ∧ (sliceBounds lo hi none n).2.1 = ((HT.sIx n n hi : Nat) : Int) ∧ (sliceBounds lo hi none n).2.2 = 1 := by
  refine ⟨?_, ?_, rfl⟩
  · cases lo with
    | none => simp [sliceBounds, HT.sIx]
    | some i =>
      simp only [sliceBounds, HT.sIx, Option.getD_none, show (1 : Int) > 0 by decide, if_true]
      by_cases h : i < 0
      · simp only [h, if_true] <;> omega
      · simp only [h, if_false] <;> omega
  · cases hi with
    | none => simp [sliceBounds, HT.sIx]
    | some i =>
      simp only [sliceBounds, HT.sIx, Option.getD_none, show (1 : Int) > 0 by decide, if_true]
      by_cases h : i < 0
      · simp only [h, if_true] <;> omega
      · simp only [h, if_false] <;> omega
theorem slicePick_cut (its : List Value) (lo hi : Option Int) : slicePick its.toArray lo hi none = ((its.drop (HT.sIx its.length 0 lo)).take (HT.sIx its.length its.length hi - HT.sIx its.length 0 lo)).toArray := by
  obtain ⟨h1, h2, h3⟩ := slice_bounds lo hi its.toArray.size
  unfold slicePick
  rw [h1, h2, h3]
  simp only [sliceRange_one, pick_run, List.size_toArray] <;> rfl
/-- xs[lo:hi] of a list: a new list -/
def rSlL (K : PySem.W.Frag) : V → Option Int → Option Int → Hp → VK → Prop := fun x lo hi H Q => ∃ a xs, x = .ref a ∧ SqL K H a xs ∧ ∀ p, H p = none → Q (.ref p) (upd H p (.lst (cutV xs lo hi)))
theorem sl_list : SlR X (rSlL X.K) := by
  intro pins s σ H x v vl vu lo hi sl Q I rx hs pl pu h
  obtain ⟨a, xs, rfl, hx, q⟩ := h
  cases rx
  obtain ⟨its, r, ht, hz⟩ := I.list hx
  have hlen := r.length
  refine ⟨"list", _, slot_list_getitem.lookup, ht.isList.typeIs, ?_⟩
  refine wpAny_getItem_list_slice ht.isList hs pl pu .none (by simp) ?_ (by rw [List.size_toArray] <;> omega)
  rw [slicePick_cut, ← hlen]
  refine ⟨.ref s.heap.objs.size, _, I.laid (t' := s.toks) (o := .lst (cutV xs lo hi)) (fun b ob q => Heap.get?_push_of_some _ q) (Nat.le_refl _) ?_, rfl, q _ (I.hok.fresh (Nat.le_refl _))⟩
  exact ⟨Nat.le_trans (cutV_length xs lo hi) hz, _, 0, (r.drop (HT.sIx xs.length 0 lo)).take (HT.sIx xs.length xs.length hi - HT.sIx xs.length 0 lo), Heap.get?_push_size _ rfl⟩

/-! ### in, not in: flat items -/
def flatV : V → Bool
  | .non => true
  | .bl _ => true
  | .int _ => true
  | .str _ => true
  | _ => false
/-- == of flat values -/
def eqV : V → V → Bool
  | .non, .non => true
  | .bl a, .bl b => a == b
  | .bl a, .int b => (if a then 1 else 0) == b
  | .int a, .bl b => a == (if b then 1 else 0)
  | .int a, .int b => a == b
  | .str a, .str b => a == b
  | _, _ => false
theorem eqAt_V {A : Around} {s : Shared} {y x : V} {u v : Value} (ry : RelV y u) (rx : RelV x v) (fy : flatV y = true) (fx : flatV x = true) : SeqAt.EqAt A s u v (eqV y x) := by
  cases y with
  | non =>
    cases ry
    cases x with
    | non => cases rx; exact SeqAt.EqAt.same _
    | bl b => cases rx; exact SeqAt.EqAt.none_bool b
    | int b => obtain ⟨t, rfl⟩ := rx; exact SeqAt.EqAt.none_int b t
    | str b => obtain ⟨t, rfl⟩ := rx; exact SeqAt.EqAt.none_str b t
    | _ => exact absurd (show false = true from fx) Bool.false_ne_true
  | bl a =>
    cases ry
    cases x with
    | non => cases rx; exact SeqAt.EqAt.bool_none a
    | bl b => cases rx; exact SeqAt.EqAt.bool_bool a b
    | int b => obtain ⟨t, rfl⟩ := rx; exact SeqAt.EqAt.bool_int a b t
    | str b => obtain ⟨t, rfl⟩ := rx; exact SeqAt.EqAt.bool_str a b t
    | _ => exact absurd (show false = true from fx) Bool.false_ne_true
  | int a =>
    obtain ⟨t', rfl⟩ := ry
    cases x with
    | non => cases rx; exact SeqAt.EqAt.int_none a t'
    | bl b => cases rx; exact SeqAt.EqAt.int_bool a t' b
    | int b => obtain ⟨t, rfl⟩ := rx; exact SeqAt.EqAt.int_int a t' b t
    | str b => obtain ⟨t, rfl⟩ := rx; exact SeqAt.EqAt.int_str a t' b t
    | _ => exact absurd (show false = true from fx) Bool.false_ne_true
  | str a =>
    obtain ⟨t', rfl⟩ := ry
    cases x with
    | non => cases rx; exact SeqAt.EqAt.str_none a t'
    | bl b => cases rx; exact SeqAt.EqAt.str_bool a t' b
    | int b => obtain ⟨t, rfl⟩ := rx; exact SeqAt.EqAt.str_int a t' b t
    | str b => obtain ⟨t, rfl⟩ := rx; exact SeqAt.EqAt.str_str a t' b t
    | _ => exact absurd (show false = true from fx) Bool.false_ne_true
  | _ => exact absurd (show false = true from fy) Bool.false_ne_true
/-- the items' answers, read off the values (a value's own answer does not lean on its token) -/
def eqU (x : V) (u : Value) : Bool := match u with
  | .none => eqV .non x
  | .bool b => eqV (.bl b) x
  | .int i _ => eqV (.int i) x
  | .str z _ => eqV (.str z) x
  | _ => false
theorem eqU_of {x y : V} {u : Value} (r : RelV y u) (f : flatV y = true) : eqU x u = eqV y x := by
  cases y with
  | non => cases r; rfl
  | bl b => cases r; rfl
  | int i => obtain ⟨t, rfl⟩ := r; rfl
  | str z => obtain ⟨t, rfl⟩ := r; rfl
  | _ => exact absurd (show false = true from f) Bool.false_ne_true
theorem any_eqU {x : V} : ∀ {xs : List V} {us : List Value}, Vals xs us → xs.all flatV = true → us.any (eqU x) = xs.any fun y => eqV y x
  | _, _, .nil, _ => rfl
  | y :: xs, u :: us, .cons r t, f => by
    rw [List.all_cons, Bool.and_eq_true] at f
    rw [List.any_cons, List.any_cons, eqU_of r f.1, any_eqU t f.2]
theorem mem_eqAt {A : Around} {s : Shared} {x : V} {v : Value} (rx : RelV x v) (fx : flatV x = true) : ∀ {xs : List V} {us : List Value}, Vals xs us → xs.all flatV = true → ∀ u ∈ us, SeqAt.EqAt A s u v (eqU x u)
  | _, _, .nil, _ => fun u hu => by cases hu
  | y :: xs, u :: us, .cons r t, f => fun u' hu => by
    rw [List.all_cons, Bool.and_eq_true] at f
    rcases List.mem_cons.mp hu with rfl | hu
    · rw [eqU_of r f.1]; exact eqAt_V r rx f.1 fx
    · exact mem_eqAt rx fx t f.2 u' hu
def inV (x : V) (xs : List V) : Bool := xs.any fun y => eqV y x
/-- x in a list or tuple of flat items -/
def rIn (K : PySem.W.Frag) (neg : Bool) : R2 := fun x y H Q => ∃ p xs, y = .ref p ∧ (SqL K H p xs ∨ SqT K H p xs) ∧ flatV x = true ∧ xs.all flatV = true ∧ Q (.bl (if neg then !inV x xs else inV x xs)) H
theorem op_in_seq : OpR X (compareOp .In) (rIn X.K false) := by
  intro pins s σ H x y v u Q I rx ry h
  obtain ⟨p, xs, rfl, hq, fx, fs, q⟩ := h
  cases ry
  rcases hq with hq | hq
  · obtain ⟨its, r, pl, hz⟩ := I.list hq
    refine SeqAt.in_listAt (eqU x) pl.isList (fun w hw => mem_eqAt rx fx r fs w (by simpa using hw)) ⟨.bl _, H, I, rfl, ?_⟩
    rw [show its.toArray.any (eqU x) = its.any (eqU x) by simp, any_eqU r fs]
    exact q
  · obtain ⟨its, r, pl, hz⟩ := I.tuple hq
    refine SeqAt.in_tupleAt (eqU x) pl (fun w hw => mem_eqAt rx fx r fs w (by simpa using hw)) ⟨.bl _, H, I, rfl, ?_⟩
    rw [show its.toArray.any (eqU x) = its.any (eqU x) by simp, any_eqU r fs]
    exact q
/-! ### len, list(x), tuple(x) of any list or tuple that is read -/
theorem call_len_seq : CallR X (.builtin "len") (fun xs H Q => ∃ p ys, xs = [.ref p] ∧ (SqL X.K H p ys ∨ SqT X.K H p ys) ∧ Q (.int ys.length) H) := by
  intro pins s σ H xs us Q I r h
  obtain ⟨p, ys, rfl, hq, q⟩ := h
  obtain ⟨u, rfl, rx⟩ := vals1 r
  cases rx
  have hn := line63
  rcases hq with hq | hq
  · obtain ⟨its, r', pl, hz⟩ := I.list hq
    have hlen := r'.length
    exact Calls.call_len_list pl.isList (by simp only [List.size_toArray] <;> omega) ⟨.int ys.length, H, I.tok _, ⟨s.toks + 1, by rw [List.size_toArray, hlen]⟩, q⟩
  · obtain ⟨its, r', pl, hz⟩ := I.tuple hq
    have hlen := r'.length
    exact len_tuple pl (by simp only [List.size_toArray] <;> omega) ⟨.int ys.length, H, I.tok _, ⟨s.toks + 1, by rw [List.size_toArray, hlen]⟩, q⟩
theorem call_list_of : CallR X (.type "list") (fun xs H Q => ∃ p ys, xs = [.ref p] ∧ (SqL X.K H p ys ∨ SqT X.K H p ys) ∧ ∀ l, H l = none → Q (.ref l) (upd H l (.lst ys))) := by
  intro pins s σ H xs us Q I r h
  obtain ⟨p, ys, rfl, hq, q⟩ := h
  obtain ⟨u, rfl, rx⟩ := vals1 r
  cases rx
  have fin : ∀ (its : List Value), Vals ys its → ys.length ≤ sizeLine → ∀ (h' : Heap) (c' : Nat), (∀ b o', s.heap.get? b = some o' → h'.get? b = some o') →
      h'.get? s.heap.objs.size = some { cls := .type "list", dict := none, data := .seq its.toArray c', slots := #[] } → EP X pins σ Q (.ref s.heap.objs.size) { s with heap := h' } := fun its r' hz h' c' kp e =>
    ⟨.ref s.heap.objs.size, _, I.laid (t' := s.toks) kp (Nat.le_refl _) (show ObjOk X.prog X.w _ h' _ (.lst ys) from ⟨hz, its, c', r', e⟩), rfl, q _ (I.hok.fresh (Nat.le_refl _))⟩
  rcases hq with hq | hq
  · obtain ⟨its, r', pl, hz⟩ := I.list hq
    have hlen := r'.length
    obtain ⟨o, ho, hc, n, hd⟩ := pl.isList
    exact call_list_seq p (.inl rfl) ho hc hd (fun h' c' kp e => fin its r' hz h' c' kp e) (by simp only [List.size_toArray] <;> omega)
  · obtain ⟨its, r', pl, hz⟩ := I.tuple hq
    have hlen := r'.length
    obtain ⟨o, ho, hc, n, hd⟩ := pl
    exact call_list_seq p (.inr rfl) ho hc hd (fun h' c' kp e => fin its r' hz h' c' kp e) (by simp only [List.size_toArray] <;> omega)
theorem call_tuple_of : CallR X (.type "tuple") (fun xs H Q => ∃ p ys, xs = [.ref p] ∧ ((SqL X.K H p ys ∧ ∀ l, H l = none → Q (.ref l) (upd H l (.tup ys))) ∨ (SqT X.K H p ys ∧ Q (.ref p) H))) := by
  intro pins s σ H xs us Q I r h
  obtain ⟨p, ys, rfl, h⟩ := h
  obtain ⟨u, rfl, rx⟩ := vals1 r
  cases rx
  rcases h with ⟨hq, q⟩ | ⟨hq, q⟩
  · obtain ⟨its, r', pl, hz⟩ := I.list hq
    have hlen := r'.length
    refine call_tuple_list pl.isList (fun h' kp => ?_) (by simp only [List.size_toArray] <;> omega)
    have I1 : Inv X pins σ H { s with heap := h' } := I.kept (t' := s.toks) kp
    have I2 : Inv X pins σ (upd H h'.objs.size (.tup ys)) { s with heap := h'.push { cls := .type "tuple", data := .seq its.toArray } } :=
      I1.laid (t' := s.toks) (fun b o e => Heap.get?_push_of_some _ e) (Nat.le_refl _) (show ObjOk X.prog X.w _ _ _ (.tup ys) from ⟨hz, its, r', IsTupN.new _ _⟩)
    exact ⟨.ref h'.objs.size, _, I2, rfl, q _ (I1.hok.fresh (Nat.le_refl _))⟩
  · obtain ⟨its, r', pl, hz⟩ := I.tuple hq
    exact call_tuple_same pl ⟨.ref p, H, I, rfl, q⟩

/-! ### the call of a builtin's method: o.m(..) -/
/-- the value is of that builtin type -/
def tyV (K : PySem.W.Frag) (T : String) (x : V) (H : Hp) : Prop := match x with
  | .str _ => T = "str"
  | .int _ => T = "int"
  | .ref p => (T = "list" ∧ ∃ xs, SqL K H p xs) ∨ (T = "tuple" ∧ ∃ o, K.lookup p = some o ∧ o.cls = .type "tuple" ∧ o.dict = none) ∨
      (T = "dict" ∧ ((∃ kvs, H p = some (.dK kvs)) ∨ ∃ kvs, H p = some (.dT kvs))) ∨ (T = "set" ∧ ∃ S n, H p = some (.set S n))
  | _ => False
theorem tyV_is {pins : List (Addr × Obj)} {σ : St} {H : Hp} {s : Shared} {T : String} {x : V} {v : Value} (I : Inv X pins σ H s) (r : RelV x v) (ty : tyV X.K T x H) :
    s.TypeIs v T ∧ ∀ a, v = .ref a → ∃ ob, s.heap.get? a = some ob ∧ ob.dict = none := by
  cases x with
  | str z =>
    obtain ⟨t, rfl⟩ := r
    cases (show T = "str" from ty)
    exact ⟨typeIs_str s z t, fun _ e => nomatch e⟩
  | int i =>
    obtain ⟨t, rfl⟩ := r
    cases (show T = "int" from ty)
    exact ⟨typeIs_int s i t, fun _ e => nomatch e⟩
  | ref p =>
    cases r
    rcases ty with ⟨rfl, xs, hq⟩ | ⟨rfl, o, hk, hc, hd⟩ | ⟨rfl, hk⟩ | ⟨rfl, S, n, hk⟩
    · obtain ⟨its, _, pl, _⟩ := I.list hq
      refine ⟨pl.isList.typeIs, fun a e => ?_⟩
      cases e
      obtain ⟨o, n, e, c, hd, _⟩ := pl
      exact ⟨o, e, hd⟩
    · refine ⟨⟨o, I.kIn p o hk, hc⟩, fun a e => ?_⟩
      cases e
      exact ⟨o, I.kIn _ o hk, hd⟩
    · have z : ∃ o, s.heap.get? p = some o ∧ o.ExactDict := by
        rcases hk with ⟨kvs, hk⟩ | ⟨kvs, hk⟩
        · obtain ⟨_, _, _, _, o, _, _, e, ex, _⟩ := I.hok p _ hk
          exact ⟨o, e, ex⟩
        · obtain ⟨_, _, _, _, o, _, _, e, ex, _⟩ := I.hok p _ hk
          exact ⟨o, e, ex⟩
      obtain ⟨o, e, ex⟩ := z
      refine ⟨⟨o, e, ex.1⟩, fun a e2 => ?_⟩
      cases e2
      exact ⟨o, e, ex.2.1⟩
    · obtain ⟨o, _, _, _, e, ex, _⟩ := I.hok p _ hk
      refine ⟨⟨o, e, ex.1⟩, fun a e2 => ?_⟩
      cases e2
      exact ⟨o, e, ex.2.1⟩
  | _ => exact False.elim ty
def tBM0 (K : PySem.W.Frag) (T : String) (r : V → List V → Hp → VK → Prop) (to : TE) : TE := fun σ H Q => to σ H fun x H1 => tyV K T x H1 ∧ r x [] H1 Q
def tBM (K : PySem.W.Frag) (T : String) (r : V → List V → Hp → VK → Prop) (to : TE) (t : TA) : TE := fun σ H Q => to σ H fun x H1 => tyV K T x H1 ∧ t σ H1 fun xs H2 => r x xs H2 Q
variable {o e : Expr} {es : List Expr} {to : TE} {t : TA} {name : Str} {apos cpos : Pos} {T id : String} {r : V → List V → Hp → VK → Prop}
theorem pe_bm0 (pa : PlainAttrs T) (slot : Slot T name id) (hty : typeOf (.builtin id) = pure (.type "method_descriptor")) (hm : MtR X id r) (ho : PE X o to)
    (hbase : attributeBase o name X.env (eval o X.env) = eval o X.env := by rfl) (hline : (apos.endLine == cpos.line) = true := by rfl) : PE X (.Call (.Attribute o name apos) [] [] cpos) (tBM0 X.K T r to) := by
  intro pins s σ H Q I h
  refine wpAny_Call_method0_late hbase hline (thn (ho pins s σ H _ I h) fun v s1 ⟨x, H1, I1, r1, ty, q1⟩ => ?_)
  obtain ⟨h1, h2⟩ := tyV_is I1 r1 ty
  exact ⟨T, id, pa, slot, hty, h1, h2, Calls.callWith_builtin rfl (PySem.evalArgs_none (hm pins s1 σ H1 x [] v [] Q I1 r1 .nil q1))⟩
theorem pe_bm (pa : PlainAttrs T) (slot : Slot T name id) (hty : typeOf (.builtin id) = pure (.type "method_descriptor")) (hm : MtR X id r) (ho : PE X o to) (ha : PA X (e :: es) t)
    (hbase : attributeBase o name X.env (eval o X.env) = eval o X.env := by rfl)
    (hfew : ((backTo cpos (starEach (e :: es) X.env)).all (fun x => !x.1) && (backToKw cpos (keywordEach [] X.env)).all (fun x => x.1.isSome)
      && decide ((e :: es).length + ([] : List Keyword).length + (if ([] : List Keyword).isEmpty then 0 else 1) < 30)) = true := by rfl)
    (hline : (apos.endLine == cpos.line) = true := by rfl) (hs : starEach (e :: es) X.env = (false, eval e X.env) :: starEach es X.env := by rfl) (hplain : (backTo cpos (starEach es X.env)).any (·.1) = false := by rfl) :
    PE X (.Call (.Attribute o name apos) (e :: es) [] cpos) (tBM X.K T r to t) := by
  intro pins s σ H Q I h
  refine wpAny_Call_method_late hbase hfew hline rfl (thn (ho pins s σ H _ I h) fun v s1 ⟨x, H1, I1, r1, ty, q1⟩ => ?_)
  obtain ⟨h1, h2⟩ := tyV_is I1 r1 ty
  refine ⟨T, id, pa, slot, hty, h1, h2, ?_⟩
  have hA := ha cpos pins s1 σ H1 _ I1 q1
  rw [hs] at hA ⊢
  refine Calls.callWith_builtin (by show (false || (backTo cpos (starEach es X.env)).any (·.1)) = false; rw [hplain] <;> rfl) (Calls.evalArgs_plain ?_)
  exact thn hA fun us s2 ⟨vs, H2, I2, r2, q2⟩ => hm pins s2 σ H2 x vs v us Q I2 r1 r2 q2
/- xs.append(e), list.index on a module's tuple .. are MtR facts of 06m -/
end
end L2

namespace L2
open PySem PySem.Spec PyProof.Rows

def MtM (X : Cx) (id : String) (r : V → List V → Hp → VK → Prop) : Prop :=
  ∀ (pins : List (Addr × Obj)) (s : Shared) (σ : St) (H : Hp) (x : V) (xs : List V) (v : Value) (us : List Value) (Q : VK), Inv X pins σ H s → RelV x v → Vals xs us → r x xs H Q →
    wpAny (model X.prog X.w) X.A (call (.builtin id) (v :: us)) (EP X pins σ Q) X.xe s

/-! ### lists of values -/
theorem Vals.one : ∀ {x : V} {us : List Value}, Vals [x] us → ∃ u, us = [u] ∧ RelV x u
  | _, _, .cons r .nil => ⟨_, rfl, r⟩
theorem Vals.zero : ∀ {us : List Value}, Vals [] us → us = []
  | _, .nil => rfl
theorem Vals.rep {xs : List V} {us : List Value} (h : Vals xs us) : ∀ k : Nat, Vals (List.replicate k xs).flatten (List.replicate k us).flatten
  | 0 => .nil
  | k + 1 => by
    rw [List.replicate_succ, List.replicate_succ, List.flatten_cons, List.flatten_cons]
    exact Vals.append h (Vals.rep h k)
theorem foldl_rep (its : List Value) : ∀ (k : Nat) (acc : List Value),
    List.foldl (fun x1 x2 => x1 ++ x2) acc.toArray (List.replicate k its.toArray) = (acc ++ (List.replicate k its).flatten).toArray
  | 0, acc => by simp
  | k + 1, acc => by
    have e : acc.toArray ++ its.toArray = (acc ++ its).toArray := by simp
    have e2 : (acc ++ its) ++ (List.replicate k its).flatten = acc ++ (List.replicate (k + 1) its).flatten := by
      rw [List.replicate_succ, List.flatten_cons, List.append_assoc]
    rw [← e2, ← foldl_rep its k (acc ++ its), ← e, List.replicate_succ, List.foldl_cons]

section
variable {X : Cx} {pins : List (Addr × Obj)} {σ : St} {H : Hp} {s : Shared} {l b : Addr} {xs ys zs : List V}

/-! ### the two steps: a tracked list is rewritten, a new list is laid -/
theorem Inv.lset {its its' : List Value} {n : Nat} {f : Array Value → Array Value} {t' : Nat} (I : Inv X pins σ H s) (hH : H l = some (.lst xs))
    (e : s.heap.get? l = some { cls := .type "list", data := .seq its.toArray n }) (hf : f its.toArray = its'.toArray) (hv : Vals ys its') (hz : ys.length ≤ sizeLine) :
    Inv X pins σ (upd H l (.lst ys)) { s with heap := s.heap.update l (Obj.mapSeq f), toks := t' } := by
  have q := PySem.IsL.update e f
  rw [hf] at q
  refine I.write (x := l) (e := l) (by rw [hH]; exact trivial) (.inl rfl) (fun b' u hb hu => (Heap.get?_update_other s.heap (Obj.mapSeq f) (Ne.symm hb)).trans hu) ⟨_, q⟩ ?_
  exact ⟨hz, its', _, hv, q⟩
theorem Inv.lnew {its : List Value} {t' : Nat} (I : Inv X pins σ H s) (hv : Vals ys its) (hz : ys.length ≤ sizeLine) :
    Inv X pins σ (upd H s.heap.objs.size (.lst ys)) { s with heap := s.heap.push { cls := .type "list", data := .seq its.toArray }, toks := t' } :=
  I.laid (fun _ _ q => Heap.get?_push_of_some _ q) (Nat.le_refl _) ⟨hz, its, 0, hv, Heap.get?_push_size _ rfl⟩
theorem Inv.fresh (I : Inv X pins σ H s) : H s.heap.objs.size = none := I.hok.fresh (Nat.le_refl _)
theorem Inv.lstM (I : Inv X pins σ H s) (hH : H l = some (.lst xs)) : xs.length ≤ sizeLine ∧ ∃ (its : List Value) (n : Nat), Vals xs its ∧ xs.length = its.length ∧ s.heap.get? l = some { cls := .type "list", data := .seq its.toArray n } := by
  obtain ⟨z, its, n, r, e⟩ := I.hok l _ hH
  exact ⟨z, its, n, r, r.length, e⟩

theorem notLongL {n : Nat} (h : n ≤ sizeLine) : Builtin.List.listTooLong n = false := by
  unfold Builtin.List.listTooLong
  exact decide_eq_false (by omega)
end

section
variable {X : Cx}

/-! ### methods -/
def rAppend : V → List V → Hp → VK → Prop := fun x vs H Q => ∃ l xs y, x = .ref l ∧ vs = [y] ∧ H l = some (.lst xs) ∧ xs.length < sizeLine ∧ Q .non (upd H l (.lst (xs ++ [y])))
theorem mt_append : MtM X "list.append" rAppend := by
  intro pins s σ H x vs v us Q I rx rv h
  obtain ⟨l, xs, y, rfl, rfl, hH, hz, q⟩ := h
  cases rx
  obtain ⟨u, rfl, ru⟩ := rv.one
  obtain ⟨z, its, n, r, hl, e⟩ := I.lstM hH
  refine call_meets F.slot_list_append ⟨_, e, rfl⟩ F.entry_list_append (F.args_list_append_2 _ _) (PySem.list_append l its.toArray n u (by rw [List.size_toArray]; omega)) ⟨e, ?_⟩
  refine ⟨.non, _, I.lset (its' := its ++ [u]) hH e (by simp) (r.append (.cons ru .nil)) ?_, rfl, q⟩
  rw [List.length_append, List.length_singleton]
  omega

def rClear : V → List V → Hp → VK → Prop := fun x vs H Q => ∃ l xs, x = .ref l ∧ vs = [] ∧ H l = some (.lst xs) ∧ Q .non (upd H l (.lst []))
theorem mt_clear : MtM X "list.clear" rClear := by
  intro pins s σ H x vs v us Q I rx rv h
  obtain ⟨l, xs, rfl, rfl, hH, q⟩ := h
  cases rx
  have hus := rv.zero
  subst hus
  obtain ⟨z, its, n, r, hl, e⟩ := I.lstM hH
  refine call_meets F.slot_list_clear ⟨_, e, rfl⟩ F.entry_list_clear (F.args_list_clear_1 _) (AutoSeq1.list_clear_list_0 l its.toArray n (by rw [List.size_toArray]; omega)) ⟨e, ?_⟩
  exact ⟨.non, _, I.lset (its' := []) (ys := []) hH e rfl .nil (Nat.zero_le _), rfl, q⟩

/-! ### list + list, list += list, list * int -/
def rCat : R2 := fun x y H Q => ∃ l b xs zs, x = .ref l ∧ y = .ref b ∧ H l = some (.lst xs) ∧ H b = some (.lst zs) ∧ xs.length + zs.length ≤ sizeLine ∧ ∀ p, H p = none → Q (.ref p) (upd H p (.lst (xs ++ zs)))
theorem op_cat : OpR X (binaryOp .Add) rCat := by
  intro pins s σ H x y v u Q I rx ry h
  obtain ⟨l, b, xs, zs, rfl, rfl, hH, hB, hz, q⟩ := h
  cases rx
  cases ry
  obtain ⟨z, its, n, r, hl, e⟩ := I.lstM hH
  obtain ⟨z2, its2, n2, r2, hl2, e2⟩ := I.lstM hB
  refine PySem.P.add_list e e2 ?_ (by rw [List.size_toArray, List.size_toArray]; omega)
  have ea : its.toArray ++ its2.toArray = (its ++ its2).toArray := by simp
  rw [ea]
  exact ⟨.ref _, _, I.lnew (t' := s.toks) (r.append r2) (by rw [List.length_append]; omega), rfl, q _ I.fresh⟩
/-- a list times an int (a negative one is nothing) -/
def rRep : R2 := fun x y H Q => ∃ l k xs, x = .ref l ∧ y = .int k ∧ H l = some (.lst xs) ∧ -(2 ^ 63) ≤ k ∧ k < 2 ^ 63 ∧ xs.length * k.toNat ≤ sizeLine ∧
  ∀ p, H p = none → Q (.ref p) (upd H p (.lst (List.replicate k.toNat xs).flatten))
theorem len_rep {α : Type} (xs : List α) (k : Nat) : (List.replicate k xs).flatten.length = k * xs.length := by
  induction k with
  | zero => simp
  | succ k ih => rw [List.replicate_succ, List.flatten_cons, List.length_append, ih, Nat.succ_mul, Nat.add_comm]
theorem op_rep : OpR X (binaryOp .Mult) rRep := by
  intro pins s σ H x y v u Q I rx ry h
  obtain ⟨l, k, xs, rfl, rfl, hH, h1, h2, hz, q⟩ := h
  cases rx
  obtain ⟨t, rfl⟩ := ry
  obtain ⟨z, its, n, r, hl, e⟩ := I.lstM hH
  have hlen : its.toArray.size * k.toNat ≤ sizeLine := by rw [List.size_toArray, ← hl]; exact hz
  have hcap : ¬ its.toArray.size * k.toNat > (2 ^ 63 - 1) / 8 := by
    have : (sizeLine : Nat) ≤ (2 ^ 63 - 1) / 8 := by decide
    omega
  have hfit : ¬ (!Builtin.List.listFitsIndex k) = true := by
    rw [fitsIndex_both h1 h2]
    exact Bool.false_ne_true
  have hlong : ¬ Builtin.List.listTooLong (its.toArray.size * k.toNat) = true := by
    rw [notLongL hlen]
    exact Bool.false_ne_true
  have hnew : List.foldl (fun x1 x2 => x1 ++ x2) #[] (List.replicate (if its.toArray.isEmpty = true then 0 else k.toNat) its.toArray) = (List.replicate k.toNat its).flatten.toArray := by
    have f0 : ∀ m : Nat, List.foldl (fun x1 x2 => x1 ++ x2) #[] (List.replicate m its.toArray) = (List.replicate m its).flatten.toArray := fun m => by
      have := foldl_rep its m []
      rw [List.nil_append] at this
      exact this
    rw [f0]
    cases its with
    | nil => simp
    | cons a r' => rw [if_neg (by simp)]
  refine wpAny_binaryOp_repeat_ref (T := "list") (U := "int") (by decide) ⟨_, e, rfl⟩ (fun s' => typeIs_int s' k t) noFill_list_mul F.fills_int_mul F.slot_int_rmul repeat_list F.slot_int_index.lookup
    (call_meets F.slot_int_rmul (typeIs_int s k t) F.entry_int_rmul (F.args_int_rmul_2 _ _) (int___rmul___int_list k t l its.toArray n)
      ⟨e, rfl, ⟨_, e, rfl⟩, call_meets F.slot_list_mul ⟨_, e, rfl⟩ F.entry_list_mul (F.args_list_mul_2 _ _) (AutoListH.list___mul___list_int_3 l its.toArray n k t hfit hcap hlong) ⟨e, ?_⟩⟩)
  rw [hnew]
  exact ⟨.ref _, _, I.lnew (t' := s.toks) (r.rep k.toNat) (by rw [len_rep, Nat.mul_comm]; exact hz), rfl, q _ I.fresh⟩

/-! ### del xs[i] -/
end

/-! ### xs[a:b] = ys -/
section
variable {prog : Program} {w : World} {A : Around} {E : Value → Shared → Prop} {s : Shared}
end

section
variable {X : Cx}
end
end L2
namespace L2
open PySem PySem.Spec PyProof.Rows

/-! ### lists of pairs as tables -/
section
variable {κ : Type} [DecidableEq κ]
def valV (kvs : List (κ × V)) (k : κ) : Option V := (kvs.find? fun kv => decide (kv.1 = k)).map (·.2)
/-- in its place, or at the end -/
def putK (kvs : List (κ × V)) (k : κ) (v : V) : List (κ × V) :=
  if (kvs.any fun kv => decide (kv.1 = k)) = true then kvs.map (fun kv => if kv.1 = k then (kv.1, v) else kv) else kvs ++ [(k, v)]
theorem valV_pos {p : κ × V} {r : List (κ × V)} {k : κ} (e : p.1 = k) : valV (p :: r) k = some p.2 := by simp [valV, List.find?_cons, e]
theorem valV_neg {p : κ × V} {r : List (κ × V)} {k : κ} (e : ¬ p.1 = k) : valV (p :: r) k = valV r k := by simp [valV, List.find?_cons, e]
theorem valV_any (k : κ) : ∀ kvs : List (κ × V), (kvs.any fun kv => decide (kv.1 = k)) = (valV kvs k).isSome
  | [] => rfl
  | p :: r => by
    rw [List.any_cons]
    by_cases e : p.1 = k
    · simp only [valV_pos e, decide_eq_true e, Bool.true_or, Option.isSome_some]
    · rw [valV_neg e, decide_eq_false e, Bool.false_or]; exact valV_any k r
theorem length_putK (kvs : List (κ × V)) (k : κ) (v : V) : (putK kvs k v).length ≤ kvs.length + 1 := by
  unfold putK
  split
  · rw [List.length_map]; omega
  · rw [List.length_append, List.length_cons, List.length_nil]; omega
theorem RelO.isSome_eq {o : Option V} {u : Option Value} (r : RelO o u) : o.isSome = u.isSome := by
  cases o with
  | none => cases u with
    | none => rfl
    | some _ => exact (show False from r).elim
  | some _ => cases u with
    | none => exact (show False from r).elim
    | some _ => rfl
theorem RelO.getD {o : Option V} {u : Option Value} {d : V} {d' : Value} (r : RelO o u) (rd : RelV d d') : RelV (o.getD d) (u.getD d') := by
  cases o with
  | none => cases u with
    | none => exact rd
    | some _ => exact (show False from r).elim
  | some _ => cases u with
    | none => exact (show False from r).elim
    | some _ => exact r

/-- raw tables of the same keys -/
theorem KV.val {kvs : List (κ × V)} {vs : List (κ × Value)} (r : KV kvs vs) (k : κ) : RelO (valV kvs k) (valueAt vs k) := by
  unfold KV at r
  induction r with
  | nil => exact True.intro
  | @cons p q ps qs h t ih =>
    obtain ⟨h1, h2⟩ := h
    by_cases e : p.1 = k
    · have e' : q.1 = k := h1.symm.trans e
      have b : valueAt (q :: qs) k = some q.2 := by simp [valueAt, List.find?_cons, e']
      rw [valV_pos e, b]; exact h2
    · have e' : ¬ q.1 = k := fun z => e (h1.trans z)
      have b : valueAt (q :: qs) k = valueAt qs k := by simp [valueAt, List.find?_cons, e']
      rw [valV_neg e, b]; exact ih
theorem KV.any {kvs : List (κ × V)} {vs : List (κ × Value)} (r : KV kvs vs) (k : κ) : (kvs.any fun kv => decide (kv.1 = k)) = vs.any fun kv => decide (kv.1 = k) := by
  unfold KV at r
  induction r with
  | nil => rfl
  | cons h t ih => rw [List.any_cons, List.any_cons, ih, h.1]
theorem KV.repl {kvs : List (κ × V)} {vs : List (κ × Value)} (r : KV kvs vs) (k : κ) {y : V} {u : Value} (ry : RelV y u) :
    KV (kvs.map fun kv => if kv.1 = k then (kv.1, y) else kv) (vs.map fun kv => if kv.1 = k then (kv.1, u) else kv) := by
  unfold KV at r ⊢
  induction r with
  | nil => exact .nil
  | @cons p q ps qs h t ih =>
    rw [List.map_cons, List.map_cons]
    refine .cons ?_ ih
    obtain ⟨h1, h2⟩ := h
    by_cases e : p.1 = k
    · rw [if_pos e, if_pos (h1.symm.trans e)]; exact ⟨h1, ry⟩
    · rw [if_neg e, if_neg (fun z => e (h1.trans z))]; exact ⟨h1, h2⟩
theorem KV.put {kvs : List (κ × V)} {vs : List (κ × Value)} (r : KV kvs vs) (k : κ) {y : V} {u : Value} (ry : RelV y u) : KV (putK kvs k y) (stored vs k u) := by
  unfold putK stored
  rw [r.any k]
  by_cases e : (vs.any fun kv => decide (kv.1 = k)) = true
  · rw [if_pos e, if_pos e]; exact r.repl k ry
  · rw [if_neg e, if_neg e]; exact Paired.snoc r ⟨rfl, ry⟩
theorem KV.length {kvs : List (κ × V)} {vs : List (κ × Value)} (r : KV kvs vs) : kvs.length = vs.length := Paired.length r
end


/-! ### a tracked dict, its keys ints and texts or tuples of these -/
theorem kV_is {P : Program} {w : World} {k : Key} {u : Value} (r : RelV (kV k) u) : (mixKind P w).is k u = true := by
  cases k with
  | inl i => obtain ⟨t, e⟩ := (show ∃ t, u = Value.int i t from r); subst e; exact mixKind_int P w i t
  | inr x => obtain ⟨t, e⟩ := (show ∃ t, u = Value.str x t from r); subst e; exact mixKind_str P w x t
theorem items_are {P : Program} {w : World} : ∀ {ks : List Key} {us : List Value}, Vals (ks.map kV) us → ItemsAre (mixKind P w) ks us
  | [], _, r => by rw [List.map_nil] at r; cases r; exact .nil
  | k :: ks, _, r => by
    rw [List.map_cons] at r
    cases r with
    | cons h t => exact .cons (kV_is h) (items_are t)

/-- raw entries of a dict with tuple keys -/
abbrev KT (H : Hp) : List (List Key × V) → List (List Key × Addr × Value) → Prop := Paired fun p q => p.1 = q.1 ∧ H q.2.1 = some (.tup (p.1.map kV)) ∧ RelV p.2 q.2.2
theorem KT.val {H : Hp} {kvs : List (List Key × V)} {xs : List (List Key × Addr × Value)} (r : KT H kvs xs) (k : List Key) : RelO (valV kvs k) ((atKey xs k).map (·.2)) := by
  induction r with
  | nil => exact True.intro
  | @cons p q ps qs h t ih =>
    obtain ⟨h1, _, h2⟩ := h
    by_cases e : p.1 = k
    · have e' : q.1 = k := h1.symm.trans e
      have b : atKey (q :: qs) k = some q.2 := by simp [atKey, List.find?_cons, e']
      rw [valV_pos e, b]; exact h2
    · have e' : ¬ q.1 = k := fun z => e (h1.trans z)
      have b : atKey (q :: qs) k = atKey qs k := by simp [atKey, List.find?_cons, e']
      rw [valV_neg e, b]; exact ih
theorem KT.repl {H : Hp} {kvs : List (List Key × V)} {xs : List (List Key × Addr × Value)} (r : KT H kvs xs) (k : List Key) {y : V} {u : Value} (ry : RelV y u) :
    KT H (kvs.map fun kv => if kv.1 = k then (kv.1, y) else kv) (xs.map (putAt k u)) := by
  induction r with
  | nil => exact .nil
  | @cons p q ps qs h t ih =>
    rw [List.map_cons, List.map_cons]
    refine .cons ?_ ih
    obtain ⟨h1, h2, h3⟩ := h
    unfold putAt
    by_cases e : p.1 = k
    · rw [if_pos e, if_pos (h1.symm.trans e)]; exact ⟨h1, h2, ry⟩
    · rw [if_neg e, if_neg (fun z => e (h1.trans z))]; exact ⟨h1, h2, h3⟩
theorem KT.put {H : Hp} {kvs : List (List Key × V)} {xs : List (List Key × Addr × Value)} (r : KT H kvs xs) (k : List Key) {b : Addr} {y : V} {u : Value} (hb : H b = some (.tup (k.map kV))) (ry : RelV y u) :
    KT H (putK kvs k y) (storedH xs k b u) := by
  have e : (kvs.any fun kv => decide (kv.1 = k)) = (atKey xs k).isSome := by
    rw [valV_any, (r.val k).isSome_eq, Option.isSome_map]
  unfold putK storedH
  rw [e]
  by_cases q : (atKey xs k).isSome = true
  · rw [if_pos q, if_pos q]; exact r.repl k ry
  · rw [if_neg q, if_neg q]; exact Paired.snoc r ⟨rfl, hb, ry⟩
theorem KT.keeps {H H' : Hp} {kvs : List (List Key × V)} {xs : List (List Key × Addr × Value)} (r : KT H kvs xs) (ht : ∀ b ys, H b = some (.tup ys) → H' b = some (.tup ys)) : KT H' kvs xs :=
  Paired.mapP r fun _ _ z => ⟨z.1, ht _ _ z.2.1, z.2.2⟩

section
variable {P : Program} {w : World} {H : Hp} {h : Heap} {a : Addr}
theorem rd_of {u : HO} (ok : HOk P w H h) (e : Rd H a u) : ObjOk P w H h a u := e.ok ok
theorem dk_rd {kvs : List (Key × V)} (ok : HOk P w H h) (e : Rd H a (.dK kvs)) : kvs.length ≤ sizeLine ∧ (a == sysModules) = false ∧ ∃ vs, KV kvs vs ∧ h.DictOf (mixKind P w) a vs :=
  show ObjOk P w H h a (.dK kvs) from rd_of ok e
theorem dk_of {kvs : List (Key × V)} (ok : HOk P w H h) (e : H a = some (.dK kvs)) : kvs.length ≤ sizeLine ∧ (a == sysModules) = false ∧ ∃ vs, KV kvs vs ∧ h.DictOf (mixKind P w) a vs := dk_rd ok (.inl e)
/-- a tracked tuple of ints and texts is a key -/
theorem key_of {ks : List Key} (ok : HOk P w H h) (e : H a = some (.tup (ks.map kV))) : (tupleKind (mixKind P w)).is h ks a := by
  obtain ⟨_, its, r, o, h1, h2, n, h3, _⟩ := (show ObjOk P w H h a (.tup (ks.map kV)) from ok a _ e)
  exact ⟨o, its.toArray, n, h1, h2, h3, by simpa using items_are r⟩
theorem dt_rd {kvs : List (List Key × V)} (ok : HOk P w H h) (e : Rd H a (.dT kvs)) : kvs.length ≤ sizeLine ∧ (a == sysModules) = false ∧
    ∃ xs, KT H kvs xs ∧ h.DictOfH (tupleKind (mixKind P w)) a xs := by
  obtain ⟨z, y, xs, r, o, es, ep, h1, h2, h3, h4, h5⟩ := (show ObjOk P w H h a (.dT kvs) from rd_of ok e)
  refine ⟨z, y, xs, r, o, es, ep, h1, h2, h3, h4, fun x hx => ?_, h5⟩
  have all : ∀ {l : List (List Key × V)} {m : List (List Key × Addr × Value)}, KT H l m → ∀ x ∈ m, (tupleKind (mixKind P w)).is h x.1 x.2.1 := by
    intro l m q
    induction q with
    | nil => intro x hx; exact nomatch hx
    | @cons p q ps qs hq t ih =>
      intro x hx
      rcases List.mem_cons.mp hx with e | hx
      · subst e
        exact key_of ok (by rw [← hq.1]; exact hq.2.1)
      · exact ih x hx
  exact all r x hx
theorem dt_of {kvs : List (List Key × V)} (ok : HOk P w H h) (e : H a = some (.dT kvs)) : kvs.length ≤ sizeLine ∧ (a == sysModules) = false ∧
    ∃ xs, KT H kvs xs ∧ h.DictOfH (tupleKind (mixKind P w)) a xs := dt_rd ok (.inl e)
end

/-- what the dict at a holds at the key y -/
def DGet (H : Hp) (a : Addr) (y : V) (r : Option V) : Prop :=
  (∃ kvs k, Rd H a (.dK kvs) ∧ y = kV k ∧ r = valV kvs k) ∨ ∃ kvs k b, Rd H a (.dT kvs) ∧ y = .ref b ∧ H b = some (.tup (k.map kV)) ∧ r = valV kvs k
/-- the heap behind a[y] = v -/
def DPut (H : Hp) (a : Addr) (y v : V) (H' : Hp) : Prop :=
  (∃ kvs k, H a = some (.dK kvs) ∧ y = kV k ∧ kvs.length < sizeLine ∧ H' = upd H a (.dK (putK kvs k v))) ∨
  ∃ kvs k b, H a = some (.dT kvs) ∧ y = .ref b ∧ H b = some (.tup (k.map kV)) ∧ kvs.length < sizeLine ∧ H' = upd H a (.dT (putK kvs k v))
theorem DGet.k {H : Hp} {a : Addr} {kvs : List (Key × V)} {k : Key} (e : H a = some (.dK kvs)) : DGet H a (kV k) (valV kvs k) := .inl ⟨kvs, k, .inl e, rfl, rfl⟩
theorem DGet.t {H : Hp} {a b : Addr} {kvs : List (List Key × V)} {k : List Key} (e : H a = some (.dT kvs)) (eb : H b = some (.tup (k.map kV))) : DGet H a (.ref b) (valV kvs k) := .inr ⟨kvs, k, b, .inl e, rfl, eb, rfl⟩
theorem DPut.k {H : Hp} {a : Addr} {kvs : List (Key × V)} {k : Key} {v : V} (e : H a = some (.dK kvs)) (hl : kvs.length < sizeLine) : DPut H a (kV k) v (upd H a (.dK (putK kvs k v))) := .inl ⟨kvs, k, e, rfl, hl, rfl⟩
theorem DPut.t {H : Hp} {a b : Addr} {kvs : List (List Key × V)} {k : List Key} {v : V} (e : H a = some (.dT kvs)) (eb : H b = some (.tup (k.map kV))) (hl : kvs.length < sizeLine) :
    DPut H a (.ref b) v (upd H a (.dT (putK kvs k v))) := .inr ⟨kvs, k, b, e, rfl, eb, hl, rfl⟩


section
variable {X : Cx} {pins : List (Addr × Obj)} {σ : St} {H : Hp} {s : Shared} {a : Addr} {y v : V} {u r : Value} {o : Option V} {A : Around} {E : Value → Shared → Prop}

theorem Inv.big (I : Inv X pins σ H s) : sysModules < s.heap.objs.size := by
  have h : mainGlobals < s.heap.objs.size := (I.mod.glob.keeps I.bk).lt
  exact Nat.lt_trans (by decide) h

/-- d[y], there -/
theorem d_getItem {Q : Value → Shared → Prop} (hu : A.units + 1 < cLine) (I : Inv X pins σ H s) (g : DGet H a y (some v)) (ry : RelV y u) (h : ∀ w' s', Inv X pins σ H s' → RelV v w' → Q w' s') :
    wpAny (model X.prog X.w) A (getItem (.ref a) u) Q E s := by
  rcases g with ⟨kvs, k, e, ey, l⟩ | ⟨kvs, k, b, e, ey, eb, l⟩
  · subst ey
    obtain ⟨z, hd, vs, rel, dd⟩ := dk_rd I.hok e
    obtain ⟨w', hw, rw'⟩ := RelO.some_of (v := v) (o := valueAt vs k) (by rw [l]; exact rel.val k)
    exact wpAny_getItem_of (kV_is ry) dd.mapOf hw (h w' _ (I.tok _) rw')
  · subst ey
    cases (show u = Value.ref b from ry)
    obtain ⟨z, hd, xs, rel, dd⟩ := dt_rd I.hok e
    obtain ⟨w', hw, rw'⟩ := RelO.some_of (v := v) (o := (atKey xs k).map (·.2)) (by rw [l]; exact rel.val k)
    obtain ⟨p, hp, hp2⟩ := Option.map_eq_some_iff.mp hw
    refine wpAny_getItem_heap (tupleKind_room_in1 hu) (key_of I.hok eb) dd hp ?_
    rw [hp2]
    exact h w' _ (I.tok _) rw'
/-- a dict's object is replaced -/
theorem d_write {h' : Heap} {t' : Nat} {ob : HO} (I : Inv X pins σ H s) (mu : Mut (H a)) (hs : Heap.SameBut a s.heap h') (he : ∃ q, h'.get? a = some q) (new : ObjOk X.prog X.w (upd H a ob) h' a ob) :
    Inv X pins σ (upd H a ob) { s with heap := h', toks := t' } :=
  I.write (x := a) (e := a) mu (.inl rfl) (fun b q hb z => (hs.2 b hb).trans z) he new
theorem dk_new {P : Program} {w : World} {H' : Hp} {h' : Heap} {kvs : List (Key × V)} {vs : List (Key × Value)} (z : kvs.length ≤ sizeLine) (hd : (a == sysModules) = false) (rel : KV kvs vs) (dd : h'.DictOf (mixKind P w) a vs) :
    ObjOk P w H' h' a (.dK kvs) := ⟨z, hd, vs, rel, dd⟩
/-- d[y] = v -/
theorem d_setItem {H' : Hp} {Q : Unit → Shared → Prop} (hu : A.units + 1 < cLine) (I : Inv X pins σ H s) (g : DPut H a y v H') (ry : RelV y u) (rv : RelV v r) (h : ∀ s', Inv X pins σ H' s' → Q () s') :
    wpAny (model X.prog X.w) A (setItem (.ref a) u r) Q E s := by
  rcases g with ⟨kvs, k, e, ey, l, eH⟩ | ⟨kvs, k, b, e, ey, eb, l, eH⟩
  · subst ey eH
    obtain ⟨z, hd, vs, rel, dd⟩ := dk_of I.hok e
    have hz : vs.length ≤ sizeLine := by rw [← rel.length]; exact z
    have hl : (putK kvs k v).length ≤ sizeLine := by have := length_putK kvs k v; omega
    refine wpAny_setItem_pairs (hsz := hz) (kV_is ry) dd fun h' dd' hs => h _ ?_
    have he : ∃ q, h'.get? a = some q := let ⟨q, _, _, hq, _⟩ := dd'; ⟨q, hq⟩
    exact d_write I (by rw [e]; exact True.intro) hs he (dk_new hl hd (rel.put k rv) dd')
  · subst ey eH
    cases (show u = Value.ref b from ry)
    obtain ⟨z, hd, xs, rel, dd⟩ := dt_of I.hok e
    have hz : xs.length ≤ sizeLine := by rw [← Paired.length rel]; exact z
    have hl : (putK kvs k v).length ≤ sizeLine := by have := length_putK kvs k v; omega
    refine wpAny_setItem_heap (hsz := hz) (tupleKind_room_in1 hu) (key_of I.hok eb) dd fun h' dd' hs => h _ ?_
    obtain ⟨q, es, ep, hq, h2, h3, h4, _, h5⟩ := dd'
    refine d_write I (by rw [e]; exact True.intro) hs ⟨q, hq⟩ ⟨hl, hd, _, (rel.put k eb rv).keeps fun c ys ec => ?_, q, es, ep, hq, h2, h3, h4, h5⟩
    rw [upd_ne (ne_of ec e (fun z => nomatch z))]
    exact ec
end

section
variable {X : Cx} {pins : List (Addr × Obj)} {σ : St} {H : Hp} {s : Shared} {a : Addr} {kvs : List (Key × V)} {k : Key} {u : Value} {A : Around} {E : Value → Shared → Prop}
end


/-! ### readings and rules -/
/-- the element of a subscription, not a slice -/
def NoSl (i : Expr) : Prop := ∀ ov iv, subscripted i false ov iv = operate [ov, iv] (getItem ov iv)
theorem subD_of {prog : Program} {w : World} {A : Around} {E : Value → Shared → Prop} {s : Shared} {env : Env} {value slice : Expr} {pos : Pos} {T id : String} {Q : Value → Shared → Prop}
    (hl : typeLookup (.type T) "__getitem__" = pure (some (.builtin id))) (hs : NoSl slice)
    (h : wpAny (model prog w) A (eval value env) (fun o s₁ => wpAny (model prog w) A (eval slice env) (fun i s₂ => s₂.TypeIs o T ∧ wpAny (model prog w) A (getItem o i) Q E s₂) E s₁) E s) :
    wpAny (model prog w) A (eval (.Subscript value slice pos) env) Q E s := by
  refine Subscript_ (wpAny_mono h (fun o s₁ h₁ => wpAny_mono h₁ (fun i s₂ h₂ => ?_) fun _ _ x => x) fun _ _ x => x)
  obtain ⟨hT, h₂⟩ := h₂
  unfold subscriptTail
  refine wpAny_bind ?_
  rw [getitemInPython_of_ne hT.not_modules]
  refine wpAny_bind (wpAny_specialOf hT hl ?_)
  have fin : wpAny (model prog w) A (subscripted slice false o i) (fun r s₃ => wpAny (model prog w) A (letTemporaryGo value o r >>= fun _ => pure r) Q E s₃) E s₂ := by
    rw [hs o i]
    exact wpAny_operating (wpAny_mono h₂ (fun r s₃ h₃ => wpAny_bind (wpAny_letTemporaryGo (wpAny_pure h₃))) fun _ _ x => x)
  first
    | exact wpAny_pure (wpAny_bind fin)
    | exact wpAny_bind (wpAny_pure (wpAny_bind fin))
    | exact wpAny_bind fin

theorem dict_typeIs {X : Cx} {pins : List (Addr × Obj)} {σ : St} {H : Hp} {s : Shared} {a : Addr} {y : V} {o : Option V} (I : Inv X pins σ H s) (g : DGet H a y o) : s.TypeIs (.ref a) "dict" := by
  rcases g with ⟨kvs, k, e, _, _⟩ | ⟨kvs, k, b, e, _, _, _⟩
  · obtain ⟨_, _, vs, _, dd⟩ := dk_rd I.hok e
    exact dd.typeIs
  · obtain ⟨_, _, xs, _, dd⟩ := dt_rd I.hok e
    exact dd.typeIs
/-- d[y] -/
def tDGet (td ty : TE) : TE := fun σ H Q => td σ H fun x H1 => ty σ H1 fun y H2 => ∃ a v, x = .ref a ∧ DGet H2 a y (some v) ∧ Q v H2
/-- d[y] = v -/
def sDPut (td ty tv : TE) : TS := fun D σ H => tv σ H fun v H1 => td σ H1 fun x H2 => ty σ H2 fun y H3 => ∃ a H4, x = .ref a ∧ DPut H3 a y v H4 ∧ D.nx σ H4
section
variable {X : Cx} {o i e value : Expr} {pos pos' tpos : Pos} {td ty tv : TE}
theorem pe_dget (hu : X.A.units + 1 < cLine) (ho : PE X o td) (hi : PE X i ty) (hs : NoSl i) : PE X (.Subscript o i pos) (tDGet td ty) := by
  intro pins s σ H Q I h
  refine subD_of PySem.F.slot_dict_getitem.lookup hs (thn (ho pins s σ H _ I h) fun u s1 ⟨x, H1, I1, rx, q1⟩ => thn (hi pins s1 σ H1 _ I1 q1) fun iv s2 ⟨y, H2, I2, ry, a, v, ex, g, q2⟩ => ?_)
  subst ex
  obtain rfl : u = Value.ref a := rx
  exact ⟨dict_typeIs I2 g, d_getItem hu I2 g ry fun w' s3 I3 rw' => ⟨v, H2, I3, rw', q2⟩⟩
theorem ps_dput (hu : X.A.units + 1 < cLine) (ho : PE X o td) (hi : PE X i ty) (hv : PE X value tv) (hs : swapsWith value (some (.Subscript o i pos')) pos.line X.env = pure false) :
    PS X (.Assign [.Subscript o i pos'] value pos) (sDPut td ty tv) := by
  intro pins s σ H D I h
  refine wpAny_Assign_Subscript (thn (hv pins s σ H _ I h) fun r s1 ⟨v, H1, I1, rv, q1⟩ => thn (ho pins s1 σ H1 _ I1 q1) fun u s2 ⟨x, H2, I2, rx, q2⟩ => thn (hi pins s2 σ H2 _ I2 q2) fun iv s3 ⟨y, H3, I3, ry, a, H4, ex, g, q3⟩ => ?_) hs
  subst ex
  obtain rfl : u = Value.ref a := rx
  exact d_setItem hu I3 g ry rv fun s4 I4 => ⟨σ, H4, I4, q3⟩
end


/-! ### displays -/
theorem dk_empty {P : Program} {w : World} {H : Hp} (h : Heap) (hb : sysModules < h.objs.size) : ObjOk P w H (h.push { cls := .type "dict", data := .dict #[] }) h.objs.size (.dK []) :=
  ⟨Nat.zero_le _, beq_eq_false_iff_ne.mpr (Ne.symm (Nat.ne_of_lt hb)), [], .nil, Heap.DictOf.new h⟩
theorem dt_empty {P : Program} {w : World} {H : Hp} (h : Heap) (hb : sysModules < h.objs.size) : ObjOk P w H (h.push { cls := .type "dict", data := .dict #[] }) h.objs.size (.dT []) :=
  ⟨Nat.zero_le _, beq_eq_false_iff_ne.mpr (Ne.symm (Nat.ne_of_lt hb)), [], .nil, _, #[], 0, Heap.get?_push_size _ rfl, ⟨rfl, rfl, rfl⟩, rfl, rfl, List.nodup_nil⟩
def tDNewT : TE := fun _ H Q => ∀ p, H p = none → Q (.ref p) (upd H p (.dT []))
section
variable {X : Cx} {pos : Pos}
theorem pe_dnewT : PE X (.Dict [] [] pos) tDNewT := fun pins s σ H Q I h =>
  wpAny_Dict_empty ⟨.ref s.heap.objs.size, _, I.laid (a := s.heap.objs.size) (o := .dT []) (t' := s.toks) (fun _ _ q => Heap.get?_push_of_some _ q) (Nat.le_refl _) (dt_empty s.heap I.big), rfl, h _ (I.hok.fresh (Nat.le_refl _))⟩
end

/-- the pairs of a display, from the left -/
def tPairs : List (TE × TE) → St → Hp → (List (V × V) → Hp → Prop) → Prop
  | [], _, H, Q => Q [] H
  | (tk, tv) :: r, σ, H, Q => tk σ H fun x H1 => tv σ H1 fun y H2 => tPairs r σ H2 fun ps H3 => Q ((x, y) :: ps) H3
abbrev VV : List (V × V) → List (Value × Value) → Prop := Paired fun p q => RelV p.1 q.1 ∧ RelV p.2 q.2
def PPs (X : Cx) (pos : Pos) (keys : List (Option Expr)) (values : List Expr) (trs : List (TE × TE)) : Prop :=
  ∀ (pins : List (Addr × Obj)) (s : Shared) (σ : St) (H : Hp) (Q : List (V × V) → Hp → Prop), Inv X pins σ H s → tPairs trs σ H Q →
    wpAny (model X.prog X.w) X.A (evalPairs (pairTrees keys values X.env pos)) (fun vs s' => ∃ ps H', Inv X pins σ H' s' ∧ VV ps vs ∧ Q ps H') X.xe s
theorem pps_nil {X : Cx} {pos : Pos} : PPs X pos [] [] [] := fun pins s σ H Q I h => pairTrees_nil_walk ⟨[], H, I, .nil, h⟩
theorem pps_cons {X : Cx} {pos : Pos} {k v : Expr} {ks : List (Option Expr)} {vs : List Expr} {tk tv : TE} {trs : List (TE × TE)} (hk : PE X k tk) (hv : PE X v tv) (hr : PPs X pos ks vs trs) :
    PPs X pos (some k :: ks) (v :: vs) ((tk, tv) :: trs) := fun pins s σ H Q I h =>
  pairTrees_cons_walk (thn (hk pins s σ H _ I h) fun u s1 ⟨x, H1, I1, rx, q1⟩ => thn (hv pins s1 σ H1 _ I1 q1) fun w2 s2 ⟨y, H2, I2, ry, q2⟩ =>
    thn (hr pins s2 σ H2 _ I2 q2) fun ws s3 ⟨ps, H3, I3, rel, q3⟩ => ⟨(x, y) :: ps, H3, I3, .cons ⟨rx, ry⟩ rel, q3⟩)

def mergeK (kvs more : List (Key × V)) : List (Key × V) := more.foldl (fun acc kv => putK acc kv.1 kv.2) kvs
theorem KV.merge : ∀ {more : List (Key × V)} {rs : List (Key × Value)} {kvs : List (Key × V)} {vs : List (Key × Value)}, KV more rs → KV kvs vs → KV (mergeK kvs more) (merged vs rs) := by
  intro more rs kvs vs r
  unfold KV at r
  induction r generalizing kvs vs with
  | nil => intro q; exact q
  | @cons p q ps qs h t ih =>
    intro r0
    have e : KV (putK kvs p.1 p.2) (stored vs q.1 q.2) := by
      have := r0.put p.1 h.2
      rw [← h.1]; exact this
    exact ih e
theorem length_mergeK : ∀ (more kvs : List (Key × V)), (mergeK kvs more).length ≤ kvs.length + more.length
  | [], kvs => by show kvs.length ≤ kvs.length + 0; omega
  | p :: r, kvs => by
    have h1 := length_mergeK r (putK kvs p.1 p.2)
    have h2 := length_putK kvs p.1 p.2
    show (mergeK (putK kvs p.1 p.2) r).length ≤ _
    rw [List.length_cons]; omega
theorem carries_of {P : Program} {w : World} : ∀ {kvs : List (Key × V)} {ws : List (Value × Value)}, VV (kvs.map fun kv => (kV kv.1, kv.2)) ws → ∃ rs, Carries (mixKind P w) ws rs ∧ KV kvs rs
  | [], _, r => by rw [List.map_nil] at r; cases r; exact ⟨[], True.intro, .nil⟩
  | p :: kvs, _, r => by
    rw [List.map_cons] at r
    cases r with
    | @cons a b as bs h t =>
      obtain ⟨rs, c, q⟩ := carries_of (P := P) (w := w) t
      obtain ⟨b1, b2⟩ := b
      exact ⟨(p.1, b2) :: rs, ⟨kV_is h.1, rfl, c⟩, .cons ⟨rfl, h.2⟩ q⟩
/-- {k: v, ..} with keys ints and texts; the new dict stands empty while the pairs are made -/
def tDisp (trs : List (TE × TE)) : TE := fun σ H Q => ∀ p, H p = none → tPairs trs σ (upd H p (.dK [])) fun ps H2 => H2 p = some (.dK []) ∧ ∃ kvs : List (Key × V), ps = kvs.map (fun kv => (kV kv.1, kv.2)) ∧ kvs.length ≤ 15 ∧ Q (.ref p) (upd H2 p (.dK (mergeK [] kvs)))
theorem pe_disp {X : Cx} {pos : Pos} {keys : List (Option Expr)} {values : List Expr} {trs : List (TE × TE)} (h : PPs X pos keys values trs) (hall : keys.all (·.isSome) = true) (hl : keys.length = values.length) (h0 : keys ≠ [])
    (h15 : keys.length ≤ 15) : PE X (.Dict keys values pos) (tDisp trs) := by
  intro pins s σ H Q I q
  have hn := I.hok.fresh (Nat.le_refl s.heap.objs.size)
  have I1 := I.laid (a := s.heap.objs.size) (o := .dK []) (h' := s.heap.push { cls := .type "dict", data := .dict #[] }) (t' := s.toks) (fun _ _ q => Heap.get?_push_of_some _ q) (Nat.le_refl _) (dk_empty s.heap I.big)
  refine wpAny_Dict_walk (knd := mixKind X.prog X.w) hall hl h0 h15 (thn (h pins _ σ _ _ I1 (q _ hn)) fun ws s2 ⟨ps, H2, I2, rel, e, kvs, ep, lk, q2⟩ => ?_)
  subst ep
  obtain ⟨rs, c, rk⟩ := carries_of (P := X.prog) (w := X.w) rel
  obtain ⟨z, hd, vs0, r0, dd⟩ := dk_of I2.hok e
  cases r0
  refine ⟨rs, c, dd, fun h' dd' hs => ⟨.ref s.heap.objs.size, _, ?_, rfl, q2⟩⟩
  have hz : (mergeK [] kvs).length ≤ sizeLine := by
    have h1 := length_mergeK kvs []
    rw [List.length_nil] at h1
    rw [sizeLine_eq]; omega
  have he : ∃ q, h'.get? s.heap.objs.size = some q := let ⟨q, _, _, hq, _⟩ := dd'; ⟨q, hq⟩
  exact d_write I2 (by rw [e]; exact True.intro) hs he (dk_new hz hd (rk.merge .nil) dd')


/-! ### methods -/
structure M2 (X : Cx) (o : Expr) (m : Str) (apos : Pos) (e f : Expr) (cpos : Pos) : Prop where
  base : attributeBase o m X.env (eval o X.env) = eval o X.env
  few : ((backTo cpos (starEach [e, f] X.env)).all (fun x => !x.1) && (backToKw cpos (keywordEach [] X.env)).all (fun x => x.1.isSome)
    && decide (([e, f] : List Expr).length + ([] : List Keyword).length + (if ([] : List Keyword).isEmpty then 0 else 1) < 30)) = true
  line : (apos.endLine == cpos.line) = true
  trees : backTo cpos (starEach [e, f] X.env) = [(false, eval e X.env), (false, eval f X.env)]

/-- a is a dict, whatever its keys -/
def IsD (H : Hp) (a : Addr) : Prop := (∃ kvs, Rd H a (.dK kvs)) ∨ ∃ kvs, Rd H a (.dT kvs)
theorem isD_at {X : Cx} {pins : List (Addr × Obj)} {σ : St} {H : Hp} {s : Shared} {a : Addr} (I : Inv X pins σ H s) (d : IsD H a) :
    s.TypeIs (.ref a) "dict" ∧ (∀ b, Value.ref a = .ref b → ∃ ob, s.heap.get? b = some ob ∧ ob.dict = none) ∧ (a == sysModules) = false := by
  rcases d with ⟨kvs, e⟩ | ⟨kvs, e⟩
  · obtain ⟨_, hd, vs, _, dd⟩ := dk_rd I.hok e
    refine ⟨dd.typeIs, fun b q => ?_, hd⟩
    cases q
    obtain ⟨ob, _, _, h1, h2, _⟩ := dd
    exact ⟨ob, h1, h2.2.1⟩
  · obtain ⟨_, hd, xs, _, dd⟩ := dt_rd I.hok e
    refine ⟨dd.typeIs, fun b q => ?_, hd⟩
    cases q
    obtain ⟨ob, _, _, h1, h2, _⟩ := dd
    exact ⟨ob, h1, h2.2.1⟩

section
variable {X : Cx} {pins : List (Addr × Obj)} {σ : St} {H : Hp} {s : Shared} {a : Addr} {y d : V} {u r : Value} {o : Option V} {A : Around} {E : Value → Shared → Prop}
/-- d.get(y, x) -/
theorem d_get2 {Q : Value → Shared → Prop} (hu : A.units + 1 < cLine) (I : Inv X pins σ H s) (g : DGet H a y o) (ry : RelV y u) (rd : RelV d r) (h : ∀ w' s', Inv X pins σ H s' → RelV (o.getD d) w' → Q w' s') :
    wpAny (model X.prog X.w) A (call (.builtin "dict.get") [.ref a, u, r]) Q E s := by
  rcases g with ⟨kvs, k, e, ey, l⟩ | ⟨kvs, k, b, e, ey, eb, l⟩
  · subst ey
    obtain ⟨z, hd, vs, rel, dd⟩ := dk_rd I.hok e
    refine call_meetsIn PySem.F.slot_dict_get dd.typeIs PySem.F.entry_dict_get (PySem.F.args_dict_get_3 _ _ _) (meets_dict_get_default (mixKind X.prog X.w) a (kV_is ry) hd r) ⟨_, dd.mapOf, h _ _ (I.tok _) ?_⟩
    rw [l]
    exact (rel.val k).getD rd
  · subst ey
    cases (show u = Value.ref b from ry)
    obtain ⟨z, hd, xs, rel, dd⟩ := dt_rd I.hok e
    refine call_meetsIn PySem.F.slot_dict_get dd.typeIs PySem.F.entry_dict_get (PySem.F.args_dict_get_3 _ _ _) (meetsH_dict_get_default (tupleKind (mixKind X.prog X.w)) a b hd r) ⟨tupleKind_room_in1 hu, k, xs, key_of I.hok eb, dd, h _ _ (I.tok _) ?_⟩
    rw [l]
    exact (rel.val k).getD rd
end

def tDGet2 (td ty tx : TE) : TE := fun σ H Q => td σ H fun x H1 => ∃ a, x = .ref a ∧ IsD H1 a ∧ ty σ H1 fun y H2 => tx σ H2 fun z H3 => ∃ o, DGet H3 a y o ∧ Q (o.getD z) H3
section
variable {X : Cx} {o e f : Expr} {apos cpos : Pos} {td ty tx : TE}
theorem pe_dget2 (hu : X.A.units + 1 < cLine) (ho : PE X o td) (he : PE X e ty) (hf : PE X f tx) (m : M2 X o "get" apos e f cpos) : PE X (.Call (.Attribute o "get" apos) [e, f] [] cpos) (tDGet2 td ty tx) := by
  intro pins s σ H Q I h
  refine wpAny_Call_method m.base m.few m.line PySem.F.plainAttrs_dict PySem.F.slot_dict_get PySem.F.type_dict_get (thn (ho pins s σ H _ I h) fun u s1 ⟨x, H1, I1, rx, a, ex, d, q1⟩ => ?_)
  subst ex
  obtain rfl : u = Value.ref a := rx
  obtain ⟨t1, t2, _⟩ := isD_at I1 d
  refine ⟨t1, t2, ?_⟩
  rw [m.trees]
  refine Calls.callWith_builtin rfl (Calls.evalArgs_plain (Calls.spliced_cons (thn (he pins s1 σ H1 _ I1 q1) fun iv s2 ⟨y, H2, I2, ry, q2⟩ =>
    Calls.spliced_cons (thn (hf pins s2 σ H2 _ I2 q2) fun fv s3 ⟨z, H3, I3, rz, ov, g, q3⟩ => Calls.spliced_nil ?_))))
  exact d_get2 hu I3 g ry rz fun w' s4 I4 rw' => ⟨_, H3, I4, rw', q3⟩
end

/-! ### dict(d): a copy -/
section
variable {X : Cx} {pins : List (Addr × Obj)} {σ : St} {H : Hp} {s : Shared} {a : Addr} {kvs : List (Key × V)} {A : Around} {E : Value → Shared → Prop}
end


section
variable {X : Cx} {pins : List (Addr × Obj)} {σ : St} {H : Hp} {s : Shared} {a : Addr} {y : V} {u : Value} {A : Around} {E : Value → Shared → Prop}
end
end L2

namespace Att
open PySem PySem.W PySem.Calls PyProof.Rows

/-! ### the script -/
theorem ints_of_wellAll {P : Params} {h : Heap} : ∀ (ns : List Int) (vs : List Value), WellAll P h vs (ns.map WData.int) → IntsAre vs ns := by
  intro ns
  induction ns with
  | nil =>
    intro vs w
    rw [List.map_nil] at w
    cases w
    exact .nil
  | cons n ns ih =>
    intro vs w
    rw [List.map_cons] at w
    cases w with
    | cons a b =>
      cases a
      exact .cons _ _ (ih _ b)

theorem script_of {l : OpenLaw} {n : Nat} (hn : l.most = some n) {P : Params} {h : Heap} {args : List WData} {vals : List Value}
    (hpre : l.row.toRowW.claim.pre args = true) (hwl : WellAll P h vals args) :
    ∃ a vs ns, vals = [Value.ref a] ∧ args = [WData.list (ns.map WData.int)] ∧ h.get? a = some { cls := .type "list", data := .seq vs.toArray } ∧ IntsAre vs ns ∧ ns.length ≤ n := by
  have hsh : WShape.hasAll [] args [.list .int] = true := (pre_splitW hpre).1
  have hc : l.pre.holds [] { args := args } = true := (pre_splitW hpre).2
  obtain ⟨d, r, rfl, h1, h2⟩ := hasAllW_cons hsh
  obtain rfl := hasAllW_nil h2
  obtain ⟨xs, rfl, h3⟩ := hasW_list h1
  obtain ⟨ns, rfl⟩ := items_int h3
  have hlen : ns.length ≤ n := by
    unfold OpenLaw.pre at hc
    have h4 : (WTm.not (.lt (.lit (.int (n : Int))) (.len (.arg 0)))).holds [] { args := [.list (ns.map .int)] } = true := by
      have h4 := (holds_andW hc).1
      rw [hn] at h4
      exact h4
    have h5 := condW_of h4 (w_not (w_lt w_lit (w_len_list (w_arg rfl))))
    rw [List.length_map] at h5
    refine Nat.le_of_not_lt fun q => ?_
    have q' : (n : Int) < ((ns.length : Nat) : Int) := by omega
    first
      | (rw [decide_eq_true q'] at h5; exact absurd h5 (by decide))
      | (simp at h5; omega)
  cases hwl with
  | cons w1 w2 =>
    cases w2
    cases w1 with
    | list ho hall => exact ⟨_, _, ns, rfl, rfl, ho, ints_of_wellAll ns _ hall, hlen⟩

theorem post_true (l : OpenLaw) (args : List WData) : l.row.toRowW.claim.post args (.bool true) args = true :=
  postW_of (r := l.row.toRowW) (X := (true == true))
    (show WShape.has [] (.bool true) .bool = true by first | rfl | decide | simp [WShape.has, WShape.arms, WShape.armsAll])
    (show (WTm.eq .res (.lit (.bool true))).value [] { args := args, res := some (.bool true), after := args } = some (.bool (true == true)) from w_eq_bool (w_res rfl) w_lit) rfl

/-! ### the attachment: holds_open's last premise (the goal 'hc' behind k_head) from a wpAny of the law's body -/
/-- the same from a codeAny of the CALL (for a layer whose function contracts speak of calls) -/
theorem attach_call {l : OpenLaw} {n : Nat} {q : Program} {loose : List Str} {XP : (Str → Option Value) → Heap → Prop} {YP : World → Heap → Prop} {d : DefRec}
    (hn : l.most = some n) (hdf : d.params.defaults = [])
    (call : ∀ (w : World) (s₀ s₁ : Shared) (mg mb : Str → Option Value) (fa : Addr) (o : Obj) (pm cd doc : Value) (a : Addr) (vs : List Value) (ns : List Int),
      Ground q loose [] XP w s₀ mg mb s₁.heap → YP w s₁.heap →
      s₁.heap.get? fa = some o → o.data = .func (docDef d.name d.params d.body d.scope pm cd doc) → s₁.heap.CodeRec cd d.name → mg d.name = some (.ref fa) →
      s₁.heap.get? a = some { cls := .type "list", data := .seq vs.toArray } → IntsAre vs ns → ns.length ≤ n → s₁.gens = #[] →
      codeAny (model l.prog w) callerA (.call (.ref fa) ⟨[.ref a], []⟩) (fun r s' => r = .ok (.ret (.bool true)) ∧ OldK s₁.heap s'.heap ∧ s'.os = s₁.os ∧ AllBare s'.gens) s₁) :
    WalkO q loose XP YP l.row.toRowW d [] (fun f vs => PySem.call f vs) := by
  intro w s₀ s₁ mg mb G Y fa o pm cd doc dV kV ho hd hcd hD hmg hg args vals as hpre hlay hrd hwl hlo
  obtain rfl : dV = .none := Dflts.none hD hdf
  obtain rfl : kV = .none := Dflts.noKw hD
  obtain ⟨a, vs, ns, rfl, rfl, hobj, hints, hlen⟩ := script_of hn hpre hwl
  refine enter_call (codeAny_mono (call w s₀ s₁ mg mb fa o pm cd doc a vs ns G Y ho (fd_plain hd) hcd hmg hobj hints hlen hg) fun r s' hq => ?_)
  obtain ⟨rfl, h2, h3, h4⟩ := hq
  exact ⟨.inl ⟨.bool true, .bool true, [], rfl, fun _ => rfl, .bool true, post_true l _, fun _ => ⟨List.Pairwise.nil, fun _ hm => (nomatch hm)⟩⟩, h2, h3, h4⟩

/-! ### rules over ANY heap (no ledger) from facts about the written part K: the library's own take a ledger (News) for what they write -/
section
variable {prog : Program} {w : World} {A : Around} {E : Value → Shared → Prop} {s : Shared} {K : Frag}

/-! the whole heap as the ledger: makes every rule that writes through a ledger a rule over any heap -/
end
end Att

namespace L2
open PySem PySem.Spec PyProof.Rows

theorem vals_ints : ∀ {vs : List Value} {ns : List Int}, IntsAre vs ns → Vals (ns.map V.int) vs
  | _, _, .nil => .nil
  | _, _, .cons n t h => .cons ⟨t, rfl⟩ (vals_ints h)

/-- nothing is tracked but the script, known to the object (or it is an object of the module) -/
def Only (H : Hp) : Prop := ∀ b, H b = none ∨ ∃ o xs, H b = some (.frz o (.lst xs))

/-- THE HEAD: the law's promise, at the heap behind the top. F, the promise of the law's def, may use that base is part of the heap (so K.In base, base.Ns mainGlobals mg stand in Mod) -/
theorem law_call {P : Program} {w : World} {K : PySem.W.Frag} {mg mb : Str → Option Value} {CX : CXT} {k : Nat} {fa a : Addr} {fd : FuncData} {x : Str} {sp : Sp} {s₁ : Shared} {vs : List Value} {ns : List Int}
    (KX : K.In s₁.heap) (hns : s₁.heap.Ns mainGlobals mg) (hb : s₁.heap.Ns builtinsNs mb) (hbb : ∀ x : Str, x ≠ "__name__" → mb x = bootBuiltins x) (hlim : s₁.heap.NoLimit) (hg : s₁.gens = #[])
    (ha : s₁.heap.get? a = some { cls := .type "list", data := .seq vs.toArray }) (hi : IntsAre vs ns) (hl : ns.length ≤ sizeLine) (hr : Room k callerA)
    (F : ∀ base : Heap, K.In base → base.Ns mainGlobals mg → FnOk P w K mg base CX k fa fd [x] sp) (hbind : ∀ (s : Shared) (u : Value), BindsTo s fd ⟨[u], []⟩ [(x, u)])
    (hsp : ∀ H : Hp, Only H → SqL K H a (ns.map V.int) → sp [.ref a] H (fun v _ => v = .bl true) fun _ _ _ => False)
    (hCX : ∀ H e s', CX [] H s₁ (fun _ _ _ => False) e s' → False) :
    codeAny (model P w) callerA (.call (.ref fa) ⟨[.ref a], []⟩) (fun r s' => r = .ok (.ret (.bool true)) ∧ OldK s₁.heap s'.heap ∧ s'.os = s₁.os ∧ AllBare s'.gens) s₁ := by
  have rv := vals_ints hi
  have lenV := hi.length
  -- from an abstract heap in which nothing but the script may be tracked
  have core : ∀ H : Hp, Only H → SqL K H a (ns.map V.int) → HOk P w H s₁.heap → (∀ b, H b ≠ none → b = a) → (H a ≠ none → K.lookup a = none) →
      codeAny (model P w) callerA (.call (.ref fa) ⟨[.ref a], []⟩) (fun r s' => r = .ok (.ret (.bool true)) ∧ OldK s₁.heap s'.heap ∧ s'.os = s₁.os ∧ AllBare s'.gens) s₁ := by
    intro H hO hS hok hA hK
    have base_of : ∀ {b : Addr} {o : Obj}, s₁.heap.get? b = some o → H b = none → (hidT s₁.heap H).get? b = some o := fun e n => hidT_get e n
    have noA : ∀ {b : Addr} {o : Obj} {es : Array DictEntry} {ep : Nat}, s₁.heap.get? b = some o → o.data = .dict es ep → H b = none := fun {b o es ep} e d => by
      cases q : H b with
      | none => rfl
      | some u =>
        have e' : b = a := hA b (by rw [q]; simp)
        subst e'
        rw [ha] at e; cases e
        have d' : Data.seq vs.toArray _ = Data.dict es ep := d
        cases d'
    have nsK : ∀ {b : Addr} {m : Str → Option Value}, s₁.heap.Ns b m → (hidT s₁.heap H).Ns b m := fun {b m} ⟨o, es, ep, e, d, r⟩ => ⟨o, es, ep, base_of e (noA e d), d, r⟩
    have hKb : K.In (hidT s₁.heap H) := fun b o e => base_of (KX b o e) (by
      cases q : H b with
      | none => rfl
      | some u =>
        have e' : b = a := hA b (by rw [q]; simp)
        subst e'
        rw [hK (by rw [q]; simp)] at e; cases e)
    have hM : Mod K mg (hidT s₁.heap H) := ⟨hKb, nsK hns, ⟨mb, nsK hb, hbb⟩, let ⟨mc, h1, h2⟩ := hlim; ⟨mc, nsK h1, h2⟩⟩
    have e0 : Env0 P w K mg (hidT s₁.heap H) callerA [] s₁ H := ⟨rfl, hM, fun b o e => of_hidT e, Nat.le_of_eq (hidT_size _ _), trivial, fun b hb => absurd (show b ∈ ([] : List Addr) from hb) (by simp), hok, .of_eq hg⟩
    refine codeAny_mono ((F _ hKb (nsK hns)).run callerA [] s₁ H ⟨[.ref a], []⟩ [.ref a] [.ref a] _ _ hr e0 (hbind s₁ (.ref a)) (.cons rfl .nil) (hsp H hO hS)) fun r s' h => ?_
    cases r with
    | error e => exact (hCX H e s' h).elim
    | ok fl =>
      cases fl with
      | next => exact False.elim h
      | brk => exact False.elim h
      | cont => exact False.elim h
      | ret u =>
        obtain ⟨v, H', os, bare, un, hok', r', q⟩ := h
        have q' : v = .bl true := q
        subst q'
        obtain rfl : u = Value.bool true := r'
        refine ⟨rfl, OldK.of_keep fun b o e => ?_, os, bare⟩
        cases q : H b with
        | none => exact un.keep b o e q (by intro z; exact absurd (show b ∈ ([] : List Addr) from z) (by simp)) (by simp)
        | some u =>
          rcases hO b with z | ⟨ob, xs, z⟩
          · rw [q] at z; cases z
          · have z2 := un.frzs b ob _ z
            obtain ⟨e1, _⟩ := hok b _ z
            obtain ⟨e2, _⟩ := hok' b _ z2
            rw [e] at e1; cases e1
            exact e2
  cases hk : K.lookup a with
  | some o =>
    -- the script is one of the module's own objects
    have e := KX a o hk
    rw [ha] at e
    cases e
    refine core (fun _ => none) (fun _ => .inl rfl) (.inr ⟨_, vs.toArray, _, hk, rfl, rfl, rfl, by rw [List.size_toArray, lenV]; exact hl, by simpa using rv⟩) (fun b u z => by have z' : (none : Option HO) = some u := z; cases z') (fun b z => absurd rfl z) fun z => absurd rfl z
  | none =>
    refine core (fun b => if b = a then some (.frz { cls := .type "list", data := .seq vs.toArray } (.lst (ns.map V.int))) else none) (fun b => ?_) (.inl (.inr ⟨{ cls := .type "list", data := .seq vs.toArray }, if_pos rfl⟩)) (fun b u z => ?_) (fun b z => ?_) fun _ => hk
    · by_cases hb : b = a
      · exact .inr ⟨_, _, if_pos hb⟩
      · exact .inl (if_neg hb)
    · by_cases hb : b = a
      · have z' := (if_pos hb).symm.trans z
        cases z'
        subst hb
        exact ⟨ha, by rw [List.length_map]; exact hl, vs, _, rv, ha⟩
      · have z' := (if_neg hb).symm.trans z
        cases z'
    · by_cases hb : b = a
      · exact hb
      · exact absurd (if_neg hb) z
end L2

namespace L2
open PySem PySem.Spec PyProof.Rows

abbrev KOf {K : PySem.W.Frag} {h : Heap} (_ : K.In h) : PySem.W.Frag := K

/-- the goal that k_head leaves (case hc), from the law's promise. F gives the function object fd (K's own) once, then the promise over every base -/
theorem walk_of {l : PySem.W.OpenLaw} {n k : Nat} {q : Program} {loose : List Str} {XP : (Str → Option Value) → Heap → Prop} {YP : World → Heap → Prop} {d : DefRec} {K : Params → PySem.W.Frag} {CX : World → CXT} {sp : World → Sp} {x : Str}
    (hn : l.most = some n) (hn2 : n ≤ sizeLine) (hdf : d.params.defaults = []) (hr : Room k callerA)
    (hY : ∀ (w : World) (h : Heap), YP w h → (K w.params).In h)
    (F : ∀ (w : World) (mg : Str → Option Value) (fa : Addr) (h : Heap), (K w.params).In h → h.Ns mainGlobals mg → mg d.name = some (.ref fa) →
      ∃ fd : FuncData, (∀ (s : Shared) (u : Value), BindsTo s fd ⟨[u], []⟩ [(x, u)]) ∧
        ∀ base : Heap, (K w.params).In base → base.Ns mainGlobals mg → FnOk l.prog w (K w.params) mg base (CX w) k fa fd [x] (sp w))
    (hsp : ∀ (w : World) (H : Hp) (a : Addr) (ns : List Int), ns.length ≤ n → Only H → SqL (K w.params) H a (ns.map V.int) → sp w [.ref a] H (fun v _ => v = .bl true) fun _ _ _ => False)
    (hCX : ∀ (w : World) (H : Hp) (s : Shared) (e : Value) (s' : Shared), CX w [] H s (fun _ _ _ => False) e s' → False) :
    PySem.W.WalkO q loose XP YP l.row.toRowW d [] (fun f vs => PySem.call f vs) := by
  refine Att.attach_call hn hdf fun w s₀ s₁ mg mb fa o pm cd doc a vs ns G Y ho hd hcd hmg hobj hints hlen hg => ?_
  have KX := hY w _ Y
  obtain ⟨fd, hb, hF⟩ := F w mg fa _ KX G.T.g hmg
  exact law_call KX G.T.g G.T.b G.T.builtins G.T.nolimit hg hobj hints (Nat.le_trans hlen hn2) hr hF hb (fun H hO hS => hsp w H a ns hlen hO hS) fun H e s' => hCX w H s₁ e s'
end L2

/- THE LAST THEOREM (shape; LID, My.* are yours):
   My.Adr: a structure of the addresses that your layer names (classes, functions); My.Txt K t: a structure (Prop) of the equations over K;
   My.txt_mk : {K} {implicit addresses ..} (e1 : nsIn K mainGlobals "law" = some (some (.ref f))) (e2 : K.lookup f = some ⟨oc, od, .func (fnOf "law" "law" params body scope dV kV doc pm an cdv ct), sl⟩) (e3 : codeIn K cdv "law" = true) .. : ∃ t, My.Txt K t

(the tactic k_is has no namespace: write k_is) -/

/-! SHORT WORDS over the layer: a def of the text, its body, what a loop and a test want. -/
namespace L2
open PySem PySem.Spec PyProof.Rows

/-! ### the text by places -/
def defArgs (s : Stmt) : Arguments := match s with
  | .FunctionDef _ a _ _ _ _ _ _ _ _ => a
  | _ => { posonlyargs := [], args := [], vararg := none, kwonlyargs := [], kw_defaults := [], kwarg := none, defaults := [] }
def defBody (s : Stmt) : List Stmt := match s with
  | .FunctionDef _ _ b _ _ _ _ _ _ _ => b
  | _ => []
def defScope (s : Stmt) : Scope := match s with
  | .FunctionDef _ _ _ _ _ _ sc _ _ _ => sc
  | _ => { kind := .function, names := [], isGenerator := false, isCoroutine := false }

/-! ### no exception leaves a def -/
abbrev CX0 : CXT := fun _ _ _ _ _ _ => False
abbrev E0 : XK := fun _ _ _ => False
theorem pass0 {X : Cx} : Passes CX0 X E0 := fun _ _ _ _ _ _ _ h => h.elim

/-! ### a def (or method) of the text as it stands behind the top -/
structure Fun (K : PySem.W.Frag) (x qual : Str) (st : Stmt) (f : Addr) (fd : FuncData) : Prop where
  ex : ∃ (oc : Value) (od : Option Addr) (kV doc pm : Value) (an : Option Addr) (cdv ct : Value) (osl : Array (Option Value)),
    fd = PySem.W.fnOf x qual (defArgs st) (defBody st) (defScope st) .none kV doc pm an cdv ct ∧ K.lookup f = some ⟨oc, od, .func fd, osl⟩ ∧ PySem.W.codeIn K cdv qual = true
  kp : PySem.W.keepIn K (.ref f) = true
section
variable {P : Program} {w : World} {K : PySem.W.Frag} {mg : Str → Option Value} {base : Heap}
/-- THE RULE for a def: its body as a term of rules, and the reading of that term -/
theorem Fun.ok {x qual : Str} {st : Stmt} {f : Addr} {fd : FuncData} {N ps : List Str} {k : Nat} {sp : Sp} (F : Fun K x qual st f fd) (S : FnScope N ps (defScope st)) (len : ∀ vs H Q E, sp vs H Q E → vs.length = ps.length)
    (hbody : ∀ (cdv : Value) (A : Around) (outer : List Env) (s : Shared) (H : Hp) (vs : List V) (Q : VK) (E : XK), Room k (A.deeper (envOfC qual (defScope st) s.heap.objs.size f cdv)) → sp vs H Q E →
      ∃ t, PSs (cxOf CX0 P w K mg base N qual (defScope st) f cdv A outer s H E).nox (defBody st) t ∧ t { nx := fun _ H' => Q .non H', rt := Q } (start N vs) H) : FnOk P w K mg base CX0 (k + 1) f fd ps sp := by
  obtain ⟨oc, od, kV, doc, pm, an, cdv, ct, osl, rfl, lk, hcd⟩ := F.ex
  refine fn_of lk hcd S len fun A outer s H vs Q E hr hsp => ?_
  obtain ⟨t, h, q⟩ := hbody cdv A outer s H vs Q E hr hsp
  exact ⟨t, h.nox, q⟩
/-- how its arguments bind (no defaults): h is «fun _ _ _ _ _ _ us hl => match us, hl with | [_, _], _ => rfl», one _ a parameter -/
theorem Fun.binds {x qual : Str} {st : Stmt} {f : Addr} {fd : FuncData} {ps : List Str} (F : Fun K x qual st f fd)
    (h : ∀ (kV doc pm : Value) (an : Option Addr) (cdv ct : Value) (us : List Value), us.length = ps.length → bindArgs (PySem.W.fnOf x qual (defArgs st) (defBody st) (defScope st) .none kV doc pm an cdv ct) ⟨us, []⟩ = pure (ps.zip us)) : Binds K fd ps [] := by
  obtain ⟨oc, od, kV, doc, pm, an, cdv, ct, osl, rfl, lk, hcd⟩ := F.ex
  exact .all (h kV doc pm an cdv ct)
theorem fun_mk {x qual : Str} {st : Stmt} {f : Addr} {oc : Value} {od an : Option Addr} {osl : Array (Option Value)} {kV doc pm cdv ct : Value} (l : K.lookup f = some ⟨oc, od, .func (PySem.W.fnOf x qual (defArgs st) (defBody st) (defScope st) .none kV doc pm an cdv ct), osl⟩)
    (c : PySem.W.codeIn K cdv qual = true) (k : PySem.W.keepIn K (.ref f) = true) : Fun K x qual st f (PySem.W.fnOf x qual (defArgs st) (defBody st) (defScope st) .none kV doc pm an cdv ct) := ⟨⟨oc, od, kV, doc, pm, an, cdv, ct, osl, rfl, l, c⟩, k⟩
end
theorem hu_of {A : Around} {k : Nat} (hr : Room k A) : A.units + 1 < cLine := Nat.lt_of_le_of_lt (Nat.add_le_add_left (by decide : 1 ≤ 64) _) hr.units
/-! ### expressions in short: the name that stands in the i-th slot -/
section
variable {X : Cx}
theorem pv (i : Nat) {x : Str} {pos : Pos} (hN : X.N[i]? = some x := by rfl) (hv : Vis X.env.scope x := by first | exact Or.inl rfl | exact Or.inr (Or.inl rfl) | exact Or.inr (Or.inr rfl)) (hd : (x == ("__debug__" : Str)) = false := by decide)
    (hcd : (x == ("__classdict__" : Str)) = false := by decide) : PE X (.Name x pos) (tVar i) := pe_var hN hv hd hcd
end

/-! ### tests -/
theorem iteF {A B : Prop} (h : B) : if false = true then A else B := by
  rw [if_neg Bool.false_ne_true]
  exact h
theorem iteT {A B : Prop} (h : A) : if true = true then A else B := by
  rw [if_pos rfl]
  exact h
theorem ite2 {c A B : Prop} [Decidable c] (h1 : c → A) (h2 : ¬ c → B) : if c then A else B := by
  by_cases h : c
  · rw [if_pos h]
    exact h1 h
  · rw [if_neg h]
    exact h2 h
theorem iteNS {c A B : Prop} [Decidable c] (hc : c) (h : B) : if (!decide c) = true then A else B := by
  rw [decide_eq_true hc]
  exact iteF h

/-! ### heaps -/
/-- all that was tracked is as it was -/
def Same (H H' : Hp) : Prop := ∀ b o, H b = some o → H' b = some o
theorem Same.refl (H : Hp) : Same H H := fun _ _ h => h
theorem Same.trans {H H1 H2 : Hp} (a : Same H H1) (b : Same H1 H2) : Same H H2 := fun c o h => b c o (a c o h)
theorem Same.seq {K : PySem.W.Frag} {H H' : Hp} {a : Addr} {xs : List V} (e : Same H H') (h : SqL K H a xs) : SqL K H' a xs := by
  rcases h with (h | ⟨o, h⟩) | h
  · exact .inl (.inl (e _ _ h))
  · exact .inl (.inr ⟨o, e _ _ h⟩)
  · exact .inr h

end L2

namespace L2
open PySem PySem.Spec PyProof.Rows
section
variable {X : Cx}
end
/-! ### a dict's pairs: keys that differ -/
section
variable {κ : Type} [DecidableEq κ]
end

end L2

set_option Elab.async false
set_option linter.all false
set_option maxRecDepth 100000
set_option maxHeartbeats 4000000
namespace L2
open PySem PySem.Spec PyProof.Rows
abbrev Bt (n : Nat) (i : Int) : Prop := Builtin.Int.intBits i ≤ n
theorem Bt.mono {m n : Nat} {i : Int} (h : Bt m i) (l : m ≤ n) : Bt n i := Nat.le_trans h l
theorem Bt.log {n : Nat} {i : Int} (h : Bt n i) (l : n ≤ 8999) : i.natAbs.log2 < 9000 := by
  have h1 := intBits_le_iff.mp h
  by_cases z : i.natAbs = 0
  · rw [z]; decide
  · exact Nat.lt_of_lt_of_le ((Nat.log2_lt z).mpr h1) (by omega)
theorem Bt.mul {m n : Nat} {i j : Int} (h : Bt m i) (h' : Bt n j) : Bt (m + n) (i * j) := intBits_mul_le h h'
theorem Bt.of_le {n : Nat} {i j : Int} (h : Bt n j) (l : i.natAbs ≤ j.natAbs) : Bt n i := intBits_le_of_natAbs l h
theorem Bt.of_lt {n : Nat} {i : Int} (l : i.natAbs < 2 ^ n) : Bt n i := intBits_le_iff.mpr l
section
variable {X : Cx}
def CMulB (i j : Int) : Prop := Bt 20000 i ∧ Bt 20000 j
theorem op_mulB : OpR X (binaryOp .Mult) (rI CMulB fun i j => .int (i * j)) := opI fun _ _ _ _ _ _ _ hc q => mul_int q (IntMulOk.of_le hc.1 hc.2 (by decide))
def CDivB (i j : Int) : Prop := 0 < j ∧ Bt 8000 j
theorem op_fdivB : OpR X (binaryOp .FloorDiv) (rI CDivB fun i j => .int (i / j)) := opI fun i j _ _ _ _ _ hc q => by
  refine floordiv_int (by have := hc.1; omega) ?_ (.inl (PyProof.noPylong_of_log2 (hc.2.log (by decide))))
  rw [Int.fdiv_eq_ediv_of_nonneg i (Int.le_of_lt hc.1)]
  exact q
theorem getD_of {α : Type} {xs : List α} {d : α} {j : Nat} (h : j < xs.length) : xs.getD j d = xs[j] := by
  rw [List.getD_eq_getElem?_getD, List.getElem?_eq_getElem h]; rfl
end
end L2

set_option Elab.async false
set_option linter.all false
set_option maxRecDepth 100000
set_option maxHeartbeats 4000000
namespace L2
open PySem PySem.Spec PyProof.Rows
section
variable {X : Cx}
example (K : PySem.W.Frag) : PySem.W.kitOne K (.type "int") (.type "bool") = some false := by rfl
example (K : PySem.W.Frag) : PySem.W.kitOne K (.type "tuple") (.type "tuple") = some true := by rfl
example (K : PySem.W.Frag) : PySem.W.kitOne K (.type "int") (.type "int") = some true := by rfl
theorem vals_mem : ∀ {xs : List V} {us : List Value} {u : Value}, Vals xs us → u ∈ us → ∃ y ∈ xs, RelV y u
  | _, _, _, .nil, h => by simp at h
  | y :: xs, w :: us, u, .cons r t, h => by
    rcases List.mem_cons.mp h with rfl | h
    · exact ⟨y, by simp, r⟩
    · obtain ⟨z, hz, rz⟩ := vals_mem t h
      exact ⟨z, by simp [hz], rz⟩
end
/-- a def that may be called by its name -/
structure Cal (P : Program) (w : World) (K : PySem.W.Frag) (mg : Str → Option Value) (base : Heap) (x : Str) (ps : List Str) (k : Nat) (sp : Sp) : Prop where
  ex : ∃ f fd, FnOk P w K mg base CX0 k f fd ps sp ∧ mg x = some (.ref f) ∧ PySem.W.keepIn K (.ref f) = true ∧ Binds K fd ps []
structure FunAt (K : PySem.W.Frag) (mg : Str → Option Value) (x : Str) (ps : List Str) (st : Stmt) : Prop where
  ex : ∃ f fd, Fun K x x st f fd ∧ mg x = some (.ref f) ∧ Binds K fd ps []
theorem FunAt.cal {P : Program} {w : World} {K : PySem.W.Frag} {mg : Str → Option Value} {base : Heap} {x : Str} {ps N : List Str} {st : Stmt} {k : Nat} {sp : Sp} (F : FunAt K mg x ps st) (S : FnScope N ps (defScope st)) (len : ∀ vs H Q E, sp vs H Q E → vs.length = ps.length)
    (hbody : ∀ (f : Addr) (cdv : Value) (A : Around) (outer : List Env) (s : Shared) (H : Hp) (vs : List V) (Q : VK) (E : XK), Room k (A.deeper (envOfC x (defScope st) s.heap.objs.size f cdv)) → sp vs H Q E →
      ∃ t, PSs (cxOf CX0 P w K mg base N x (defScope st) f cdv A outer s H E).nox (defBody st) t ∧ t { nx := fun _ H' => Q .non H', rt := Q } (start N vs) H) : Cal P w K mg base x ps (k + 1) sp := by
  obtain ⟨f, fd, F1, m, b⟩ := F.ex
  exact ⟨f, fd, F1.ok S len (hbody f), m, F1.kp, b⟩
section
variable {X : Cx} {x : Str} {ps : List Str} {k : Nat} {sp : Sp} {e : Expr} {es : List Expr} {t : TA} {p pos : Pos}
theorem cc (c : Cal X.prog X.w X.K X.mg X.base x ps k sp) (hr : Room k X.A) (ha : PA X (e :: es) t) (hg : Gl X x := by rfl) (hd : (x == ("__debug__" : Str)) = false := by decide)
    (hs : starEach (e :: es) X.env = (false, eval e X.env) :: starEach es X.env := by rfl) (hp : (backTo pos (starEach es X.env)).any (·.1) = false := by rfl) : PE X (.Call (.Name x p) (e :: es) [] pos) (tCall sp [] E0 t) := by
  obtain ⟨f, fd, F, m, kp, b⟩ := c.ex
  exact pe_call F hr hg m kp b .nil pass0 ha hd hs hp
end
theorem funAt_mk {K : PySem.W.Frag} {h : Heap} {mg : Str → Option Value} {x : Str} {ps : List Str} {st : Stmt} {f : Addr} {oc : Value} {od an : Option Addr} {osl : Array (Option Value)} {kV doc pm cdv ct : Value} (X : K.In h) (G : h.Ns mainGlobals mg)
    (hb : ∀ (kV doc pm : Value) (an : Option Addr) (cdv ct : Value) (us : List Value), us.length = ps.length → bindArgs (PySem.W.fnOf x x (defArgs st) (defBody st) (defScope st) .none kV doc pm an cdv ct) ⟨us, []⟩ = pure (ps.zip us))
    (a : PySem.W.nsIn K mainGlobals x = some (some (.ref f))) (l : K.lookup f = some ⟨oc, od, .func (PySem.W.fnOf x x (defArgs st) (defBody st) (defScope st) .none kV doc pm an cdv ct), osl⟩)
    (c : PySem.W.codeIn K cdv x = true) (k : PySem.W.keepIn K (.ref f) = true) : FunAt K mg x ps st :=
  let F := fun_mk (st := st) l c k
  ⟨f, _, F, PySem.W.mg_of X G a, F.binds hb⟩

theorem bt_abs : bootBuiltins "abs" = some (.builtin "abs") := by decide +kernel
theorem bt_len : bootBuiltins "len" = some (.builtin "len") := by decide +kernel
theorem bt_int : bootBuiltins "int" = some (.type "int") := by decide +kernel
theorem bt_tuple : bootBuiltins "tuple" = some (.type "tuple") := by decide +kernel
theorem bt_list : bootBuiltins "list" = some (.type "list") := by decide +kernel
/-! ### shares in the heap -/
open MA
def ShAt (H : Hp) (v : V) (q : Rat) : Prop := ∃ p, v = .ref p ∧ H p = some (.tup [.int q.num, .int (q.den : Int)])
def SB (n : Nat) (q : Rat) : Prop := Bt n q.num ∧ Bt n (q.den : Int)
theorem same_new {H : Hp} {p : Addr} (h : H p = none) (o : HO) : Same H (upd H p o) := fun b u q => by rw [upd_ne (ne_of_none q h)]; exact q
theorem ShAt.same {H H' : Hp} {v : V} {q : Rat} (h : ShAt H v q) (s : Same H H') : ShAt H' v q := let ⟨p, e, h⟩ := h; ⟨p, e, s _ _ h⟩
/-- all but the thing at p is as it was -/
def penL (c : Addr) (a l : Int) : List (Key × V) := [(.inr "cells", .ref c), (.inr "at", .int a), (.inr "left", .int l)]
/-- .. and that thing is a pen that keeps its cells -/
structure SameX (p : Addr) (H H' : Hp) : Prop where
  all : ∀ b o, H b = some o → b ≠ p → H' b = some o
  pen : ∀ c a l, H p = some (.dK (penL c a l)) → ∃ a' l', H' p = some (.dK (penL c a' l'))
theorem SameX.trans {p : Addr} {H H1 H2 : Hp} (a : SameX p H H1) (b : SameX p H1 H2) : SameX p H H2 :=
  ⟨fun c o h n => b.all c o (a.all c o h n) n, fun c x l h => let ⟨x', l', h'⟩ := a.pen c x l h; b.pen c x' l' h'⟩
theorem Same.x {p : Addr} {H H' : Hp} (a : Same H H') : SameX p H H' := ⟨fun b o h _ => a b o h, fun _ x l h => ⟨x, l, a _ _ h⟩⟩
theorem SameX.upd {p c : Addr} {H : Hp} {a l a' l' : Int} (h : H p = some (.dK (penL c a l))) : SameX p H (upd H p (.dK (penL c a' l'))) :=
  ⟨fun b o e hb => by rw [upd_ne hb]; exact e, fun c' x y e => by rw [h] at e; cases e; exact ⟨a', l', upd_same⟩⟩
theorem SB.mono {m n : Nat} {q : Rat} (h : SB m q) (l : m ≤ n) : SB n q := ⟨h.1.mono l, h.2.mono l⟩
theorem Bt.ediv {n : Nat} {i c : Int} (h : Bt n i) (hc : 0 < c) : Bt n (i / c) := by
  rw [← Int.fdiv_eq_ediv_of_nonneg i (Int.le_of_lt hc)]; exact intBits_fdiv_le h
theorem Bt.gl {n : Nat} {a b : Int} (h : Bt n a) (ha : a ≠ 0) : Bt n (gI a b) :=
  h.of_le (Nat.le_of_dvd (by omega) (Int.natAbs_dvd_natAbs.mpr (gI_dvd_left a b)))
theorem Bt.gr {n : Nat} {a b : Int} (h : Bt n b) (hb : b ≠ 0) : Bt n (gI a b) := by rw [gI_comm]; exact h.gl hb
theorem SB.divInt {n : Nat} {t b : Int} (ht : Bt n t) (hb : Bt n b) (h0 : 0 < b) : SB n (Rat.divInt t b) := by
  have e := share_pos (t := t) h0
  have g := gI_pos_right (a := t) (b := b) (by omega)
  exact ⟨by rw [← e.1]; exact ht.ediv g, by rw [← e.2]; exact hb.ediv g⟩
end L2

set_option Elab.async false
set_option linter.all false
set_option maxRecDepth 100000
set_option maxHeartbeats 4000000
namespace L2
open PySem PySem.Spec PyProof.Rows
/-! ### a list comprehension of one clause -/
theorem closure_go {env : Env} : ∀ (ns : List (Str × NameKind)) (cs : List (Str × Addr)), (∀ x ∈ ns, x.2 = .free → ∃ c, env.cells.lookup x.1 = some c) → (∀ x c, cs.lookup x = some c → env.cells.lookup x = some c) →
    ∃ cl, (forIn ns cs (fun (p : Str × NameKind) (r : List (Str × Addr)) => if (p.2 == NameKind.free) = true then (do let c ← cellOf env p.1; pure (ForInStep.yield ((p.1, c) :: r))) else pure (ForInStep.yield r)) : Sem (List (Str × Addr))) = pure cl ∧
      (∀ x c, cl.lookup x = some c → env.cells.lookup x = some c) ∧ (∀ x, (x, NameKind.free) ∈ ns → ∃ c, cl.lookup x = some c) ∧ (∀ x c, cs.lookup x = some c → ∃ c', cl.lookup x = some c')
  | [], cs, _, hcs => ⟨cs, rfl, hcs, fun _ h => (by simp at h), fun x c h => ⟨c, h⟩⟩
  | (n, k) :: r, cs, hall, hcs => by
    by_cases hk : k = .free
    · subst hk
      obtain ⟨c, hc⟩ := hall (n, .free) (by simp) rfl
      have hce : cellOf env n = pure c := by unfold cellOf; rw [hc]
      have hcs' : ∀ x d, ((n, c) :: cs).lookup x = some d → env.cells.lookup x = some d := fun x d h => by
        rw [List.lookup_cons] at h
        cases e : x == n with
        | true => rw [e] at h; cases h; rw [eq_of_beq e]; exact hc
        | false => rw [e] at h; exact hcs x d h
      obtain ⟨cl, e, h1, h2, h3⟩ := closure_go r ((n, c) :: cs) (fun x hx => hall x (by simp [hx])) hcs'
      refine ⟨cl, ?_, h1, fun x hx => ?_, fun x d hd => ?_⟩
      · rw [List.forIn_cons, ← e]
        show (cellOf env n >>= _) >>= _ = _
        rw [hce]
        rfl
      · rcases List.mem_cons.mp hx with z | z
        · cases z
          exact h3 n c (by simp)
        · exact h2 x z
      · cases q : x == n with
        | true => exact h3 x c (by rw [List.lookup_cons, q])
        | false => exact h3 x d (by rw [List.lookup_cons, q]; exact hd)
    · obtain ⟨cl, e, h1, h2, h3⟩ := closure_go r cs (fun x hx => hall x (by simp [hx])) hcs
      refine ⟨cl, ?_, h1, fun x hx => ?_, h3⟩
      · rw [List.forIn_cons, ← e]
        have : (k == NameKind.free) = false := by simpa using hk
        simp only [this, Bool.false_eq_true, if_false]
        rfl
      · rcases List.mem_cons.mp hx with z | z
        · cases z
          exact absurd rfl hk
        · exact h2 x z
theorem closure_of {env : Env} {scope : Scope} (hall : ∀ x ∈ scope.names, x.2 = .free → ∃ c, env.cells.lookup x.1 = some c) :
    ∃ cl, closureFor scope env = pure cl ∧ (∀ x c, cl.lookup x = some c → env.cells.lookup x = some c) ∧ (∀ x, (x, NameKind.free) ∈ scope.names → ∃ c, cl.lookup x = some c) := by
  obtain ⟨cl, e, h1, h2, _⟩ := closure_go (env := env) scope.names [] hall (fun x c h => by simp at h)
  refine ⟨cl, ?_, h1, h2⟩
  simp only [closureFor]
  rw [e]
  rfl
/-- the block of a comprehension -/
def cxComp (X : Cx) (scope : Scope) (N : List Str) (cl : List (Str × Addr)) (C : Addr) (s : Shared) (H : Hp) (ex : List Addr) : Cx :=
  { X with N := N, s₀ := s, H₀ := H, env := compEnvC scope cl C X.env, outer := X.stack, stack := X.stack, ex := ex, fn := fun _ => false, pn := [] }
def PTs (X : Cx) (ifs : List Expr) (t : TT) : Prop :=
  ∀ (pins : List (Addr × Obj)) (s : Shared) (σ : St) (H : Hp) (Q : Bool → Hp → Prop), Inv X pins σ H s → t σ H Q →
    wpAny (model X.prog X.w) X.A (forIn ifs true fun c r => if r = true then do let ok ← isTrue c X.env (eval c X.env); pure (ForInStep.yield ok) else pure (ForInStep.yield r)) (TP X pins σ Q) X.xe s
def tTT : TT := fun _ H Q => Q true H
theorem pts_nil {X : Cx} : PTs X [] tTT := fun pins s σ H Q I h => wpAny_tests_nil ⟨H, I, h⟩
theorem pts_one {X : Cx} {c : Expr} {t : TT} (h : PT X c t) : PTs X [c] t := fun pins s σ H Q I hw => wpAny_tests_one (h pins s σ H Q I hw)
def tComp (σ0 : St → St) (wi : TI) (g : TG) (tc : TT) (te : TE) : TE := fun σ H Q => wi σ H fun J H1 => ∀ p, H1 p = none → ∃ W : Nat → Nat → List V → St → Hp → Prop, (∃ m, W 0 m [] (σ0 σ) (upd H1 p (.lst []))) ∧ ∀ i m ys σ' H', W i m ys σ' H' →
  (J.stop i H' ∧ Q (.ref p) H') ∨ (J.go i H' ∧ ∀ x H2, J.yld i H' x H2 → g x σ' H2 fun σ2 H3 => tc σ2 H3 fun b H4 => if b = true then te σ2 H4 fun v H5 => ys.length < sizeLine ∧ H5 p = some (.lst ys) ∧ (∃ m', m' < m ∧ W (i + 1) m' (ys ++ [v]) σ2 (upd H5 p (.lst (ys ++ [v]))))
    else ∃ m', m' < m ∧ W (i + 1) m' ys σ2 H4)
/-- which of the def's values the block sees -/
def Sees (X : Cx) (scope : Scope) (N : List Str) (σ0 : St → St) : Prop :=
  ∀ σ : St, (σ0 σ).length = N.length ∧ ∀ (i : Nat) (x : Str) (v : V), N[i]? = some x → (σ0 σ)[i]? = some (some v) → scope.names.lookup x = some .free ∧ ∃ j : Nat, X.N[j]? = some x ∧ σ[j]? = some (some v)
theorem lookup_relabel_mem {env : Env} {names : List (Str × NameKind)} {x : Str} : ∀ {k}, (names.map fun (n, k) => if (k == NameKind.free && env.scope.kind == .function && env.kindOf n == some .cell) = true then (n, NameKind.cell) else (n, k)).lookup x = some k → (x, k) ∈ names ∨ (k = .cell ∧ (x, NameKind.free) ∈ names) := by
  induction names with
  | nil => intro k h; simp at h
  | cons a r ih =>
    intro k h
    obtain ⟨n, k0⟩ := a
    rw [List.map_cons] at h
    dsimp only at h
    by_cases hc : (k0 == NameKind.free && env.scope.kind == .function && env.kindOf n == some .cell) = true
    · rw [if_pos hc] at h
      have hk0 : k0 = .free := by
        simp only [Bool.and_eq_true, beq_iff_eq] at hc
        exact hc.1.1
      rw [List.lookup_cons] at h
      cases e : x == n with
      | true =>
        rw [e] at h
        cases h
        exact .inr ⟨rfl, by rw [eq_of_beq e, hk0]; simp⟩
      | false =>
        rw [e] at h
        rcases ih h with z | ⟨z1, z2⟩
        · exact .inl (List.mem_cons_of_mem _ z)
        · exact .inr ⟨z1, List.mem_cons_of_mem _ z2⟩
    · rw [if_neg hc] at h
      rw [List.lookup_cons] at h
      cases e : x == n with
      | true =>
        rw [e] at h
        cases h
        exact .inl (by rw [eq_of_beq e]; simp)
      | false =>
        rw [e] at h
        rcases ih h with z | ⟨z1, z2⟩
        · exact .inl (List.mem_cons_of_mem _ z)
        · exact .inr ⟨z1, List.mem_cons_of_mem _ z2⟩
theorem lookup_relabel_free {env : Env} {x : Str} : ∀ {names : List (Str × NameKind)}, names.lookup x = some .free →
    (names.map fun (n, k) => if (k == NameKind.free && env.scope.kind == .function && env.kindOf n == some .cell) = true then (n, NameKind.cell) else (n, k)).lookup x = some .cell ∨ (names.map fun (n, k) => if (k == NameKind.free && env.scope.kind == .function && env.kindOf n == some .cell) = true then (n, NameKind.cell) else (n, k)).lookup x = some .free
  | [], h => by simp at h
  | (n, k0) :: r, h => by
    rw [List.lookup_cons] at h
    rw [List.map_cons]
    dsimp only
    cases e : x == n with
    | true =>
      rw [e] at h
      cases h
      by_cases hc : (NameKind.free == NameKind.free && env.scope.kind == .function && env.kindOf n == some .cell) = true
      · rw [if_pos hc]; left; rw [List.lookup_cons, e]
      · rw [if_neg hc]; right; rw [List.lookup_cons, e]
    | false =>
      rw [e] at h
      have ih := lookup_relabel_free (env := env) h
      by_cases hc : (k0 == NameKind.free && env.scope.kind == .function && env.kindOf n == some .cell) = true
      · rw [if_pos hc, List.lookup_cons, e]; exact ih
      · rw [if_neg hc, List.lookup_cons, e]; exact ih
theorem mem_of_lookupF {x : Str} {k : NameKind} : ∀ {names : List (Str × NameKind)}, names.lookup x = some k → (x, k) ∈ names := fun h => PySem.mem_of_lookup h
theorem pe_comp {X : Cx} {elt tg iter : Expr} {ifs : List Expr} {scope : Scope} {pos : Pos} {wi : TI} {g : TG} {tc : TT} {te : TE} {N : List Str} {σ0 : St → St}
    (hc : X.calm = true) (hxe : ∀ e s, X.xe e s → False) (hcell : ∀ y ∈ scope.names, y.2 ≠ .cell) (hkind : scope.kind = .function) (hnames : ∀ y ∈ scope.names, y.2 = .local → scope.names.lookup y.1 = some .local)
    (hfr : ∀ y ∈ scope.names, y.2 = .free → X.env.kindOf y.1 = some .cell ∨ X.env.kindOf y.1 = some .free) (hσ : Sees X scope N σ0)
    (hi : PI X tg iter wi)
    (hg : ∀ cl C s H ex, PG (cxComp X scope N cl C s H ex) tg g) (ht : ∀ cl C s H ex, PTs (cxComp X scope N cl C s H ex) ifs tc) (he : ∀ cl C s H ex, PE (cxComp X scope N cl C s H ex) elt te)
    (hs : ∀ x, foldedSetIterable iter X.env x = pure x := by intro _; rfl) : PE X (.ListComp elt [⟨tg, iter, ifs, 0⟩] scope pos) (tComp σ0 wi g tc te) := by
  intro pins s σ H Q I h
  obtain ⟨cl, hclos, hcl1, hcl2⟩ := closure_of (env := X.env) (scope := scope) fun y hy hf => I.ok.has y.1 (hfr y hy hf)
  rw [eval_ListComp]
  refine wpAny_comprehension_free (use := none) rfl hs hclos hkind hnames (thn (hi pins s σ H _ I h) fun v s1 h1 => thn h1 fun itv s2 h2 => ?_)
  obtain ⟨it, fp, tn, J, H2, e, I2, T, st2, f2, h3⟩ := h2
  subst e
  have hpn : H2 s2.heap.objs.size = none := I2.hok.fresh (Nat.le_refl _)
  obtain ⟨W, ⟨m0, w0⟩, turn⟩ := h3 _ hpn
  refine wpAny_newObj_type ?_
  generalize hp : s2.heap.objs.size = p at *
  have I3 : Inv X pins σ (upd H2 p (.lst [])) { s2 with heap := s2.heap.push { cls := .type "list", dict := none, data := .seq ([] : List Value).toArray } } := by
    refine I2.laid (a := p) (o := .lst []) (t' := s2.toks) (fun b u q => Heap.get?_push_of_some _ q) (Nat.le_of_eq hp) ⟨Nat.zero_le _, [], 0, .nil, ?_⟩
    rw [← hp]
    exact Heap.get?_push_size _ rfl
  have hf3 : ∀ b ∈ fp, FpOk X pins (upd H2 p (.lst [])) b := fun b hb => by
    obtain ⟨o, ho, _⟩ := T.obj _ _ st2 b hb
    have : b ≠ p := by rw [← hp]; exact Nat.ne_of_lt (Heap.lt_size ho)
    exact ⟨by rw [upd_ne this]; exact (f2 b hb).1, (f2 b hb).2⟩
  generalize hs3 : ({ s2 with heap := s2.heap.push { cls := .type "list", dict := none, data := .seq ([] : List Value).toArray } } : Shared) = s3 at *
  have st3 : tn 0 s3.heap := by rw [← hs3]; exact T.keep _ _ _ st2 fun b _ o e => Heap.get?_push_of_some _ e
  generalize hH3 : upd H2 p (.lst []) = H3 at *
  refine wpAny_newFunctionEnv hcell (by intro y hy; simp at hy) (fun h1 hns1 hsb1 => ?_) hkind
  generalize hC : s3.heap.objs.size = C at *
  have keep : ∀ b u, s3.heap.get? b = some u → h1.get? b = some u := fun b u q =>
    hsb1.extBut b u (by rw [← hC]; exact Nat.ne_of_lt (Heap.lt_size q)) (Heap.get?_push_of_some _ q)
  have fpC : ∀ b ∈ fp, b ≠ C := fun b hb => by
    obtain ⟨o, ho, _⟩ := T.obj _ _ st3 b hb
    rw [← hC]; exact Nat.ne_of_lt (Heap.lt_size ho)
  have hCn : H3 C = none := I3.hok.fresh (Nat.le_of_eq hC)
  -- the block's own invariant, at its entry
  have ok' : (cxComp X scope N cl C s3 H3 fp).Ok := by
    refine ⟨I3.mod, hkind, I3.ok.glob, I3.ok.blt, Nat.le_of_eq hC, fun x y c a b => I3.ok.inj x y c (hcl1 x c a) (hcl1 y c b), fun x hx => ?_, fun _ _ z => Bool.noConfusion (show false = true from z), I3.ok.hd, I3.ok.frames, .inl rfl, fun b hb => ⟨fpC b hb, fun x c q => (hf3 b hb).2.2.2.2.1 x c (hcl1 x c q)⟩,
      I3.bs, Nat.le_trans I3.ok.bsz I3.sz, fun b o e hb => ?_, fun b hb z => ?_, I3.stack, I3.stkFree⟩
    · have hx' : (relabel scope X.env).names.lookup x = some .cell ∨ (relabel scope X.env).names.lookup x = some .free := hx
      rcases hx' with z | z
      · rcases lookup_relabel_mem z with y | ⟨_, y⟩
        · exact absurd rfl (hcell _ y)
        · exact hcl2 x y
      · rcases lookup_relabel_mem z with y | ⟨y, _⟩
        · exact hcl2 x y
        · cases y
    · rcases (hf3 b hb).2.2.2.1 with z | z
      · exact I3.ok.noex b o e z
      · exact absurd (Nat.lt_of_lt_of_le (Heap.lt_size e) (Nat.le_trans I3.ok.bsz z)) (Nat.lt_irrefl _)
    · rcases List.mem_cons.mp (I3.stkSub b z) with q | q
      · exact (hf3 b hb).2.1 q
      · exact (hf3 b hb).2.2.1 q
  have J0 : Inv (cxComp X scope N cl C s3 H3 fp) [] (σ0 σ) H3 { s3 with heap := h1, toks := s3.toks + ([] : List (Str × Value)).length } := by
    refine ⟨ok', rfl, I3.bare, Un.kept keep, ⟨_, hns1, fun i x v a b c => ?_⟩, fun x c q => ?_, hCn, fun x c q => I3.freeC x c (hcl1 x c q), fun q hq => absurd (show q ∈ ([] : List (Addr × Obj)) from hq) (by simp), I3.hok.kept keep, (hσ σ).1⟩
    · obtain ⟨hf, j, hj, hv⟩ := (hσ σ).2 i x v a b
      have hm := mem_of_lookupF hf
      obtain ⟨m, hn, hl⟩ := id I3.loc
      have hk := hfr _ hm rfl
      have hvis : Vis X.env.scope x := hk.elim (fun z => .inr (.inl z)) fun z => .inr (.inr z)
      obtain ⟨u, r, lk⟩ := hl j x v hj hv hvis
      refine ⟨u, r, .inr ⟨lookup_relabel_free hf, ?_⟩⟩
      obtain ⟨c', hc'⟩ := hcl2 x hm
      refine ⟨c', hc', ?_⟩
      have hx := hcl1 x c' hc'
      rcases lk with ⟨kl, _⟩ | ⟨_, c2, e2, o2, ho2, hd2⟩
      · rcases hk with z | z <;> rw [kl] at z <;> cases z
      · rw [hx] at e2
        cases e2
        exact ⟨o2, keep _ _ ho2, hd2⟩
    · obtain ⟨v, o, ho, hd⟩ := I3.cell x c (hcl1 x c q)
      exact ⟨v, o, keep _ _ ho, hd⟩
  have st4 : tn 0 h1 := T.keep _ _ _ st3 fun b _ o e => keep b o e
  have stat : ∀ {H' : Hp}, (∀ b ∈ fp, H' b = none) → ∀ b ∈ fp, FpOk (cxComp X scope N cl C s3 H3 fp) [] H' b := fun hn b hb =>
    ⟨hn b hb, fpC b hb, fun z => ok'.exfs b hb z, .inl hb, fun x c q => (hf3 b hb).2.2.2.2.1 x c (hcl1 x c q), fun q hq => absurd (show q ∈ ([] : List (Addr × Obj)) from hq) (by simp)⟩
  -- back to the def
  have back : ∀ {σ' : St} {H' : Hp} {s' : Shared} {pl : List (Addr × Obj)}, Inv (cxComp X scope N cl C s3 H3 fp) pl σ' H' s' → ∀ h', Heap.SameBut C s'.heap h' → Inv X pins σ H' { s' with heap := h' } := fun {σ' H' s' pl} J h' hsb => by
    have I5 : Inv X pins σ H' s' := Inv.call' (ch := fp) I3 J.os J.base J.hok J.bare fun b hb => ⟨(hf3 b hb).2.2.2.1, (hf3 b hb).2.1, (hf3 b hb).2.2.2.2.1, (hf3 b hb).2.2.2.2.2⟩
    refine Inv.turned (it := C) (t' := s'.toks) I5 (fun b o hb e => hsb.extBut b o hb e) J.free (fun z => ?_) (.inr ?_) (fun x c q z => ?_) fun q hq z => ?_
    · exact absurd (show X.env.locals < C by rw [← hC]; exact I3.lt) (by rw [z]; exact Nat.lt_irrefl _)
    · rw [← hC]; exact I3.sz
    · obtain ⟨v, o, ho, _⟩ := I3.cell x c q
      have := Heap.lt_size ho
      rw [z, hC] at this
      exact Nat.lt_irrefl _ this
    · have := Heap.lt_size (I3.pin q hq).1
      rw [z, hC] at this
      exact Nat.lt_irrefl _ this
  have loop : codeAny (model X.prog X.w) X.A (.compLoop (.ListComp elt [⟨tg, iter, ifs, 0⟩] scope pos) 0 (.ref it) (.ref p) (compEnvC scope cl C X.env)) (compPost (model X.prog X.w) X.A X.xe none (EP X pins σ Q) (.ref p) C) { s3 with heap := h1, toks := s3.toks + ([] : List (Str × Value)).length } := by
    refine codeAny_loop rfl (fun n s' => ∃ i ys σ' H', Inv (cxComp X scope N cl C s3 H3 fp) [] σ' H' s' ∧ tn i s'.heap ∧ (∀ b ∈ fp, H' b = none) ∧ W i n ys σ' H') (fun n s' hI => ?_) m0 ⟨0, [], σ0 σ, H3, J0, st4, fun b hb => (hf3 b hb).1, w0⟩
    obtain ⟨i, ys, σ', H', J', st', fr', w'⟩ := hI
    show wpAny _ X.A ((compTurn (.ListComp elt [⟨tg, iter, ifs, 0⟩] scope pos) 0 (.ref it) (.ref p) (compEnvC scope cl C X.env)).onRaise (fun x => do noteFrame x (compEnvC scope cl C X.env); theTreesLotGoes x)) _ _ s'
    refine wpAny_noted ?_
    rw [compTurn_list]
    rcases turn i n ys σ' H' w' with ⟨stop, q⟩ | ⟨go, step⟩
    · refine wpAny_bind (wpAny_standAt (wpAny_bind (wpAny_mono (T.done (cxComp X scope N cl C s3 H3 fp) rfl rfl rfl hc i [] s' σ' H' X.xe J' (stat fr') st' stop) (fun r s4 h4 => ?_) fun _ _ x => (hxe _ _ x).elim)))
      obtain ⟨hr, I4⟩ := h4
      subst hr
      refine wpAny_pure ?_
      obtain ⟨m, hn, _⟩ := id I4.loc
      exact ⟨m, hn, fun h' hsb => ⟨.ref p, H', back I4 h' hsb, rfl, q⟩⟩
    · refine wpAny_bind (wpAny_standAt (wpAny_bind (wpAny_mono (T.item (cxComp X scope N cl C s3 H3 fp) rfl rfl rfl hc i [] s' σ' H' X.xe J' (stat fr') st' go) (fun r s4 h4 => ?_) fun _ _ x => (hxe _ _ x).elim)))
      obtain ⟨u, hr, h4⟩ := h4
      subst hr
      refine wpAny_bind (wpAny_mono h4 (fun _ s5 h5 => ?_) fun _ _ x => (hxe _ _ x).elim)
      obtain ⟨x, H5, I5, r5, y5, st5, fr5⟩ := h5
      have I5' := I5.pinned (stat fr5) (T.obj _ _ st5)
      refine wpAny_bind (wpAny_mono (hg cl C s3 H3 fp _ s5 σ' H5 x u _ I5' r5 (step x H5 y5)) (fun _ s6 h6 => ?_) fun _ _ x => (hxe _ _ x).elim)
      obtain ⟨σ6, H6, I6, q6⟩ := h6
      have again : ∀ {σ7 : St} {H7 : Hp} {s7 : Shared} {ys7 : List V}, Inv (cxComp X scope N cl C s3 H3 fp) ([] ++ pinsAt fp s5.heap) σ7 H7 s7 → (∃ m', m' < n ∧ W (i + 1) m' ys7 σ7 H7) →
          ∃ m, m < n ∧ ∃ i ys σ' H', Inv (cxComp X scope N cl C s3 H3 fp) [] σ' H' s7 ∧ tn i s7.heap ∧ (∀ b ∈ fp, H' b = none) ∧ W i m ys σ' H' := fun {σ7 H7 s7 ys7} I7 n7 => by
        obtain ⟨m', hm, w7⟩ := n7
        refine ⟨m', hm, i + 1, ys7, σ7, H7, I7.unpinned, T.keep _ _ _ st5 fun b hb o e => (I7.pin (b, o) (List.mem_append_right _ (List.mem_append_right _ (mem_pinsAt hb e)))).1, fun b hb => ?_, w7⟩
        obtain ⟨o, e, d⟩ := T.obj _ _ st5 b hb
        exact (I7.pin (b, o) (List.mem_append_right _ (List.mem_append_right _ (mem_pinsAt hb e)))).2.1
      refine wpAny_bind (wpAny_mono (ht cl C s3 H3 fp _ s6 σ6 H6 _ I6 q6) (fun ok s7 h7 => ?_) fun _ _ x => (hxe _ _ x).elim)
      obtain ⟨H7, I7, q7⟩ := h7
      cases ok with
      | false =>
        rw [if_neg Bool.false_ne_true] at q7
        exact wpAny_pure ⟨rfl, again I7 q7⟩
      | true =>
        rw [if_pos rfl] at q7
        refine wpAny_bind (wpAny_bind (wpAny_mono (he cl C s3 H3 fp _ s7 σ6 H7 _ I7 q7) (fun y s8 h8 => ?_) fun _ _ x => (hxe _ _ x).elim))
        obtain ⟨v, H8, I8, r8, hz, hH8, w8⟩ := h8
        refine wpAny_bind (wpAny_mono (mt_append (X := cxComp X scope N cl C s3 H3 fp) _ s8 σ6 H8 (.ref p) [v] (.ref p) [y] (fun x H9 => x = .non ∧ H9 = upd H8 p (.lst (ys ++ [v]))) I8 rfl (.cons r8 .nil) ⟨p, ys, v, rfl, rfl, hH8, hz, rfl, rfl⟩) (fun _ s9 h9 => ?_) fun _ _ x => (hxe _ _ x).elim)
        obtain ⟨z, H9, I9, _, _, e9⟩ := h9
        subst e9
        exact wpAny_pure (wpAny_pure ⟨rfl, again I9 w8⟩)
  exact codeAny_compStart_list loop (T.self X.A 0 _ _ _ st4 loop)
end L2
namespace L2
open PySem PySem.Spec PyProof.Rows
section
variable {X : Cx}
end
end L2

set_option Elab.async false
set_option linter.all false
set_option maxRecDepth 100000
set_option maxHeartbeats 4000000
namespace L2
open PySem PySem.Spec PyProof.Rows
section
variable {X : Cx}
end
end L2
namespace L2
open MA
end L2
namespace My
open PySem L2 MA
section
variable {P : Program} {w : World} {K : PySem.W.Frag} {mg : Str → Option Value} {base : Heap}
structure Txt (mg : Str → Option Value) : Prop where
  z_abs : mg "abs" = none
  z_len : mg "len" = none
  z_isinstance : mg "isinstance" = none
  z_range : mg "range" = none
  z_int : mg "int" = none
  z_bool : mg "bool" = none
  z_tuple : mg "tuple" = none
  z_list : mg "list" = none
  z_all : mg "all" = none
def spMeasure : Sp := fun vs H Q _ => ∃ a b : Int, vs = [.int a, .int b] ∧ Q (.int (gI a b)) H
/-- a list of shares and what they stand for -/
def Shs (H : Hp) : List V → List Rat → Prop := Paired (ShAt H)
theorem Shs.same {H H' : Hp} (s : Same H H') : ∀ {xs : List V} {qs : List Rat}, Shs H xs qs → Shs H' xs qs
  | _, _, .nil => .nil
  | _, _, .cons r t => .cons (r.same s) (Shs.same s t)
theorem Paired.at' {α β : Type} {R : α → β → Prop} : ∀ {xs : List α} {ys : List β} {i : Nat} {x : α}, Paired R xs ys → xs[i]? = some x → ∃ y, ys[i]? = some y ∧ R x y
  | _, _, _, _, .nil, e => by simp at e
  | _, _, 0, _, .cons r _, e => by simp at e; subst e; exact ⟨_, rfl, r⟩
  | _, _, i + 1, x, .cons _ t, e => by
    obtain ⟨u, h1, h2⟩ := Paired.at' (i := i) (x := x) t (by simpa using e)
    exact ⟨u, by simpa using h1, h2⟩
/-- the pen: where it stands in the script, n draws at most so far -/
def Pen (H : Hp) (p : Addr) (n : Nat) : Prop := ∃ (c : Addr) (ns : List Int) (a l : Int), H p = some (.dK (penL c a l)) ∧ H c = some (.lst (ns.map V.int)) ∧ 0 ≤ a ∧ a ≤ n
theorem Pen.mono {H : Hp} {p : Addr} {m n : Nat} (h : Pen H p m) (l : m ≤ n) : Pen H p n := let ⟨c, ns, a, x, h1, h2, h3, h4⟩ := h; ⟨c, ns, a, x, h1, h2, h3, by omega⟩
theorem Pen.same {H H' : Hp} {p : Addr} {n : Nat} (h : Pen H p n) (s : Same H H') : Pen H' p n := let ⟨c, ns, a, x, h1, h2, h3, h4⟩ := h; ⟨c, ns, a, x, s _ _ h1, s _ _ h2, h3, h4⟩
theorem Pen.dk {H : Hp} {p : Addr} {n : Nat} (h : Pen H p n) : ∃ kvs, H p = some (.dK kvs) := let ⟨c, ns, a, x, h1, _⟩ := h; ⟨_, h1⟩
theorem pen_cells (c : Addr) (a l : Int) : valV (penL c a l) (.inr "cells" : Key) = some (.ref c) := by rfl

theorem pen_at (c : Addr) (a l : Int) : valV (penL c a l) (.inr "at" : Key) = some (.int a) := by rfl
theorem pen_left (c : Addr) (a l : Int) : valV (penL c a l) (.inr "left" : Key) = some (.int l) := by rfl
theorem put_at (c : Addr) (a l b : Int) : putK (penL c a l) (.inr "at" : Key) (.int b) = penL c b l := by rfl
theorem put_left (c : Addr) (a l b : Int) : putK (penL c a l) (.inr "left" : Key) (.int b) = penL c a b := by rfl
theorem get_cells {H : Hp} {p c : Addr} {a l : Int} (h : H p = some (.dK (penL c a l))) : DGet H p (.str "cells") (some (.ref c)) := by
  have := DGet.k (k := (.inr "cells" : Key)) h; rw [pen_cells] at this; exact this
theorem get_at {H : Hp} {p c : Addr} {a l : Int} (h : H p = some (.dK (penL c a l))) : DGet H p (.str "at") (some (.int a)) := by
  have := DGet.k (k := (.inr "at" : Key)) h; rw [pen_at] at this; exact this
theorem get_left {H : Hp} {p c : Addr} {a l : Int} (h : H p = some (.dK (penL c a l))) : DGet H p (.str "left") (some (.int l)) := by
  have := DGet.k (k := (.inr "left" : Key)) h; rw [pen_left] at this; exact this
theorem dput_at {H : Hp} {p c : Addr} {a l b : Int} (h : H p = some (.dK (penL c a l))) : DPut H p (.str "at") (.int b) (upd H p (.dK (penL c b l))) := by
  have := DPut.k (k := (.inr "at" : Key)) (v := .int b) h (by show 3 < sizeLine; decide); rw [put_at] at this; exact this
theorem dput_left {H : Hp} {p c : Addr} {a l b : Int} (h : H p = some (.dK (penL c a l))) : DPut H p (.str "left") (.int b) (upd H p (.dK (penL c a b))) := by
  have := DPut.k (k := (.inr "left" : Key)) (v := .int b) h (by show 3 < sizeLine; decide); rw [put_left] at this; exact this
theorem cell_at {ns : List Int} (a : Int) (h : 0 < ns.length) : ∃ z : Int, atI (ns.map V.int) (a % (((ns.map V.int).length : Nat) : Int)) = some (.int z) := by
  rw [List.length_map]
  have h0 := Int.emod_nonneg a (show ((ns.length : Nat) : Int) ≠ 0 by omega)
  have h1 := Int.emod_lt_of_pos a (show 0 < ((ns.length : Nat) : Int) by omega)
  have hk : (a % (ns.length : Int)).toNat < ns.length := by omega
  have ek : a % (ns.length : Int) = (((a % (ns.length : Int)).toNat : Nat) : Int) := by omega
  refine ⟨ns[(a % (ns.length : Int)).toNat], ?_⟩
  have q : atI (ns.map V.int) (((a % (ns.length : Int)).toNat : Nat) : Int) = some (.int ns[(a % (ns.length : Int)).toNat]) := atI_nat (by rw [List.getElem?_map, List.getElem?_eq_getElem hk] <;> rfl)
  rw [← ek] at q
  exact q
def spDraw : Sp := fun vs H Q _ => ∃ (p : Addr) (m : Int) (n : Nat), vs = [.ref p, .int m] ∧ Pen H p n ∧ n < 100000 ∧ 0 < m ∧ m < 1073741824 ∧ ∀ (r : Int) (H' : Hp), 0 ≤ r → r < m → Pen H' p (n + 1) → SameX p H H' → Q (.int r) H'
def spPen (K : PySem.W.Frag) : Sp := fun vs H Q _ => ∃ (a : Addr) (ns : List Int), vs = [.ref a] ∧ SqL K H a (ns.map V.int) ∧ ∀ (p : Addr) (H' : Hp), Same H H' → Pen H' p 0 → Q (.ref p) H'
theorem cut_ints (ns : List Int) (lo hi : Option Int) : ∃ ms : List Int, cutV (ns.map V.int) lo hi = ms.map V.int := by
  unfold cutV
  rw [← List.map_drop, ← List.map_take]
  exact ⟨_, rfl⟩
def spLMeasure : Sp := fun vs H Q _ => ∃ a b : Int, vs = [.int a, .int b] ∧ 0 ≤ a ∧ 0 ≤ b ∧ Q (.int (gI a b)) H
def spLaw (K : PySem.W.Frag) : Sp := fun vs H Q _ => ∃ (a : Addr) (ns : List Int), vs = [.ref a] ∧ SqL K H a (ns.map V.int) ∧ ns.length ≤ 63 ∧ ∀ H', Q (.bl true) H'
end
end My
namespace L2
open PySem PySem.Spec PyProof.Rows
end L2

set_option Elab.async false
set_option linter.all false
set_option maxRecDepth 100000
set_option maxHeartbeats 4000000
namespace L2
open PySem PySem.Spec PyProof.Rows
/-! ### repr: what a value is, as plain data -/
mutual
inductive DataV (H : Hp) : V → PyData → Prop
  | non : DataV H .non .none
  | bl (b : Bool) : DataV H (.bl b) (.bool b)
  | int (i : Int) : DataV H (.int i) (.int i)
  | str (x : Str) : DataV H (.str x) (.str x)
  | lst {a : Addr} {xs : List V} {ds : List PyData} : H a = some (.lst xs) → DataL H xs ds → DataV H (.ref a) (.list ds)
  | tup {a : Addr} {xs : List V} {ds : List PyData} : H a = some (.tup xs) → DataL H xs ds → DataV H (.ref a) (.tuple ds)
  | dict {a : Addr} {kvs : List (Key × V)} {ps : List (PyData × PyData)} : H a = some (.dK kvs) → DataL H (kvs.map fun p => kV p.1) (ps.map (·.1)) → DataL H (kvs.map (·.2)) (ps.map (·.2)) → DataV H (.ref a) (.dict ps)
inductive DataL (H : Hp) : List V → List PyData → Prop
  | nil : DataL H [] []
  | cons {x : V} {xs : List V} {d : PyData} {ds : List PyData} : DataV H x d → DataL H xs ds → DataL H (x :: xs) (d :: ds)
end
mutual
def lists : PyData → Bool
  | .list _ => true
  | .tuple xs => listsAll xs
  | .dict kvs => listsKv kvs
  | _ => false
def listsAll : List PyData → Bool
  | [] => false
  | x :: xs => lists x || listsAll xs
def listsKv : List (PyData × PyData) → Bool
  | [] => false
  | (k, v) :: r => lists k || lists v || listsKv r
end
theorem listsKv_eq : ∀ ps : List (PyData × PyData), listsKv ps = false → listsAll (ps.map (·.1)) = false ∧ listsAll (ps.map (·.2)) = false
  | [], _ => ⟨rfl, rfl⟩
  | (k, v) :: r, h => by
    simp only [listsKv, Bool.or_eq_false_iff] at h
    obtain ⟨h1, h2⟩ := listsKv_eq r h.2
    simp only [List.map_cons, listsAll, Bool.or_eq_false_iff]
    exact ⟨⟨h.1.1, h1⟩, ⟨h.1.2, h2⟩⟩
theorem pairs_split {P : Program} {w : World} : ∀ {es : List DictEntry} {vs : List (Key × Value)} {kvs : List (Key × V)}, Pairs (mixKind P w) es vs → KV kvs vs → Vals (kvs.map fun p => kV p.1) (es.map (·.key)) ∧ Vals (kvs.map (·.2)) (es.map (·.val)) := by
  intro es vs kvs h
  induction h generalizing kvs with
  | nil =>
    intro r
    cases r
    exact ⟨.nil, .nil⟩
  | @cons e kv es vs h1 h2 _ ih =>
    intro r
    cases r with
    | @cons p _ kvs' _ hp hr =>
      obtain ⟨a, b⟩ := ih hr
      refine ⟨.cons ?_ a, .cons ?_ b⟩
      · have h1' : keyIs kv.1 e.key = true := h1
        rw [← hp.1] at h1'
        rcases keyIs_shape h1' with ⟨i, t, e1, e2⟩ | ⟨x, t, e1, e2⟩
        · show RelV (kV p.1) e.key
          rw [e1, e2]; exact ⟨t, rfl⟩
        · show RelV (kV p.1) e.key
          rw [e1, e2]; exact ⟨t, rfl⟩
      · show RelV p.2 e.val
        rw [h2]; exact hp.2
mutual
theorem reads_of {P : Program} {w : World} {H : Hp} {h : Heap} (ok : HOk P w H h) : ∀ {v : V} {d : PyData} {u : Value}, DataV H v d → RelV v u → ∃ as, Reads h u d as ∧ (lists d = false → sysModules ∉ as)
  | _, _, _, .non, r => by cases r; exact ⟨[], .none, fun _ => by simp⟩
  | _, _, _, .bl b, r => by cases r; exact ⟨[], .bool b, fun _ => by simp⟩
  | _, _, _, .int i, r => by obtain ⟨t, rfl⟩ := r; exact ⟨[], .int i t, fun _ => by simp⟩
  | _, _, _, .str x, r => by obtain ⟨t, rfl⟩ := r; exact ⟨[], .str x t, fun _ => by simp⟩
  | _, _, _, .lst (a := a) (xs := xs) ha hd, r => by
    cases r
    obtain ⟨_, its, n, rv, e⟩ := ok a _ ha
    obtain ⟨as, hr, _⟩ := readsAll_of ok hd rv
    exact ⟨a :: as, .list e rfl rfl (by simpa using hr), fun z => by simp [lists] at z⟩
  | _, _, _, .tup (a := a) (xs := xs) ha hd, r => by
    cases r
    obtain ⟨_, its, rv, o, e, hc, n, hdt, _⟩ := ok a _ ha
    obtain ⟨as, hr, hs⟩ := readsAll_of ok hd rv
    exact ⟨as, .tuple e hc hdt (by simpa using hr), fun z => hs (by simpa [lists] using z)⟩
  | _, _, _, .dict (a := a) (kvs := kvs) (ps := ps) ha hk hv, r => by
    cases r
    obtain ⟨_, hm, vs, rv, o, es, ep, e, hx, hdt, _, hp, _⟩ := ok a _ ha
    obtain ⟨rk, rvv⟩ := pairs_split hp rv
    obtain ⟨as, hr, hs⟩ := readsAll_of ok hk rk
    obtain ⟨bs, hr', hs'⟩ := readsAll_of ok hv rvv
    refine ⟨a :: as ++ bs, .dict e hx.1 hdt hr hr', fun z => ?_⟩
    obtain ⟨z1, z2⟩ := listsKv_eq ps (by simpa [lists] using z)
    have hne : a ≠ sysModules := by simpa using hm
    simp only [List.cons_append, List.mem_cons, List.mem_append, not_or]
    exact ⟨fun q => hne q.symm, hs z1, hs' z2⟩
theorem readsAll_of {P : Program} {w : World} {H : Hp} {h : Heap} (ok : HOk P w H h) : ∀ {vs : List V} {ds : List PyData} {us : List Value}, DataL H vs ds → Vals vs us → ∃ as, ReadsAll h us ds as ∧ (listsAll ds = false → sysModules ∉ as)
  | _, _, _, .nil, r => by cases r; exact ⟨[], .nil, fun _ => by simp⟩
  | _, _, _, .cons hx hd, r => by
    cases r with
    | cons r1 r2 =>
      obtain ⟨as, h1, s1⟩ := reads_of ok hx r1
      obtain ⟨bs, h2, s2⟩ := readsAll_of ok hd r2
      refine ⟨as ++ bs, .cons h1 h2, fun z => ?_⟩
      simp only [listsAll, Bool.or_eq_false_iff] at z
      simp only [List.mem_append, not_or]
      exact ⟨s1 z.1, s2 z.2⟩
end
theorem bt_repr : bootBuiltins "repr" = some (.builtin "repr") := by decide +kernel
section
variable {X : Cx}
/-- repr(x), x plain data -/
def rRepr : List V → Hp → VK → Prop := fun xs H Q => ∃ v d, xs = [v] ∧ DataV H v d ∧ d.showable = true ∧ (d.hasDict = true → lists d = false) ∧ d.depth ≤ 20 ∧ d.shown.length ≤ sizeLine ∧ Q (.str d.shown) H
theorem call_repr {k : Nat} (hr : Room k X.A) : CallR X (.builtin "repr") rRepr := by
  intro pins s σ H xs us Q I r h
  obtain ⟨v, d, rfl, hd, hs, hl, hdp, hz, q⟩ := h
  obtain ⟨u, rfl, ru⟩ := vals1 r
  obtain ⟨as, rd, hsm⟩ := reads_of I.hok hd ru
  have fin : ∀ h' u tk, (∀ b o, s.heap.get? b = some o → h'.get? b = some o) → EP X pins σ Q (.str d.shown u) { s with heap := h', toks := tk } := fun h' u tk hk =>
    ⟨.str d.shown, H, I.kept (t' := tk) hk, ⟨u, rfl⟩, q⟩
  cases u with
  | ref a => exact repr_of_reads' rd hs (fun z => hsm (hl z)) hr.gd (by have := hr.un; omega) (fun _ _ e => e) fin hz
  | none => cases rd; rw [PyData.shown_none] at fin; exact PySem.P.repr_of_none (fin _ _ _ fun _ _ e => e)
  | bool b => cases rd; rw [PyData.shown_bool] at fin; exact PySem.P.repr_of_bool (fin _ _ _ fun _ _ e => e)
  | int i t => cases rd; rw [PyData.shown_int] at fin; exact PySem.P.repr_of_int (by simpa [PyData.showable] using hs) (fin _ _ _ fun _ _ e => e)
  | str x t => cases rd; rw [PyData.shown_str] at fin hz; exact PySem.P.repr_of_str (fin _ _ _ fun _ _ e => e) hz
  | _ => cases rd
end
end L2

set_option Elab.async false
set_option linter.all false
set_option maxRecDepth 100000
set_option maxHeartbeats 4000000
namespace L2
open PySem PySem.Spec PyProof.Rows MA
/-- plain data that may be shown -/
structure Good (d : PyData) : Prop where
  sh : d.showable = true
  ld : d.hasDict = true → lists d = false
  dp : d.depth ≤ 20
  ln : d.shown.length ≤ sizeLine
structure Sm (n : Nat) (d : PyData) : Prop where
  sh : d.showable = true
  ld : (d.hasDict && lists d) = false
  dp : d.depth ≤ n
  lv : d.leavesShort 40 = true
  bk : d.bulk ≤ n
theorem Sm.good {n : Nat} {d : PyData} (h : Sm n d) (l : n ≤ 100000) (l2 : d.depth ≤ 20) : Good d := by
  refine ⟨h.sh, fun z => ?_, l2, ?_⟩
  · have := h.ld; rw [z] at this; simpa using this
  · have a := PyData.shown_le_bulk 40 (by decide) d h.lv
    have b := h.bk
    have : (40 + 2) * d.bulk ≤ 42 * 100000 := Nat.mul_le_mul (by omega) (by omega)
    rw [sizeLine_eq]
    omega
/-- an int of at most thirty-six figures -/
abbrev I36 (i : Int) : Prop := i.natAbs < 1000000000000000000000000000000000000
theorem sm_int36 {i : Int} (h : I36 i) (n : Nat) : Sm n (.int i) := by
  have h' : i.natAbs < 1000000000000000000000000000000000000 := h
  refine ⟨?_, rfl, Nat.zero_le _, ?_, Nat.zero_le _⟩
  · simp only [PyData.showable, decide_eq_true_eq]
    by_cases z : i.natAbs = 0
    · rw [z]; decide
    · exact (Nat.log2_lt z).mpr (Nat.lt_of_lt_of_le h' (Nat.le_trans (show (1000000000000000000000000000000000000 : Nat) ≤ 2 ^ 120 by decide) (Nat.pow_le_pow_right (by decide) (by decide))))
  · have e := int_text_length_le10 (a := i) (k := 36) (by decide) (Nat.lt_of_lt_of_le h' (by decide))
    simp only [PyData.leavesShort, decide_eq_true_eq]
    show (Str.ofString (toString i)).length ≤ 40
    rw [PySem.ofString_length]; omega
theorem sm_tup {ds : List PyData} {n m : Nat} (h : ∀ d ∈ ds, Sm n d) (hd : (PyData.hasDictAll ds && listsAll ds) = false) (hm : n + 1 ≤ m) (hm2 : ds.length * (n + 1) ≤ m) : Sm m (.tuple ds) := by
  have key : ∀ ds : List PyData, (∀ d ∈ ds, Sm n d) → PyData.showableAll ds = true ∧ PyData.depthAll ds ≤ n ∧ PyData.leavesShortAll 40 ds = true ∧ PyData.bulkAll ds ≤ ds.length * (n + 1) := by
    intro ds
    induction ds with
    | nil => intro _; exact ⟨rfl, Nat.zero_le _, rfl, Nat.zero_le _⟩
    | cons d ds ih =>
      intro h
      obtain ⟨a, b, c, e⟩ := ih fun d hd => h d (List.mem_cons_of_mem _ hd)
      have hd := h d List.mem_cons_self
      refine ⟨by simp [PyData.showableAll, hd.sh, a], by simp only [PyData.depthAll]; exact Nat.max_le.mpr ⟨hd.dp, b⟩, by simp [PyData.leavesShortAll, hd.lv, c], ?_⟩
      simp only [PyData.bulkAll, List.length_cons, Nat.add_mul]
      have := hd.bk
      omega
  obtain ⟨a, b, c, e⟩ := key ds h
  exact ⟨by simpa [PyData.showable] using a, by simpa [PyData.hasDict, lists] using hd, by simp only [PyData.depth]; omega, by simpa [PyData.leavesShort] using c, by simp only [PyData.bulk]; omega⟩
theorem sm_list {ds : List PyData} {n m : Nat} (h : ∀ d ∈ ds, Sm n d) (hd : PyData.hasDictAll ds = false) (hm : n + 1 ≤ m) (hm2 : ds.length * (n + 1) ≤ m) : Sm m (.list ds) := by
  have t := sm_tup (m := m) h (by rw [hd]; rfl) hm hm2
  exact ⟨by have := t.sh; simpa [PyData.showable] using this, by simp [PyData.hasDict, hd], by have := t.dp; simpa [PyData.depth] using this, by have := t.lv; simpa [PyData.leavesShort] using this, by have := t.bk; simpa [PyData.bulk] using this⟩
end L2
namespace L2
open PySem
theorem bt_sum : bootBuiltins "sum" = some (.builtin "sum") := by decide +kernel
theorem bt_sorted : bootBuiltins "sorted" = some (.builtin "sorted") := by decide +kernel
theorem bt_max : bootBuiltins "max" = some (.builtin "max") := by decide +kernel
end L2
namespace My
open PySem L2 MA
structure Txt2 (mg : Str → Option Value) : Prop extends Txt mg where
  z_str : mg "str" = none
  z_repr : mg "repr" = none
  z_dict : mg "dict" = none
  z_sum : mg "sum" = none
  z_sorted : mg "sorted" = none
  z_max : mg "max" = none
  z_min : mg "min" = none
  z_any : mg "any" = none
  z_enumerate : mg "enumerate" = none
  z_zip : mg "zip" = none
  z_set : mg "set" = none
  z_reversed : mg "reversed" = none
  z_ValueError : mg "ValueError" = none
end My

set_option Elab.async false
set_option linter.all false
set_option maxRecDepth 100000
set_option maxHeartbeats 4000000
namespace L2
open PySem PySem.Spec PyProof.Rows
def notStar : Expr → Bool
  | .Starred _ _ => false
  | _ => true
theorem star_cons {e : Expr} {es : List Expr} {env : Env} (h : notStar e = true) : starEach (e :: es) env = (false, eval e env) :: starEach es env := by
  cases e <;> first | rfl | exact absurd h (by simp [notStar])
section
variable {X : Cx} {e : Expr} {es : List Expr} {te : TE} {t : TA} {pos : Pos}
/-- an item of a row, whose rest may be long -/
theorem pa_consN (ha : PE X e te) (hr : PA X es t) (hn : notStar e = true := by rfl) : PA X (e :: es) (tCons te t) := pa_cons ha hr (star_cons hn)
end
end L2
namespace L2
end L2
namespace L2
end L2

set_option Elab.async false
set_option linter.all false
set_option maxRecDepth 100000
set_option maxHeartbeats 4000000
namespace L2
open PySem PySem.Spec PyProof.Rows
theorem comp_core {X : Cx} {elt tg iter : Expr} {ifs : List Expr} {scope : Scope} {pos pos2 : Pos} {wi : TI} {g : TG} {tc : TT} {te : TE} {N : List Str} {σ0 : St → St} {pins : List (Addr × Obj)} {s : Shared} {σ : St} {H : Hp} {Q : VK} {use : Option (Value → Sem Unit)} {QQ : Value → Shared → Prop}
    (hc : X.calm = true) (hxe : ∀ e s, X.xe e s → False) (hcell : ∀ y ∈ scope.names, y.2 ≠ .cell) (hkind : scope.kind = .function) (hnames : ∀ y ∈ scope.names, y.2 = .local → scope.names.lookup y.1 = some .local)
    (hfr : ∀ y ∈ scope.names, y.2 = .free → X.env.kindOf y.1 = some .cell ∨ X.env.kindOf y.1 = some .free) (hσ : Sees X scope N σ0)
    (hi : PI X tg iter wi)
    (hg : ∀ cl C s H ex, PG (cxComp X scope N cl C s H ex) tg g) (ht : ∀ cl C s H ex, PTs (cxComp X scope N cl C s H ex) ifs tc) (he : ∀ cl C s H ex, PE (cxComp X scope N cl C s H ex) elt te)
    (hs : ∀ x, foldedSetIterable iter X.env x = pure x) (I : Inv X pins σ H s) (h : tComp σ0 wi g tc te σ H Q)
    (hend : ∀ (p C : Addr) (H' : Hp) (s' : Shared) (m : Str → Option Value) (f : Flow), Inv X pins σ H' s' → FpOk X pins H' C → s'.heap.Ns C m → (∀ h', Heap.SameBut C s'.heap h' → Inv X pins σ H' { s' with heap := h' }) → Q (.ref p) H' →
      compPost (model X.prog X.w) X.A X.xe use QQ (.ref p) C (.ok f) s') :
    wpAny (model X.prog X.w) X.A (comprehension (.ListComp elt [⟨tg, iter, ifs, 0⟩] scope pos) scope X.env pos2 (newList []) false (eval iter X.env) use) QQ X.xe s := by
  obtain ⟨cl, hclos, hcl1, hcl2⟩ := closure_of (env := X.env) (scope := scope) fun y hy hf => I.ok.has y.1 (hfr y hy hf)
  refine wpAny_comprehension_free (use := use) rfl hs hclos hkind hnames (thn (hi pins s σ H _ I h) fun v s1 h1 => thn h1 fun itv s2 h2 => ?_)
  obtain ⟨it, fp, tn, J, H2, e, I2, T, st2, f2, h3⟩ := h2
  subst e
  have hpn : H2 s2.heap.objs.size = none := I2.hok.fresh (Nat.le_refl _)
  obtain ⟨W, ⟨m0, w0⟩, turn⟩ := h3 _ hpn
  refine wpAny_newObj_type ?_
  generalize hp : s2.heap.objs.size = p at *
  have I3 : Inv X pins σ (upd H2 p (.lst [])) { s2 with heap := s2.heap.push { cls := .type "list", dict := none, data := .seq ([] : List Value).toArray } } := by
    refine I2.laid (a := p) (o := .lst []) (t' := s2.toks) (fun b u q => Heap.get?_push_of_some _ q) (Nat.le_of_eq hp) ⟨Nat.zero_le _, [], 0, .nil, ?_⟩
    rw [← hp]
    exact Heap.get?_push_size _ rfl
  have hf3 : ∀ b ∈ fp, FpOk X pins (upd H2 p (.lst [])) b := fun b hb => by
    obtain ⟨o, ho, _⟩ := T.obj _ _ st2 b hb
    have : b ≠ p := by rw [← hp]; exact Nat.ne_of_lt (Heap.lt_size ho)
    exact ⟨by rw [upd_ne this]; exact (f2 b hb).1, (f2 b hb).2⟩
  generalize hs3 : ({ s2 with heap := s2.heap.push { cls := .type "list", dict := none, data := .seq ([] : List Value).toArray } } : Shared) = s3 at *
  have st3 : tn 0 s3.heap := by rw [← hs3]; exact T.keep _ _ _ st2 fun b _ o e => Heap.get?_push_of_some _ e
  generalize hH3 : upd H2 p (.lst []) = H3 at *
  refine wpAny_newFunctionEnv hcell (by intro y hy; simp at hy) (fun h1 hns1 hsb1 => ?_) hkind
  generalize hC : s3.heap.objs.size = C at *
  have keep : ∀ b u, s3.heap.get? b = some u → h1.get? b = some u := fun b u q =>
    hsb1.extBut b u (by rw [← hC]; exact Nat.ne_of_lt (Heap.lt_size q)) (Heap.get?_push_of_some _ q)
  have fpC : ∀ b ∈ fp, b ≠ C := fun b hb => by
    obtain ⟨o, ho, _⟩ := T.obj _ _ st3 b hb
    rw [← hC]; exact Nat.ne_of_lt (Heap.lt_size ho)
  have hCn : H3 C = none := I3.hok.fresh (Nat.le_of_eq hC)
  -- the block's own invariant, at its entry
  have ok' : (cxComp X scope N cl C s3 H3 fp).Ok := by
    refine ⟨I3.mod, hkind, I3.ok.glob, I3.ok.blt, Nat.le_of_eq hC, fun x y c a b => I3.ok.inj x y c (hcl1 x c a) (hcl1 y c b), fun x hx => ?_, fun _ _ z => Bool.noConfusion (show false = true from z), I3.ok.hd, I3.ok.frames, .inl rfl, fun b hb => ⟨fpC b hb, fun x c q => (hf3 b hb).2.2.2.2.1 x c (hcl1 x c q)⟩,
      I3.bs, Nat.le_trans I3.ok.bsz I3.sz, fun b o e hb => ?_, fun b hb z => ?_, I3.stack, I3.stkFree⟩
    · have hx' : (relabel scope X.env).names.lookup x = some .cell ∨ (relabel scope X.env).names.lookup x = some .free := hx
      rcases hx' with z | z
      · rcases lookup_relabel_mem z with y | ⟨_, y⟩
        · exact absurd rfl (hcell _ y)
        · exact hcl2 x y
      · rcases lookup_relabel_mem z with y | ⟨y, _⟩
        · exact hcl2 x y
        · cases y
    · rcases (hf3 b hb).2.2.2.1 with z | z
      · exact I3.ok.noex b o e z
      · exact absurd (Nat.lt_of_lt_of_le (Heap.lt_size e) (Nat.le_trans I3.ok.bsz z)) (Nat.lt_irrefl _)
    · rcases List.mem_cons.mp (I3.stkSub b z) with q | q
      · exact (hf3 b hb).2.1 q
      · exact (hf3 b hb).2.2.1 q
  have J0 : Inv (cxComp X scope N cl C s3 H3 fp) [] (σ0 σ) H3 { s3 with heap := h1, toks := s3.toks + ([] : List (Str × Value)).length } := by
    refine ⟨ok', rfl, I3.bare, Un.kept keep, ⟨_, hns1, fun i x v a b c => ?_⟩, fun x c q => ?_, hCn, fun x c q => I3.freeC x c (hcl1 x c q), fun q hq => absurd (show q ∈ ([] : List (Addr × Obj)) from hq) (by simp), I3.hok.kept keep, (hσ σ).1⟩
    · obtain ⟨hf, j, hj, hv⟩ := (hσ σ).2 i x v a b
      have hm := mem_of_lookupF hf
      obtain ⟨m, hn, hl⟩ := id I3.loc
      have hk := hfr _ hm rfl
      have hvis : Vis X.env.scope x := hk.elim (fun z => .inr (.inl z)) fun z => .inr (.inr z)
      obtain ⟨u, r, lk⟩ := hl j x v hj hv hvis
      refine ⟨u, r, .inr ⟨lookup_relabel_free hf, ?_⟩⟩
      obtain ⟨c', hc'⟩ := hcl2 x hm
      refine ⟨c', hc', ?_⟩
      have hx := hcl1 x c' hc'
      rcases lk with ⟨kl, _⟩ | ⟨_, c2, e2, o2, ho2, hd2⟩
      · rcases hk with z | z <;> rw [kl] at z <;> cases z
      · rw [hx] at e2
        cases e2
        exact ⟨o2, keep _ _ ho2, hd2⟩
    · obtain ⟨v, o, ho, hd⟩ := I3.cell x c (hcl1 x c q)
      exact ⟨v, o, keep _ _ ho, hd⟩
  have st4 : tn 0 h1 := T.keep _ _ _ st3 fun b _ o e => keep b o e
  have stat : ∀ {H' : Hp}, (∀ b ∈ fp, H' b = none) → ∀ b ∈ fp, FpOk (cxComp X scope N cl C s3 H3 fp) [] H' b := fun hn b hb =>
    ⟨hn b hb, fpC b hb, fun z => ok'.exfs b hb z, .inl hb, fun x c q => (hf3 b hb).2.2.2.2.1 x c (hcl1 x c q), fun q hq => absurd (show q ∈ ([] : List (Addr × Obj)) from hq) (by simp)⟩
  -- back to the def
  have back : ∀ {σ' : St} {H' : Hp} {s' : Shared} {pl : List (Addr × Obj)}, Inv (cxComp X scope N cl C s3 H3 fp) pl σ' H' s' → ∀ h', Heap.SameBut C s'.heap h' → Inv X pins σ H' { s' with heap := h' } := fun {σ' H' s' pl} J h' hsb => by
    have I5 : Inv X pins σ H' s' := Inv.call' (ch := fp) I3 J.os J.base J.hok J.bare fun b hb => ⟨(hf3 b hb).2.2.2.1, (hf3 b hb).2.1, (hf3 b hb).2.2.2.2.1, (hf3 b hb).2.2.2.2.2⟩
    refine Inv.turned (it := C) (t' := s'.toks) I5 (fun b o hb e => hsb.extBut b o hb e) J.free (fun z => ?_) (.inr ?_) (fun x c q z => ?_) fun q hq z => ?_
    · exact absurd (show X.env.locals < C by rw [← hC]; exact I3.lt) (by rw [z]; exact Nat.lt_irrefl _)
    · rw [← hC]; exact I3.sz
    · obtain ⟨v, o, ho, _⟩ := I3.cell x c q
      have := Heap.lt_size ho
      rw [z, hC] at this
      exact Nat.lt_irrefl _ this
    · have := Heap.lt_size (I3.pin q hq).1
      rw [z, hC] at this
      exact Nat.lt_irrefl _ this
  have loop : codeAny (model X.prog X.w) X.A (.compLoop (.ListComp elt [⟨tg, iter, ifs, 0⟩] scope pos) 0 (.ref it) (.ref p) (compEnvC scope cl C X.env)) (compPost (model X.prog X.w) X.A X.xe use QQ (.ref p) C) { s3 with heap := h1, toks := s3.toks + ([] : List (Str × Value)).length } := by
    refine codeAny_loop rfl (fun n s' => ∃ i ys σ' H', Inv (cxComp X scope N cl C s3 H3 fp) [] σ' H' s' ∧ tn i s'.heap ∧ (∀ b ∈ fp, H' b = none) ∧ W i n ys σ' H') (fun n s' hI => ?_) m0 ⟨0, [], σ0 σ, H3, J0, st4, fun b hb => (hf3 b hb).1, w0⟩
    obtain ⟨i, ys, σ', H', J', st', fr', w'⟩ := hI
    show wpAny _ X.A ((compTurn (.ListComp elt [⟨tg, iter, ifs, 0⟩] scope pos) 0 (.ref it) (.ref p) (compEnvC scope cl C X.env)).onRaise (fun x => do noteFrame x (compEnvC scope cl C X.env); theTreesLotGoes x)) _ _ s'
    refine wpAny_noted ?_
    rw [compTurn_list]
    rcases turn i n ys σ' H' w' with ⟨stop, q⟩ | ⟨go, step⟩
    · refine wpAny_bind (wpAny_standAt (wpAny_bind (wpAny_mono (T.done (cxComp X scope N cl C s3 H3 fp) rfl rfl rfl hc i [] s' σ' H' X.xe J' (stat fr') st' stop) (fun r s4 h4 => ?_) fun _ _ x => (hxe _ _ x).elim)))
      obtain ⟨hr, I4⟩ := h4
      subst hr
      refine wpAny_pure ?_
      obtain ⟨m, hn, _⟩ := id I4.loc
      have I5 : Inv X pins σ H' s4 := Inv.call' (ch := fp) I3 I4.os I4.base I4.hok I4.bare fun b hb => ⟨(hf3 b hb).2.2.2.1, (hf3 b hb).2.1, (hf3 b hb).2.2.2.2.1, (hf3 b hb).2.2.2.2.2⟩
      exact hend p C H' s4 m _ I5 (I3.fpOk (Nat.le_of_eq hC) I4.free) hn (fun h' hsb => back I4 h' hsb) q
    · refine wpAny_bind (wpAny_standAt (wpAny_bind (wpAny_mono (T.item (cxComp X scope N cl C s3 H3 fp) rfl rfl rfl hc i [] s' σ' H' X.xe J' (stat fr') st' go) (fun r s4 h4 => ?_) fun _ _ x => (hxe _ _ x).elim)))
      obtain ⟨u, hr, h4⟩ := h4
      subst hr
      refine wpAny_bind (wpAny_mono h4 (fun _ s5 h5 => ?_) fun _ _ x => (hxe _ _ x).elim)
      obtain ⟨x, H5, I5, r5, y5, st5, fr5⟩ := h5
      have I5' := I5.pinned (stat fr5) (T.obj _ _ st5)
      refine wpAny_bind (wpAny_mono (hg cl C s3 H3 fp _ s5 σ' H5 x u _ I5' r5 (step x H5 y5)) (fun _ s6 h6 => ?_) fun _ _ x => (hxe _ _ x).elim)
      obtain ⟨σ6, H6, I6, q6⟩ := h6
      have again : ∀ {σ7 : St} {H7 : Hp} {s7 : Shared} {ys7 : List V}, Inv (cxComp X scope N cl C s3 H3 fp) ([] ++ pinsAt fp s5.heap) σ7 H7 s7 → (∃ m', m' < n ∧ W (i + 1) m' ys7 σ7 H7) →
          ∃ m, m < n ∧ ∃ i ys σ' H', Inv (cxComp X scope N cl C s3 H3 fp) [] σ' H' s7 ∧ tn i s7.heap ∧ (∀ b ∈ fp, H' b = none) ∧ W i m ys σ' H' := fun {σ7 H7 s7 ys7} I7 n7 => by
        obtain ⟨m', hm, w7⟩ := n7
        refine ⟨m', hm, i + 1, ys7, σ7, H7, I7.unpinned, T.keep _ _ _ st5 fun b hb o e => (I7.pin (b, o) (List.mem_append_right _ (List.mem_append_right _ (mem_pinsAt hb e)))).1, fun b hb => ?_, w7⟩
        obtain ⟨o, e, d⟩ := T.obj _ _ st5 b hb
        exact (I7.pin (b, o) (List.mem_append_right _ (List.mem_append_right _ (mem_pinsAt hb e)))).2.1
      refine wpAny_bind (wpAny_mono (ht cl C s3 H3 fp _ s6 σ6 H6 _ I6 q6) (fun ok s7 h7 => ?_) fun _ _ x => (hxe _ _ x).elim)
      obtain ⟨H7, I7, q7⟩ := h7
      cases ok with
      | false =>
        rw [if_neg Bool.false_ne_true] at q7
        exact wpAny_pure ⟨rfl, again I7 q7⟩
      | true =>
        rw [if_pos rfl] at q7
        refine wpAny_bind (wpAny_bind (wpAny_mono (he cl C s3 H3 fp _ s7 σ6 H7 _ I7 q7) (fun y s8 h8 => ?_) fun _ _ x => (hxe _ _ x).elim))
        obtain ⟨v, H8, I8, r8, hz, hH8, w8⟩ := h8
        refine wpAny_bind (wpAny_mono (mt_append (X := cxComp X scope N cl C s3 H3 fp) _ s8 σ6 H8 (.ref p) [v] (.ref p) [y] (fun x H9 => x = .non ∧ H9 = upd H8 p (.lst (ys ++ [v]))) I8 rfl (.cons r8 .nil) ⟨p, ys, v, rfl, rfl, hH8, hz, rfl, rfl⟩) (fun _ s9 h9 => ?_) fun _ _ x => (hxe _ _ x).elim)
        obtain ⟨z, H9, I9, _, _, e9⟩ := h9
        subst e9
        exact wpAny_pure (wpAny_pure ⟨rfl, again I9 w8⟩)
  exact codeAny_compStart_list loop (T.self X.A 0 _ _ _ st4 loop)
theorem ps_comp {X : Cx} {elt tg iter : Expr} {ifs : List Expr} {scope : Scope} {pos spos py : Pos} {wi : TI} {g : TG} {tc : TT} {te : TE} {N : List Str} {σ0 : St → St} {i : Nat} {y : Str}
    (hN : X.N.Nodup) (hiy : X.N[i]? = some y) (hy : Loc X.env.scope y)
    (hc : X.calm = true) (hxe : ∀ e s, X.xe e s → False) (hcell : ∀ y ∈ scope.names, y.2 ≠ .cell) (hkind : scope.kind = .function) (hnames : ∀ y ∈ scope.names, y.2 = .local → scope.names.lookup y.1 = some .local)
    (hfr : ∀ y ∈ scope.names, y.2 = .free → X.env.kindOf y.1 = some .cell ∨ X.env.kindOf y.1 = some .free) (hσ : Sees X scope N σ0)
    (hi : PI X tg iter wi)
    (hg : ∀ cl C s H ex, PG (cxComp X scope N cl C s H ex) tg g) (ht : ∀ cl C s H ex, PTs (cxComp X scope N cl C s H ex) ifs tc) (he : ∀ cl C s H ex, PE (cxComp X scope N cl C s H ex) elt te)
    (hs : ∀ x, foldedSetIterable iter X.env x = pure x := by intro _; rfl) (hsw : swapsWith (.ListComp elt [⟨tg, iter, ifs, 0⟩] scope pos) (some (.Name y py)) spos.line X.env = pure true := by rfl)
    (hf : X.fn y = true ∨ X.env.scope.names.lookup y = some .local := by first | exact .inl rfl | exact .inr rfl | assumption) :
    PS X (.Assign [.Name y py] (.ListComp elt [⟨tg, iter, ifs, 0⟩] scope pos) spos) (tAsg (tComp σ0 wi g tc te) (gName i)) := by
  intro pins s σ H D I h
  rw [exec_Assign_Name_used _ _ _ _ hsw]
  refine wpAny_bind (wpAny_standAt (wpAny_bind ?_))
  show wpAny _ X.A (do let _ ← comprehension (.ListComp elt [⟨tg, iter, ifs, 0⟩] scope pos) scope X.env _ (newList []) false (eval iter X.env) (some (assign (.Name y py) X.env))) _ _ s
  refine wpAny_bind (wpAny_mono (comp_core (use := some (assign (.Name y py) X.env)) (QQ := fun _ s' => SP X pins D .next s') hc hxe hcell hkind hnames hfr hσ hi hg ht he hs I h ?_) (fun _ s' hq => wpAny_pure (wpAny_pure hq)) fun _ _ e => e)
  intro p C H' s' m f I5 fC hn back q
  show wpAny _ X.A (assign (.Name y py) X.env (.ref p)) _ _ _
  have hnC := id hn
  obtain ⟨o, es, ep, ho, hd, _⟩ := hnC
  have Ip := I5.pinned (fp := [C]) (fun b hb => by rw [List.mem_singleton.mp hb]; exact fC) (fun b hb => ⟨o, by rw [List.mem_singleton.mp hb]; exact ho, fun v z => by rw [hd] at z; cases z⟩)
  refine wpAny_mono (pg_name (pos := py) hN hiy hy hf (pins ++ pinsAt [C] s'.heap) s' σ H' (.ref p) (.ref p) _ Ip rfl q) (fun _ s2 h2 => ?_) fun _ _ e => e
  obtain ⟨σ2, H2, I2, q2⟩ := h2
  have hp2 := I2.pin (C, o) (List.mem_append_right _ (List.mem_append_right _ (mem_pinsAt (by simp) ho)))
  refine ⟨m, hn.at' (fun o' e => ?_), fun h' hsb => ⟨σ2, H2, ?_, q2⟩⟩
  · rw [ho] at e; cases e; exact hp2.1
  · exact Inv.turned (it := C) (t' := s2.toks) I2.unpinned (fun b o hb e => hsb.extBut b o hb e) hp2.2.1 hp2.2.2.1 fC.2.2.2.1 fC.2.2.2.2.1 fC.2.2.2.2.2
end L2
namespace L2
open PySem PySem.Spec PyProof.Rows
section
variable {X : Cx} {e : Expr} {te : TE} {p2 p3 p4 pos : Pos} {k1 : Nat}
end
end L2

set_option Elab.async false
set_option linter.all false
set_option maxRecDepth 100000
set_option maxHeartbeats 4000000
namespace L2
open PySem PySem.Spec PyProof.Rows MA
/-- a comprehension's names: its own, then the def's that it reads -/
theorem Sees.frees {X : Cx} {scope : Scope} (ks : List Str) (fs : List (Str × Nat)) (h : ∀ p ∈ fs, scope.names.lookup p.1 = some .free ∧ X.N[p.2]? = some p.1) :
    Sees X scope (ks ++ fs.map (·.1)) (fun σ => ks.map (fun _ => none) ++ fs.map fun p => σ.getD p.2 none) := by
  intro σ
  refine ⟨by simp, fun i x v h1 h2 => ?_⟩
  by_cases hi : i < ks.length
  · rw [List.getElem?_append_left (by simpa using hi), List.getElem?_map] at h2
    cases e : ks[i]? with
    | none => rw [e] at h2; cases h2
    | some y => rw [e] at h2; cases h2
  · rw [List.getElem?_append_right (by omega), List.getElem?_map] at h1
    rw [List.getElem?_append_right (by simp; omega), List.getElem?_map, List.length_map] at h2
    cases e : fs[i - ks.length]? with
    | none => rw [e] at h1; cases h1
    | some p =>
      rw [e] at h1 h2
      cases h1
      obtain ⟨a, b⟩ := h p (List.mem_of_getElem? e)
      refine ⟨a, p.2, b, ?_⟩
      have h3 : σ.getD p.2 none = some v := by simpa using h2
      rw [List.getD_eq_getElem?_getD] at h3
      cases z : σ[p.2]? with
      | none => rw [z] at h3; cases h3
      | some u => rw [z] at h3; exact congrArg some h3
/-- [.. for k in range(n)], no test -/
theorem comp_rng {n : Nat} {lo : Int} {te : TE} {H : Hp} {R : Addr → Hp → Prop} {fs : St} (Pv : Addr → Nat → List V → Hp → Prop) (hn : n ≤ 100000) (hp0 : ∀ p, H p = none → Pv p 0 [] (upd H p (.lst [])))
    (hte : ∀ p i ys H', H p = none → i < n → ys.length = i → Pv p i ys H' → H' p = some (.lst ys) → ∀ Q' : VK, (∀ v H'', H'' p = some (.lst ys) → Pv p (i + 1) (ys ++ [v]) (upd H'' p (.lst (ys ++ [v]))) → Q' v H'') → te (some (.int (lo + i)) :: fs) H' Q')
    (q : ∀ p ys H', H p = none → Pv p n ys H' → H' p = some (.lst ys) → ys.length = n → R p H') :
    ∀ p, H p = none → ∃ W : Nat → Nat → List V → St → Hp → Prop, (∃ m, W 0 m [] (none :: fs) (upd H p (.lst []))) ∧ ∀ i m ys σ' H', W i m ys σ' H' →
      ((Itr lo n).stop i H' ∧ R p H') ∨ ((Itr lo n).go i H' ∧ ∀ x H2, (Itr lo n).yld i H' x H2 → gName 0 x σ' H2 fun σ2 H3 => tTT σ2 H3 fun b H4 => if b = true then te σ2 H4 fun v H5 => ys.length < sizeLine ∧ H5 p = some (.lst ys) ∧ (∃ m', m' < m ∧ W (i + 1) m' (ys ++ [v]) σ2 (upd H5 p (.lst (ys ++ [v]))))
        else ∃ m', m' < m ∧ W (i + 1) m' ys σ2 H4) := by
  intro p hp
  refine ⟨fun i m ys σ' H' => m = n - i ∧ i ≤ n ∧ ys.length = i ∧ Pv p i ys H' ∧ H' p = some (.lst ys) ∧ ∃ o, σ' = o :: fs, ⟨n, by simp, Nat.zero_le _, rfl, hp0 p hp, upd_same, _, rfl⟩, ?_⟩
  rintro i m ys σ' H' ⟨rfl, hi, hl, pv, hp', o, rfl⟩
  by_cases hlt : i < n
  · refine .inr ⟨hlt, fun x H2 hy => ?_⟩
    obtain ⟨rfl, rfl⟩ := hy
    change te (some (.int (lo + i)) :: fs) H2 _
    refine hte p i ys H2 hp hlt hl pv hp' _ fun v H5 h5 pv5 => ⟨?_, h5, n - (i + 1), by omega, rfl, hlt, by simp [hl], pv5, upd_same, _, rfl⟩
    rw [hl, sizeLine_eq]; omega
  · have e : i = n := by omega
    subst e
    exact .inl ⟨Nat.le_refl _, q p ys H' hp pv hp' hl⟩
/-! ### sums over one common bottom -/
end L2
namespace L2
open PySem
theorem fr_nil {C : Str × Nat → Prop} : ∀ p ∈ ([] : List (Str × Nat)), C p := fun _ h => nomatch h
theorem fr_cons {C : Str × Nat → Prop} {a : Str × Nat} {l : List (Str × Nat)} (h : C a) (t : ∀ p ∈ l, C p) : ∀ p ∈ a :: l, C p := fun p hp => (List.mem_cons.mp hp).elim (fun e => e ▸ h) (t p)
theorem hfr_of {scope : Scope} {env : Env} (h : scope.names.all (fun y => y.2 != .free || env.kindOf y.1 == some .cell || env.kindOf y.1 == some .free) = true) : ∀ y ∈ scope.names, y.2 = .free → env.kindOf y.1 = some .cell ∨ env.kindOf y.1 = some .free := by
  intro y hy hf
  have := List.all_eq_true.mp h y hy
  rw [hf] at this
  simpa using this
end L2

set_option Elab.async false
set_option linter.all false
set_option maxRecDepth 100000
set_option maxHeartbeats 4000000
namespace L2
open PySem PySem.Spec PyProof.Rows
section
variable {X : Cx}
/-- sum(xs), xs a list of ints -/
def rSum (K : PySem.W.Frag) : List V → Hp → VK → Prop := fun xs H Q => ∃ (l : Addr) (ns : List Int), xs = [.ref l] ∧ SqL K H l (ns.map V.int) ∧ Q (.int ns.sum) H
theorem call_sum (hc : X.calm = true) : CallR X (.builtin "sum") (rSum X.K) := by
  intro pins s σ H xs us Q I r h
  obtain ⟨l, ns, rfl, hl, q⟩ := h
  obtain ⟨u, rfl, ru⟩ := vals1 r
  cases ru
  obtain ⟨its, rv, p, hz⟩ := I.list hl
  have hi := intsAre_of rv
  obtain ⟨ys, e⟩ := hi.allInts.items
  have hnum : ns = ys.toList.map (·.1) := by
    have h1 := hi.numsOf
    have h2 := nums_intItems ys
    rw [← e] at h2
    rw [← h1, ← h2]
  refine sum_intListG (I.ok.hd hc) (xs := ys) (by rw [← e]; exact p.isList) fun h' tk t' hk => ?_
  refine ⟨.int ns.sum, H, I.kept (t' := tk) hk, ⟨t', ?_⟩, q⟩
  rw [preSum_eq, List.take_of_length_le (by simp), hnum]
end
end L2
namespace L2
open PySem PySem.Spec PyProof.Rows MA
section
variable {X : Cx}
end
/-- [.. for x in xs], xs a list, no test -/
theorem comp_lst {K : PySem.W.Frag} {a : Addr} {xs : List V} {te : TE} {H : Hp} {R : Addr → Hp → Prop} {fs : St} (Pv : Addr → Nat → List V → Hp → Prop) (hn : xs.length ≤ 100000) (hp0 : ∀ p, H p = none → Pv p 0 [] (upd H p (.lst [])))
    (hl : ∀ p i ys H', H p = none → Pv p i ys H' → H' a = some (.lst xs))
    (hte : ∀ p i ys H' x, H p = none → xs[i]? = some x → ys.length = i → Pv p i ys H' → H' p = some (.lst ys) → ∀ Q' : VK, (∀ v H'', H'' p = some (.lst ys) → Pv p (i + 1) (ys ++ [v]) (upd H'' p (.lst (ys ++ [v]))) → Q' v H'') → te (some x :: fs) H' Q')
    (q : ∀ p ys H', H p = none → Pv p xs.length ys H' → H' p = some (.lst ys) → ys.length = xs.length → R p H') :
    ∀ p, H p = none → ∃ W : Nat → Nat → List V → St → Hp → Prop, (∃ m, W 0 m [] (none :: fs) (upd H p (.lst []))) ∧ ∀ i m ys σ' H', W i m ys σ' H' →
      ((Itl K a).stop i H' ∧ R p H') ∨ ((Itl K a).go i H' ∧ ∀ x H2, (Itl K a).yld i H' x H2 → gName 0 x σ' H2 fun σ2 H3 => tTT σ2 H3 fun b H4 => if b = true then te σ2 H4 fun v H5 => ys.length < sizeLine ∧ H5 p = some (.lst ys) ∧ (∃ m', m' < m ∧ W (i + 1) m' (ys ++ [v]) σ2 (upd H5 p (.lst (ys ++ [v]))))
        else ∃ m', m' < m ∧ W (i + 1) m' ys σ2 H4) := by
  intro p hp
  refine ⟨fun i m ys σ' H' => m = xs.length - i ∧ i ≤ xs.length ∧ ys.length = i ∧ Pv p i ys H' ∧ H' p = some (.lst ys) ∧ ∃ o, σ' = o :: fs, ⟨xs.length, by simp, Nat.zero_le _, rfl, hp0 p hp, upd_same, _, rfl⟩, ?_⟩
  rintro i m ys σ' H' ⟨rfl, hi, hlen, pv, hp', o, rfl⟩
  have hla := hl p i ys H' hp pv
  by_cases hlt : i < xs.length
  · refine .inr ⟨⟨xs, xs[i], SqL.of hla, List.getElem?_eq_getElem hlt⟩, fun x H2 hy => ?_⟩
    obtain ⟨rfl, hx⟩ := hy
    have hx' := hx xs (SqL.of hla)
    change te (some x :: fs) H2 _
    refine hte p i ys H2 x hp hx' hlen pv hp' _ fun v H5 h5 pv5 => ⟨?_, h5, xs.length - (i + 1), by omega, rfl, hlt, by simp [hlen], pv5, upd_same, _, rfl⟩
    rw [hlen, sizeLine_eq]; omega
  · have e : i = xs.length := by omega
    subst e
    exact .inl ⟨⟨xs, SqL.of hla, Nat.le_refl _⟩, q p ys H' hp pv hp' hlen⟩
/-- pairs of ints in the heap -/
def PrAt (H : Hp) (v : V) (p : Int × Int) : Prop := ∃ a, v = .ref a ∧ H a = some (.tup [.int p.1, .int p.2])
def Prs (H : Hp) : List V → List (Int × Int) → Prop := Paired (PrAt H)
theorem PrAt.same {H H' : Hp} {v : V} {p : Int × Int} (s : Same H H') (h : PrAt H v p) : PrAt H' v p := let ⟨a, e, h⟩ := h; ⟨a, e, s _ _ h⟩
theorem PrAt.updL {H : Hp} {l : Addr} {zs : List V} {o : HO} {v : V} {p : Int × Int} (hl : H l = some (.lst zs)) (h : PrAt H v p) : PrAt (upd H l o) v p := by
  obtain ⟨a, rfl, ha⟩ := h
  exact ⟨a, rfl, by rw [upd_ne (ne_of ha hl (by intro z; cases z))]; exact ha⟩
theorem Prs.same {H H' : Hp} (s : Same H H') : ∀ {xs : List V} {ps : List (Int × Int)}, Prs H xs ps → Prs H' xs ps
  | _, _, .nil => .nil
  | _, _, .cons r t => .cons (r.same s) (Prs.same s t)
theorem Prs.updL {H : Hp} {l : Addr} {zs : List V} {o : HO} (hl : H l = some (.lst zs)) : ∀ {xs : List V} {ps : List (Int × Int)}, Prs H xs ps → Prs (upd H l o) xs ps
  | _, _, .nil => .nil
  | _, _, .cons r t => .cons (r.updL hl) (Prs.updL hl t)
theorem Prs.snoc {H : Hp} {v : V} {p : Int × Int} (h : PrAt H v p) : ∀ {xs : List V} {ps : List (Int × Int)}, Prs H xs ps → Prs H (xs ++ [v]) (ps ++ [p])
  | _, _, .nil => .cons h .nil
  | _, _, .cons r t => .cons r (Prs.snoc h t)
def dp (p : Int × Int) : PyData := .tuple [.int p.1, .int p.2]
theorem Prs.data {H : Hp} : ∀ {xs : List V} {ps : List (Int × Int)}, Prs H xs ps → DataL H xs (ps.map dp)
  | _, _, .nil => .nil
  | _, _, .cons r t => by
    obtain ⟨a, rfl, ha⟩ := r
    exact .cons (.tup ha (.cons (.int _) (.cons (.int _) .nil))) (Prs.data t)
theorem noDict_ps : ∀ ps : List (Int × Int), PyData.hasDictAll (ps.map dp) = false
  | [] => rfl
  | q :: qs => by simp [PyData.hasDictAll, dp, PyData.hasDict, noDict_ps qs]
theorem depth_ps : ∀ ps : List (Int × Int), PyData.depthAll (ps.map dp) ≤ 1
  | [] => Nat.zero_le _
  | q :: qs => by
    have := depth_ps qs
    simp only [List.map_cons, PyData.depthAll, dp, PyData.depth]
    omega
end L2

set_option Elab.async false
set_option linter.all false
set_option maxRecDepth 100000
set_option maxHeartbeats 4000000
namespace L2
open PySem PySem.Spec PyProof.Rows
section
variable {X : Cx} {e : Expr} {t : TA} {p p3 p4 pos : Pos}
/-- sorted(xs, reverse=b), xs a list of ints -/
def tSortR (b : Bool) (t : TA) : TE := fun σ H Q => t σ H fun vs H1 => ∃ (l : Addr) (ns : List Int), vs = [.ref l] ∧ H1 l = some (.lst (ns.map V.int)) ∧ ns.length < 64 ∧ ∀ (q : Addr) (ms : List Int), H1 q = none → ms.Perm ns → Ordered b ms → Q (.ref q) (upd H1 q (.lst (ms.map V.int)))
theorem pe_sortedR {b : Bool} {kk : _} (hg : Gl X "sorted") (hm : X.mg "sorted" = none) (ha : PA X [e] t)
    (he : backTo pos (starEach [e] X.env) = (false, eval e X.env) :: backTo pos (starEach [] X.env) := by rfl) (hpl : (backTo pos (starEach [e] X.env)).any (·.1) = false := by rfl) :
    PE X (.Call (.Name "sorted" p) [e] [⟨some "reverse", .Constant (.bool b) kk p3, p4⟩] pos) (tSortR b t) := by
  intro pins s σ H Q I h
  refine wpAny_Call_Name_kw (ld_blt I hg hm bt_sorted ?_ (by decide) (by decide))
  refine callWith_kw (thn (ha pos pins s σ H _ I h) fun us s1 ⟨vs, H1, I1, r1, q1⟩ => ?_) he hpl
  obtain ⟨l, ns, rfl, hl, h64, q⟩ := q1
  obtain ⟨u, rfl, ru⟩ := vals1 r1
  cases ru
  show wpAny _ X.A (evalAll [(do let v ← eval (.Constant (.bool b) kk p3) X.env; standAt pos; pure v)]) _ _ s1
  refine wpAny_evalAll_cons (wpAny_bind (Constant_bool (wpAny_bind (wpAny_standAt (wpAny_pure (wpAny_evalAll_nil ?_))))))
  show wpAny _ X.A (call (.builtin "sorted") [.ref l] [(Str.ofString "reverse", .bool b)]) _ _ _
  obtain ⟨its, rv, pl, hz⟩ := I1.list (SqL.of (K := X.K) hl)
  have hlen := rv.length
  rw [List.length_map] at hlen
  refine sorted_ints_rev pl.isList (intsAre_of rv) (by omega) fun out ms a1 a2 a3 => ?_
  obtain ⟨ee, he'⟩ := sortedAll_at s1.heap its out
  have hml : ms.length = ns.length := a2.length_eq
  refine ⟨.ref (s1.heap.objs.size + 1), _, I1.laid (t' := s1.toks) (a := s1.heap.objs.size + 1) (o := .lst (ms.map V.int)) (fun b o q => sortedAll_old q) (Nat.le_succ _) ⟨?_, out.toList, ee, vals_ints a1, ?_⟩, rfl, q _ ms (I1.hok.fresh (Nat.le_succ _)) a2 a3⟩
  · rw [List.length_map, hml, sizeLine_eq]; omega
  · rw [he']
end
end L2
namespace L2
open PySem PySem.Spec PyProof.Rows MA
section
variable {X : Cx}
/-- items by their place, the heap named alone (for use in a comprehension) -/
theorem ix_list0 : IxR X (fun x y H Q => ∃ p xs i v, x = .ref p ∧ y = .int i ∧ H p = some (.lst xs) ∧ atI xs i = some v ∧ Q v H) := by
  intro value slice pins s σ H x y v u Q I rx ry h hs
  obtain ⟨p, xs, i, w', e1, e2, hp, ha, q⟩ := h
  exact ix_list value slice pins s σ H x y v u Q I rx ry ⟨p, xs, i, w', e1, e2, SqL.of hp, ha, q⟩ hs
theorem ix_tup0 : IxR X (fun x y H Q => ∃ p xs i v, x = .ref p ∧ y = .int i ∧ H p = some (.tup xs) ∧ atI xs i = some v ∧ Q v H) := by
  intro value slice pins s σ H x y v u Q I rx ry h hs
  obtain ⟨p, xs, i, w', e1, e2, hp, ha, q⟩ := h
  exact ix_tup value slice pins s σ H x y v u Q I rx ry ⟨p, xs, i, w', e1, e2, SqT.of hp, ha, q⟩ hs
def rSum0 : List V → Hp → VK → Prop := fun xs H Q => ∃ (l : Addr) (ns : List Int), xs = [.ref l] ∧ H l = some (.lst (ns.map V.int)) ∧ Q (.int ns.sum) H
theorem call_sum0 (hc : X.calm = true) : CallR X (.builtin "sum") rSum0 := by
  intro pins s σ H xs us Q I r h
  obtain ⟨l, ns, e, hl, q⟩ := h
  exact call_sum hc pins s σ H xs us Q I r ⟨l, ns, e, SqL.of hl, q⟩
end
end L2
namespace L2
open PySem PySem.Spec PyProof.Rows MA
section
variable {X : Cx}
end
end L2

set_option Elab.async false
set_option linter.all false
set_option maxRecDepth 100000
set_option maxHeartbeats 1000000
namespace L2
open PySem PySem.Spec PyProof.Rows MA
section
variable {X : Cx}
end
end L2

set_option Elab.async false
set_option linter.all false
set_option maxRecDepth 100000
set_option maxHeartbeats 1000000
namespace L2
open PySem PySem.Spec PyProof.Rows
section
variable {X : Cx} {pins : List (Addr × Obj)} {σ : St} {H : Hp} {s : Shared} {h' : Heap} {fp : List Addr}
/-- several records of ours have turned -/
theorem Inv.turnedL {t' : Nat} (I : Inv X pins σ H s) (hf : ∀ b ∈ fp, FpOk X pins H b) (k : ∀ b o, b ∉ fp → s.heap.get? b = some o → h'.get? b = some o) : Inv X pins σ H { s with heap := h', toks := t' } := by
  have nit : ∀ b u, H b = some u → b ∉ fp := fun b u e z => by rw [(hf b z).1] at e; cases e
  have hL : X.env.locals ∉ fp := fun z => (hf _ z).2.1 rfl
  refine I.step (g' := s.gens) (d' := s.drawn) (ch := fp) (fun b hb => ⟨(hf b hb).2.2.2.1, (hf b hb).2.1, (hf b hb).2.2.2.2.1, (hf b hb).2.2.2.2.2⟩) (fun b o _ _ hc e _ => k b o hc e) (fun b o _ _ hc e _ => ⟨o.slots, k b o hc e⟩) (fun _ _ _ _ n => n)
    (fun b o hc e => ⟨o, k b o hc e⟩) (fun _ _ e => e) (fun _ _ _ e => e) (fun b ps e => ⟨#[], by rw [e]; simp⟩) (fun m hm => ?_) (fun b u e => ?_) I.bare
  · obtain ⟨o, es, ep, ho, r⟩ := hm
    exact ⟨o, es, ep, k _ o hL ho, r⟩
  · refine (I.hok b u e).stay (fun c v hc q => k c v ?_ q) (fun _ q => q) fun _ _ q => q
    rcases hc with z | z
    · rw [z]; exact nit b u e
    · exact nit c _ z
/-- .. and a new object is tracked -/
theorem Inv.turnedNew {t' : Nat} {T : Addr} {u : HO} (I : Inv X pins σ H s) (hf : ∀ b ∈ fp, FpOk X pins H b) (k : ∀ b o, b ∉ fp → s.heap.get? b = some o → h'.get? b = some o) (hT : s.heap.objs.size ≤ T) (new : ObjOk X.prog X.w (upd H T u) h' T u) :
    Inv X pins σ (upd H T u) { s with heap := h', toks := t' } := by
  have hn : H T = none := I.hok.fresh hT
  have nit : ∀ b u, H b = some u → b ∉ fp := fun b u e z => by rw [(hf b z).1] at e; cases e
  have hL : X.env.locals ∉ fp := fun z => (hf _ z).2.1 rfl
  have nT : ∀ b o, s.heap.get? b = some o → b ≠ T := fun b o e => Nat.ne_of_lt (Nat.lt_of_lt_of_le (Heap.lt_size e) hT)
  refine I.step (g' := s.gens) (d' := s.drawn) (ch := fp) (fun b hb => ⟨(hf b hb).2.2.2.1, (hf b hb).2.1, (hf b hb).2.2.2.2.1, (hf b hb).2.2.2.2.2⟩) (fun b o _ _ hc e _ => k b o hc e) (fun b o _ _ hc e _ => ⟨o.slots, k b o hc e⟩) (fun b o _ e n => by rw [upd_ne (nT b o e)]; exact n)
    (fun b o hc e => ⟨o, k b o hc e⟩) (fun b xs e => by rw [upd_ne (ne_of_none e hn)]; exact e) (fun b o v e => by rw [upd_ne (ne_of_none e hn)]; exact e) (fun b ps e => ⟨#[], by rw [upd_ne (ne_of_none e hn), e]; simp⟩) (fun m hm => ?_) (fun b v e => ?_) I.bare
  · obtain ⟨o, es, ep, ho, r⟩ := hm
    exact ⟨o, es, ep, k _ o hL ho, r⟩
  · by_cases hb : b = T
    · subst hb; rw [upd_same] at e; cases e; exact new
    · rw [upd_ne hb] at e
      refine (I.hok b v e).stay (fun c v' hc q => k c v' ?_ q) (fun c q => by rw [upd_ne (ne_of_none q hn)]; exact q) (fun c xs q => by rw [upd_ne (ne_of_none q hn)]; exact q) fun c ob q => by rw [upd_ne (ne_of_none q hn)]; exact q
      rcases hc with z | z
      · rw [z]; exact nit b v e
      · exact nit c _ z
end
/-- the pairs of two lists -/
def Itz (K : PySem.W.Frag) (a b : Addr) : It :=
  ⟨fun i H => ∃ xs ys x y, SqL K H a xs ∧ SqL K H b ys ∧ xs[i]? = some x ∧ ys[i]? = some y,
   fun i H v H' => ∃ p x y, v = .ref p ∧ H p = none ∧ H' = upd H p (.tup [x, y]) ∧ ∀ xs ys, SqL K H a xs → SqL K H b ys → xs[i]? = some x ∧ ys[i]? = some y,
   fun i H => ∃ xs ys, SqL K H a xs ∧ SqL K H b ys ∧ (xs.length ≤ i ∨ ys.length ≤ i)⟩
theorem turn_zip {P : Program} {w : World} {K : PySem.W.Frag} {elts : List Expr} {c : Nat} {pos : Pos} {z TI TO i1 i2 a b : Addr} (D : ZipApart z TI TO i1 i2 a b) :
    Turn P w K (.Tuple elts c pos) (Itz K a b) [z, TI, TO, i1, i2] z (fun i h => IsZip h z TI TO .none ∧ IsPair h TI (.ref i1) (.ref i2) ∧ (∃ u v, IsPair h TO u v) ∧ h.IsListIter i1 a i ∧ h.IsListIter i2 b i) where
  mem := by simp
  obj := fun i h st x hx => by
    obtain ⟨hz, hTI, ⟨u, v, hTO⟩, ⟨o1, e1, c1, d1⟩, o2, e2, c2, d2⟩ := st
    simp only [List.mem_cons, List.not_mem_nil, or_false] at hx
    rcases hx with rfl | rfl | rfl | rfl | rfl
    · exact ⟨_, hz, fun _ q => by cases q⟩
    · exact ⟨_, hTI, fun _ q => by cases q⟩
    · exact ⟨_, hTO, fun _ q => by cases q⟩
    · exact ⟨_, e1, fun _ q => by rw [d1] at q; cases q⟩
    · exact ⟨_, e2, fun _ q => by rw [d2] at q; cases q⟩
  keep := fun i h h' st k => by
    obtain ⟨hz, hTI, ⟨u, v, hTO⟩, h1, h2⟩ := st
    exact ⟨k z (by simp) _ hz, k TI (by simp) _ hTI, ⟨u, v, k TO (by simp) _ hTO⟩, h1.at fun o e => k i1 (by simp) o e, h2.at fun o e => k i2 (by simp) o e⟩
  item := by
    intro X hP hw hK hc i pins s σ H E I hf st hg
    subst hP hw hK
    obtain ⟨xs, ys, x, y, hq1, hq2, hx, hy⟩ := hg
    obtain ⟨its1, rv1, p1, _⟩ := I.list hq1
    obtain ⟨its2, rv2, p2, _⟩ := I.list hq2
    obtain ⟨u, hu, ru⟩ := rv1.get hx
    obtain ⟨v, hv, rv⟩ := rv2.get hy
    obtain ⟨hz, hTI, ⟨u0, v0, hTO⟩, h1, h2⟩ := st
    refine wpAny_pyNext_zip_item D hz hTI hTO h1 h2 p1.isList p2.isList (x := u) (y := v) (by simpa using hu) (by simpa using hv) fun h' a1 a2 a3 a4 a5 a6 hk => ⟨_, rfl, ?_⟩
    have lt : ∀ {c o}, s.heap.get? c = some o → s.heap.objs.size ≠ c := fun e => Nat.ne_of_gt (Heap.lt_size e)
    refine wpAny_letOwnedTupleGo_zip (s := { s with heap := h' }) a1 fun h'' b1 sb => ?_
    have hn : H s.heap.objs.size = none := I.hok.fresh (Nat.le_refl _)
    have kk : ∀ c o, c ∉ [z, TI, TO, i1, i2] → s.heap.get? c = some o → h''.get? c = some o := fun c o hc' e => by
      simp only [List.mem_cons, List.not_mem_nil, or_false, not_or] at hc'
      obtain ⟨n1, n2, n3, n4, n5⟩ := hc'
      exact sb.extBut _ _ n1 (hk c o n1 n3 n4 n5 e)
    have T1 : IsPair h'' s.heap.objs.size u v := sb.extBut _ _ (lt hz) a5
    refine ⟨.ref s.heap.objs.size, upd H s.heap.objs.size (.tup [x, y]), I.turnedNew (t' := s.toks) hf kk (Nat.le_refl _) ⟨by show 2 ≤ _; decide, [u, v], .cons ru (.cons rv .nil), _, T1, rfl, _, rfl, rfl⟩, rfl, ⟨_, x, y, rfl, hn, rfl, fun xs' ys' q1 q2 => ?_⟩, ⟨b1, ?_, ⟨_, _, sb.extBut _ _ D.TOz a2⟩, a3.extBut sb.extBut D.i1z, a4.extBut sb.extBut D.i2z⟩, fun b hb => ?_⟩
    · rw [I.list_inj q1 hq1, I.list_inj q2 hq2]; exact ⟨hx, hy⟩
    · exact sb.extBut _ _ D.TIz (hk _ _ D.TIz D.TITO D.TIi1 D.TIi2 hTI)
    · rw [upd_ne]
      · exact (hf b hb).1
      · simp only [List.mem_cons, List.not_mem_nil, or_false] at hb
        obtain ⟨o1, e1, _, _⟩ := h1
        obtain ⟨o2, e2, _, _⟩ := h2
        rcases hb with rfl | rfl | rfl | rfl | rfl
        · exact (lt hz).symm
        · exact (lt hTI).symm
        · exact (lt hTO).symm
        · exact (lt e1).symm
        · exact (lt e2).symm
  done := by
    intro X hP hw hK hc i pins s σ H E I hf st hg
    subst hP hw hK
    obtain ⟨xs, ys, hq1, hq2, hx⟩ := hg
    obtain ⟨its1, rv1, p1, _⟩ := I.list hq1
    obtain ⟨its2, rv2, p2, _⟩ := I.list hq2
    have l1 := rv1.length
    have l2 := rv2.length
    obtain ⟨hz, hTI, ⟨u0, v0, hTO⟩, h1, h2⟩ := st
    refine wpAny_pyNext_zip_end (I.ok.hd hc) D hz hTI hTO h1 h2 p1.isList p2.isList (by simp; omega) fun h' hk => ⟨rfl, I.turnedL (t' := s.toks) hf fun c o hc' e => ?_⟩
    simp only [List.mem_cons, List.not_mem_nil, or_false, not_or] at hc'
    obtain ⟨n1, n2, n3, n4, n5⟩ := hc'
    exact hk c o n1 n3 n4 n5 e
  self := fun _ _ _ _ _ st h => wpAny_pyIter_zip st.1 h
def iZip (K : PySem.W.Frag) (ta : TA) : TI := fun σ H R => ta σ H fun vs H1 => ∃ a b, vs = [.ref a, .ref b] ∧ (∃ xs, SqL K H1 a xs) ∧ (∃ ys, SqL K H1 b ys) ∧ R (Itz K a b) H1
theorem zip_apart {n a b : Nat} (ha : a < n) (hb : b < n) : ZipApart (n + 4) (n + 2) (n + 3) n (n + 1) a b := by
  constructor <;> (show ¬ ((_ : Nat) = _)) <;> omega
theorem boot_zip : bootBuiltins "zip" = some (.type "zip") := by decide +kernel
theorem pi_zip {X : Cx} {elts : List Expr} {c : Nat} {tpos : Pos} {a b : Expr} {ta : TA} {p pos : Pos} (hg : Gl X "zip") (hm : X.mg "zip" = none) (ha : PA X [a, b] ta) (hs : starEach [a, b] X.env = [(false, eval a X.env), (false, eval b X.env)] := by rfl) (hs2 : starEach [b] X.env = [(false, eval b X.env)] := by rfl) :
    PI X (.Tuple elts c tpos) (.Call (.Name "zip" p) [a, b] [] pos) (iZip X.K ta) := by
  intro pins s σ H R I h
  refine Call_ (ld_blt I hg hm boot_zip (PyProof.Rows.callWith_type1 (thn (ha pos pins s σ H _ I h) fun us s1 ⟨vs, H1, I1, r1, q1⟩ => ?_) (by rw [hs, hs2]) (by rw [hs2]; rfl)))
  obtain ⟨a, b, e, ⟨xs, hq1⟩, ⟨ys, hq2⟩, q⟩ := q1
  subst e
  cases r1 with
  | cons r rr =>
    cases rr with
    | cons r' rr =>
      cases rr
      cases r
      cases r'
      obtain ⟨its1, rv1, p1, _⟩ := I1.list hq1
      obtain ⟨its2, rv2, p2, _⟩ := I1.list hq2
      have la : a < s1.heap.objs.size := by obtain ⟨o, n, e, _⟩ := p1; exact Heap.lt_size e
      have lb : b < s1.heap.objs.size := by obtain ⟨o, n, e, _⟩ := p2; exact Heap.lt_size e
      refine call_zip_2 p1.isList p2.isList fun h' a1 a2 a3 a4 a5 a6 hk => wpAny_pyIter_zip a1 ?_
      have D : ZipApart (s1.heap.objs.size + 4) (s1.heap.objs.size + 2) (s1.heap.objs.size + 3) s1.heap.objs.size (s1.heap.objs.size + 1) a b := zip_apart la lb
      refine ⟨_, _, _, _, H1, rfl, I1.kept (t' := s1.toks) hk, turn_zip D, ⟨a1, a2, ⟨_, _, a3⟩, a4, a5⟩, fun x hx => ?_, q⟩
      have hx' : s1.heap.objs.size ≤ x := by
        simp only [List.mem_cons, List.not_mem_nil, or_false] at hx
        rcases hx with rfl | rfl | rfl | rfl | rfl <;> (show (_ : Nat) ≤ (_ : Nat)) <;> omega
      exact I1.fpOk hx' (I1.hok.fresh hx')
end L2

set_option Elab.async false
set_option linter.all false
set_option maxRecDepth 100000
set_option maxHeartbeats 1000000
namespace My
open PySem L2 MA
/-! a pen that is a list: its cells, where it stands, what is left -/
end My

set_option Elab.async false
set_option linter.all false
set_option maxRecDepth 100000
set_option maxHeartbeats 1000000
namespace L2
open PySem PySem.Spec PyProof.Rows
def gTup0 (n : Nat) (t : TGs) : TG := fun v σ H Q => ∃ a xs, v = .ref a ∧ H a = some (.tup xs) ∧ xs.length = n ∧ t xs σ H Q
theorem pg_tup0 {X : Cx} {pos : Pos} {es : List Expr} {k : Nat} {t : TGs} {n : Nat} (hc : X.calm = true) (h : PGs X es t)
    (hn : (assignEach es X.env).length = n := by rfl) (hst : (assignEach es X.env).findIdx? (·.1) = none := by rfl) : PG X (.Tuple es k pos) (gTup0 n t) := by
  intro pins s σ H v u Q I r hw
  obtain ⟨a, xs, e1, hq, hl, hw⟩ := hw
  exact pg_tup hc h hn hst pins s σ H v u Q I r ⟨a, xs, e1, SqT.of hq, hl, hw⟩
end L2
namespace My
open PySem L2 MA
end My

set_option Elab.async false
set_option linter.all false
set_option maxRecDepth 100000
set_option maxHeartbeats 4000000
namespace L2
open PySem PySem.Spec PyProof.Rows
section
variable {prog : Program} {w : World} {A : Around} {E : Value → Shared → Prop} {s : Shared}
/-- a tuple's iterator, drawn from -/
theorem nxt_tup_item {it t : Addr} {i : Nat} {its : Array Value} {x : Value} {Q : Value → Shared → Prop} (hi : s.heap.IsTupleIter it t i) (hs : s.heap.IsTuple t its) (hx : its[i]? = some x)
    (k : ∀ h', h'.IsTupleIter it t (i + 1) → Heap.SameBut it s.heap h' → Q x { s with heap := h' }) : wpAny (model prog w) A (Builtin.SmallTypes.nextOf (.ref it)) Q E s := by
  obtain ⟨ob, e1, e2, e3⟩ := id hi
  obtain ⟨oq, f1, f2, n, f3⟩ := hs
  unfold Builtin.SmallTypes.nextOf
  refine wpAny_bind (wpAny_callSpecial?_slot (name := Str.ofString "__next__") hi.typeIs F.slot_tuple_iterator_next (wpAny_call_entry F.slot_tuple_iterator_next hi.typeIs F.entry_tuple_iterator_next ?_ (F.args_tuple_iterator_next_1 _)))
  refine wpAny_bind (m := field (.ref it) 0) (wpAny_field e1 e3 (x := .ref t) rfl ?_)
  show wpAny (model prog w) _ (if (Value.ref t == Value.none) = true then _ else _) _ _ s
  rw [if_neg (by intro z; cases z)]
  refine wpAny_bind (m := field (.ref it) 1) (wpAny_field e1 e3 (x := .int i 0) rfl ?_)
  refine wpAny_bind (m := seqItems? (.ref t)) (wpAny_seqItems f1 f3 ?_)
  simp only [hx, Int.toNat_natCast]
  refine wpAny_bind (wpAny_setField e1 e3 (by simp) (wpAny_pure ⟨x, rfl, wpAny_pure (k _ ⟨_, Heap.get?_update_self _ e1 (Obj.isFreed_of_fields (Obj.data_mapFields e3 _)), (Obj.cls_mapFields ..).trans e2, ?_⟩ (Heap.SameBut.update ..))⟩))
  rw [Obj.data_mapFields e3]
  simp [rawInt]
theorem nxt_tup_end {it t : Addr} {i : Nat} {its : Array Value} {Q : Value → Shared → Prop} (hh : A.handled = none) (hi : s.heap.IsTupleIter it t i) (hs : s.heap.IsTuple t its) (hx : its[i]? = none)
    (k : ∀ h' e, Heap.ExtBut it s.heap h' → (∃ o, h'.get? e = some o ∧ o.cls = .type "StopIteration") → E (.ref e) { s with heap := h' }) : wpAny (model prog w) A (Builtin.SmallTypes.nextOf (.ref it)) Q E s := by
  obtain ⟨ob, e1, e2, e3⟩ := id hi
  obtain ⟨oq, f1, f2, n, f3⟩ := hs
  unfold Builtin.SmallTypes.nextOf
  refine wpAny_bind (wpAny_callSpecial?_slot (name := Str.ofString "__next__") hi.typeIs F.slot_tuple_iterator_next (wpAny_call_entry F.slot_tuple_iterator_next hi.typeIs F.entry_tuple_iterator_next ?_ (F.args_tuple_iterator_next_1 _)))
  refine wpAny_bind (m := field (.ref it) 0) (wpAny_field e1 e3 (x := .ref t) rfl ?_)
  show wpAny (model prog w) _ (if (Value.ref t == Value.none) = true then _ else _) _ _ s
  rw [if_neg (by intro z; cases z)]
  refine wpAny_bind (m := field (.ref it) 1) (wpAny_field e1 e3 (x := .int i 0) rfl ?_)
  refine wpAny_bind (m := seqItems? (.ref t)) (wpAny_seqItems f1 f3 ?_)
  simp only [hx, Int.toNat_natCast]
  refine wpAny_bind (wpAny_rule (wpAny_bind (wpAny_setField e1 e3 (by simp) (wpAny_bind (m := newExc (.type "StopIteration") []) ?_))))
  simp only [newTuple, newExc]
  refine wpAny_bind (wpAny_newObj_type (wpAny_bind (m := firstArgMember _ _) (wpAny_of_eq (a := Value.none) (by first | rfl | (simp only [firstArgMember]; rfl)) (wpAny_newObj_type ?_ (by size_fits)))) (by size_fits))
  simp only [raiseNew]
  refine wpAny_bind (wpAny_handled ?_)
  rw [show A.in1.handled = none from hh]
  refine wpAny_bind (wpAny_pure (wpAny_throw (k _ _ (((Heap.SameBut.update ..).extBut.push _).push _) ⟨_, Heap.get?_push_size _ rfl, rfl⟩)))
end
/-- a list (true) or a tuple (false) -/
def IsB (h : Heap) : Bool → Addr → Array Value → Prop
  | true => h.IsList
  | false => h.IsTuple
def IterB (h : Heap) : Bool → Addr → Addr → Nat → Prop
  | true => h.IsListIter
  | false => h.IsTupleIter
def SqB (K : PySem.W.Frag) (H : Hp) : Bool → Addr → List V → Prop
  | true => SqL K H
  | false => SqT K H
theorem IsB.at {h h' : Heap} {b : Bool} {a : Addr} {its : Array Value} (x : IsB h b a its) (k : ∀ o, h.get? a = some o → h'.get? a = some o) : IsB h' b a its := by
  cases b <;> (obtain ⟨o, e, r⟩ := x; exact ⟨o, k o e, r⟩)
theorem IterB.at {h h' : Heap} {b : Bool} {a l : Addr} {i : Nat} (x : IterB h b a l i) (k : ∀ o, h.get? a = some o → h'.get? a = some o) : IterB h' b a l i := by
  cases b <;> (obtain ⟨o, e, r⟩ := x; exact ⟨o, k o e, r⟩)
theorem IterB.ob {h : Heap} {b : Bool} {a l : Addr} {i : Nat} (x : IterB h b a l i) : ∃ o, h.get? a = some o ∧ ∀ v, o.data ≠ .cell v := by
  cases b <;> (obtain ⟨o, e, _, d⟩ := x; exact ⟨o, e, fun v z => by rw [d] at z; cases z⟩)
theorem IsB.lt {h : Heap} {b : Bool} {a : Addr} {its : Array Value} (x : IsB h b a its) : a < h.objs.size := by
  cases b <;> (obtain ⟨o, e, _⟩ := x; exact Heap.lt_size e)
theorem drawsB {prog : Program} {w : World} {A : Around} (hh : A.handled = none) (b : Bool) (it l : Addr) (hne : l ≠ it) (its : Array Value) :
    Draws prog w A it [it, l] its.size (fun i v => its[i]? = some v) (fun i h => IterB h b it l i ∧ IsB h b l its) := by
  cases b with
  | true => exact Draws.list hh it l hne its
  | false =>
    exact {
      live := fun _ _ st => let ⟨o, ho, _⟩ := st.1; ⟨o, ho⟩
      frame := fun _ _ _ st hk => ⟨st.1.at fun o e => hk it (by simp) o e, st.2.at fun o e => hk l (by simp) o e⟩
      item := fun i s Q E hi st hQ => nxt_tup_item st.1 st.2 (x := its[i]) (by simp [hi]) fun h' a sb => hQ _ h' s.toks (by simp [hi]) ⟨a, st.2.at fun o e => (sb.2 l hne).trans e⟩ sb
      done := fun s Q E st hE => nxt_tup_end hh st.1 st.2 (by simp) hE }
section
variable {X : Cx} {pins : List (Addr × Obj)} {σ : St} {H : Hp} {s : Shared} {a : Addr} {xs ys : List V} {b : Bool}
theorem Inv.seqB (I : Inv X pins σ H s) (h : SqB X.K H b a xs) : ∃ its : List Value, Vals xs its ∧ IsB s.heap b a its.toArray ∧ xs.length ≤ sizeLine := by
  cases b with
  | true => obtain ⟨its, r, p, z⟩ := I.list h; exact ⟨its, r, p.isList, z⟩
  | false => obtain ⟨its, r, p, z⟩ := I.tuple h; exact ⟨its, r, p, z⟩
theorem Inv.seqB_inj (I : Inv X pins σ H s) (h : SqB X.K H b a xs) (h' : SqB X.K H b a ys) : xs = ys := by
  cases b with
  | true => exact I.list_inj h h'
  | false => exact I.tuple_inj h h'
end
end L2

set_option Elab.async false
set_option linter.all false
set_option maxRecDepth 100000
set_option maxHeartbeats 4000000
namespace L2
open PySem PySem.Spec PyProof.Rows
section
variable {prog : Program} {w : World} {A : Around} {E : Value → Shared → Prop} {s : Shared}
theorem nxtB_end {b : Bool} {it t : Addr} {i : Nat} {its : Array Value} {Q : Value → Shared → Prop} (hh : A.handled = none) (hi : IterB s.heap b it t i) (hs : IsB s.heap b t its) (hx : its[i]? = none)
    (k : ∀ h' e, Heap.ExtBut it s.heap h' → (∃ o, h'.get? e = some o ∧ o.cls = .type "StopIteration") → E (.ref e) { s with heap := h' }) : wpAny (model prog w) A (Builtin.SmallTypes.nextOf (.ref it)) Q E s := by
  cases b with
  | true => exact wpAny_nextOf_list_end hh hi hs hx k
  | false => exact nxt_tup_end hh hi hs hx k
def itc : Bool → String
  | true => "list_iterator"
  | false => "tuple_iterator"
abbrev zG1 (h : Heap) (b1 : Bool) (l1 : Addr) : Heap := h.push { cls := .type (itc b1), data := .fields #[.ref l1, .int 0 0] }
theorem pyIterB {b : Bool} {l : Addr} {its : Array Value} {Q : Value → Shared → Prop} (hl : IsB s.heap b l its)
    (hQ : Q (.ref s.heap.objs.size) { s with heap := s.heap.push { cls := .type (itc b), data := .fields #[.ref l, .int 0 0] } }) : wpAny (model prog w) A (pyIter (.ref l)) Q E s := by
  cases b with
  | true => exact wpAny_pyIter_list hl hQ
  | false => exact wpAny_pyIter_tuple hl hQ
end
end L2

set_option Elab.async false
set_option linter.all false
set_option maxRecDepth 100000
set_option maxHeartbeats 4000000
namespace L2
open PySem PySem.Spec PyProof.Rows
end L2
namespace L2
open PySem PySem.Spec PyProof.Rows
section
variable {prog : Program} {w : World} {A : Around} {E : Value → Shared → Prop} {s : Shared}
theorem enumB_new (b : Bool) (l : Addr) (its : Array Value) :
    Meets (Builtin.«enumerate.__new__» ⟨[.type "enumerate", .ref l], []⟩) (fun _ R s => IsB s.heap b l its ∧
      R (.ok (.ret (.ref (zG1 s.heap b l).objs.size))) { s with heap := (zG1 s.heap b l).push { cls := .type "enumerate", data := .fields #[.none, .bool false, .ref s.heap.objs.size, rawInt 0, .none, .none] } }) :=
  .of_wp fun prog w A R s h => by
    obtain ⟨hp, g, d, tk, os⟩ := s
    obtain ⟨q1, h⟩ := h
    have hsub := sub_enumerate
    have a1 : IsB (Shared.heap ⟨hp, g, d, tk, os⟩) b l its := q1
    have hl : ∃ o, hp.get? l = some o := by cases b <;> (obtain ⟨o, e, _⟩ := q1; exact ⟨o, e⟩)
    obtain ⟨o, hl⟩ := hl
    wp_walk using AutoSeq1.wpAny_loadPart' hl
    refine wpAny_stack_any fun st => wpAny_pure ?_
    split
    · rename_i c _ _ _ _ _
      cases (c == Value.type "enumerate")
      · wp_walk using AutoSeq1.wpAny_loadPart' hl, pyIterB a1
        exact ⟨_, rfl, h⟩
      · wp_walk using AutoSeq1.wpAny_loadPart' hl, pyIterB a1
        exact ⟨_, rfl, h⟩
    · wp_walk using AutoSeq1.wpAny_loadPart' hl, pyIterB a1
      exact ⟨_, rfl, h⟩
theorem call_enumB {b : Bool} {l : Addr} {its : Array Value} {Q : Value → Shared → Prop} (q1 : IsB s.heap b l its)
    (h : ∀ h', IsEnum h' (s.heap.objs.size + 1) s.heap.objs.size 0 .none → IterB h' b s.heap.objs.size l 0 → (∀ c o, s.heap.get? c = some o → h'.get? c = some o) → Q (.ref (s.heap.objs.size + 1)) { s with heap := h' }) :
    wpAny (model prog w) A (call (.type "enumerate") [.ref l]) Q E s := by
  refine callType_new F.called_enumerate (by decide) (F.typeCall_enumerate_1 _) (F.newCall_enumerate_1 _) (fun obj => F.args_object_init_2 obj _) F.entry_enumerate_new (enumB_new b l its) ⟨q1, ?_⟩
  have n1 : (zG1 s.heap b l).objs.size = s.heap.objs.size + 1 := Heap.size_push ..
  have g2 : ((zG1 s.heap b l).push { cls := .type "enumerate", data := .fields #[.none, .bool false, .ref s.heap.objs.size, rawInt 0, .none, .none] }).get? (zG1 s.heap b l).objs.size = some _ := Heap.get?_push_size _ rfl
  have g1 : ((zG1 s.heap b l).push { cls := .type "enumerate", data := .fields #[.none, .bool false, .ref s.heap.objs.size, rawInt 0, .none, .none] }).get? s.heap.objs.size = some _ := Heap.get?_push_of_some _ (Heap.get?_push_size _ rfl)
  show _ ∧ _
  rw [n1] at g2
  rw [n1]
  refine ⟨⟨_, g2, rfl⟩, h _ g2 ?_ fun c o q => Heap.get?_push_of_some _ (Heap.get?_push_of_some _ q)⟩
  cases b <;> exact ⟨_, g1, rfl, rfl⟩
theorem end_enumB {b : Bool} {e it l : Addr} {k : Nat} {its : Array Value} {i : Int} {old : Value} {Q : Option Value → Shared → Prop} (hh : A.in1.handled = none) (he : IsEnum s.heap e it i old) (h1 : IterB s.heap b it l k) (h2 : IsB s.heap b l its) (hx : its[k]? = none)
    (K : ∀ h', Heap.ExtBut it s.heap h' → Q none { s with heap := h' }) : wpAny (model prog w) A (pyNext (.ref e)) Q E s := by
  have T : s.TypeIs (.ref e) "enumerate" := ⟨_, he, rfl⟩
  unfold pyNext
  refine wpAny_bind (wpAny_attempt (wpAny_callSpecial?_slot (name := Str.ofString "__next__") T F.slot_enumerate_next (wpAny_call_entry F.slot_enumerate_next T F.entry_enumerate_next ?_ (F.args_enumerate_next_1 _))))
  refine wpAny_bind (m := field (.ref e) 2) (wpAny_field he rfl (x := .ref it) rfl (wpAny_bind (nxtB_end hh h1 h2 hx fun h' x he' ⟨o, ho, hc⟩ => ?_)))
  exact wpAny_bind (wpAny_isInstance (T := "StopIteration") (b := true) ⟨o, ho, hc⟩ isSubtype_stop (wpAny_pure (K _ he')))
end
/-- a list's or a tuple's items with their places -/
def ItE (K : PySem.W.Frag) (b : Bool) (a : Addr) : It :=
  ⟨fun i H => ∃ xs x, SqB K H b a xs ∧ xs[i]? = some x,
   fun i H v H' => ∃ p x, v = .ref p ∧ H p = none ∧ H' = upd H p (.tup [.int i, x]) ∧ ∀ xs, SqB K H b a xs → xs[i]? = some x,
   fun i H => ∃ xs, SqB K H b a xs ∧ xs.length ≤ i⟩
theorem turn_enumB {P : Program} {w : World} {K : PySem.W.Frag} {elts : List Expr} {c : Nat} {pos : Pos} {b : Bool} {e it a : Addr} (hei : e ≠ it) (hea : e ≠ a) (hia : a ≠ it) :
    Turn P w K (.Tuple elts c pos) (ItE K b a) [e, it] e (fun i h => (∃ old, IsEnum h e it i old) ∧ IterB h b it a i) where
  mem := by simp
  obj := fun i h st x hx => by
    obtain ⟨⟨old, he⟩, h1⟩ := st
    simp only [List.mem_cons, List.not_mem_nil, or_false] at hx
    rcases hx with rfl | rfl
    · exact ⟨_, he, fun _ q => by cases q⟩
    · exact h1.ob
  keep := fun i h h' st k => by
    obtain ⟨⟨old, he⟩, h1⟩ := st
    exact ⟨⟨old, k e (by simp) _ he⟩, h1.at fun o q => k it (by simp) o q⟩
  item := by
    intro X hP hw hK hc i pins s σ H E I hf st hg
    subst hP hw hK
    obtain ⟨xs, x, hq1, hx⟩ := hg
    obtain ⟨its1, rv1, p1, _⟩ := I.seqB hq1
    obtain ⟨u, hu, ru⟩ := rv1.get hx
    obtain ⟨⟨old, he⟩, h1⟩ := st
    have hi : i < its1.toArray.size := by
      have := rv1.length
      have h2 := (List.getElem?_eq_some_iff.mp hx).1
      simp; omega
    have hh : X.A.in1.handled = none := I.ok.hd hc
    refine wpAny_pyNext_enum_itemD (drawsB hh b it a hia its1.toArray) he ⟨h1, p1⟩ hi hei (by simp [hei, hea]) fun y h' tk hy eo st' hT hsz hk => ⟨_, rfl, ?_⟩
    obtain rfl : y = u := by
      have hy' : its1[i]? = some y := by simpa using hy
      rw [hu] at hy'
      exact (Option.some.inj hy').symm
    have lt : ∀ {c o}, s.heap.get? c = some o → s.heap.objs.size ≠ c := fun q => Nat.ne_of_gt (Heap.lt_size q)
    refine wpAny_letOwnedTupleGo_enum (s := { s with heap := h', toks := tk + 1 }) eo fun h'' c1 sb => ?_
    have hn : H s.heap.objs.size = none := I.hok.fresh (Nat.le_refl _)
    have kk : ∀ c o, c ∉ [e, it] → s.heap.get? c = some o → h''.get? c = some o := fun c o hc' q => by
      simp only [List.mem_cons, List.not_mem_nil, or_false, not_or] at hc'
      exact (sb.2 _ hc'.1).trans (hk c o hc'.1 hc'.2 q)
    have T1 : h''.get? s.heap.objs.size = some { cls := .type "tuple", data := .seq #[.int i tk, y] } := (sb.2 _ (lt he)).trans hT
    refine ⟨.ref s.heap.objs.size, upd H s.heap.objs.size (.tup [.int i, x]), I.turnedNew (t' := tk + 1) hf kk (Nat.le_refl _) ⟨by show 2 ≤ _; decide, [.int i tk, y], .cons ⟨_, rfl⟩ (.cons ru .nil), _, T1, rfl, _, rfl, rfl⟩, rfl, ⟨_, x, rfl, hn, rfl, fun xs' q1 => ?_⟩,
      ⟨⟨_, by simpa using c1⟩, st'.1.at fun o q => (sb.2 _ hei.symm).trans q⟩, fun b hb => ?_⟩
    · rw [I.seqB_inj q1 hq1]; exact hx
    · rw [upd_ne]
      · exact (hf b hb).1
      · simp only [List.mem_cons, List.not_mem_nil, or_false] at hb
        obtain ⟨o1, e1, _⟩ := h1.ob
        rcases hb with rfl | rfl
        · exact (lt he).symm
        · exact (lt e1).symm
  done := by
    intro X hP hw hK hc i pins s σ H E I hf st hg
    subst hP hw hK
    obtain ⟨xs, hq1, hx⟩ := hg
    obtain ⟨its1, rv1, p1, _⟩ := I.seqB hq1
    have l1 := rv1.length
    obtain ⟨⟨old, he⟩, h1⟩ := st
    have hh : X.A.in1.handled = none := I.ok.hd hc
    exact end_enumB hh he h1 p1 (by simp; omega) fun h' eb => ⟨rfl, I.turnedL (t' := s.toks) hf fun c o hc' q => eb c o (by simp at hc'; exact hc'.2) q⟩
  self := fun _ _ _ _ _ st h => by
    obtain ⟨⟨old, he⟩, _⟩ := st
    exact wpAny_pyIter_enum he h
def iEnumB (K : PySem.W.Frag) (b : Bool) (ta : TA) : TI := fun σ H R => ta σ H fun vs H1 => ∃ a, vs = [.ref a] ∧ (∃ xs, SqB K H1 b a xs) ∧ R (ItE K b a) H1
theorem boot_enumerate : bootBuiltins "enumerate" = some (.type "enumerate") := by decide +kernel
theorem pi_enumB (b : Bool) {X : Cx} {elts : List Expr} {c : Nat} {tpos : Pos} {a : Expr} {ta : TA} {p pos : Pos} (hg : Gl X "enumerate") (hm : X.mg "enumerate" = none) (ha : PA X [a] ta) (hs : starEach [a] X.env = [(false, eval a X.env)] := by rfl) :
    PI X (.Tuple elts c tpos) (.Call (.Name "enumerate" p) [a] [] pos) (iEnumB X.K b ta) := by
  intro pins s σ H R I h
  refine Call_ (ld_blt I hg hm boot_enumerate (PyProof.Rows.callWith_type1 (thn (ha pos pins s σ H _ I h) fun us s1 ⟨vs, H1, I1, r1, q1⟩ => ?_) hs rfl))
  obtain ⟨a, e, ⟨xs, hq1⟩, q⟩ := q1
  subst e
  cases r1 with
  | cons r rr =>
    cases rr
    cases r
    obtain ⟨its1, rv1, p1, _⟩ := I1.seqB hq1
    have la := p1.lt
    refine call_enumB p1 fun h' a1 a2 hk => wpAny_pyIter_enum a1 ?_
    refine ⟨_, _, _, _, H1, rfl, I1.kept (t' := s1.toks) hk, turn_enumB (e := s1.heap.objs.size + 1) (it := s1.heap.objs.size) (Nat.succ_ne_self _) ?_ ?_, ⟨⟨_, a1⟩, a2⟩, fun x hx => ?_, q⟩
    · exact Nat.ne_of_gt (Nat.lt_succ_of_lt la)
    · exact Nat.ne_of_lt la
    · have hx' : s1.heap.objs.size ≤ x := by
        simp only [List.mem_cons, List.not_mem_nil, or_false] at hx
        rcases hx with rfl | rfl <;> (show (_ : Nat) ≤ (_ : Nat)) <;> omega
      exact I1.fpOk hx' (I1.hok.fresh hx')
end L2

set_option Elab.async false
set_option linter.all false
set_option maxRecDepth 100000
set_option maxHeartbeats 4000000
namespace L2
open PySem PySem.Spec PyProof.Rows
theorem walksB {prog : Program} {w : World} {A : Around} (hh : A.handled = none) (b : Bool) (I l : Addr) (hne : l ≠ I) (its : Array Value) :
    Walks prog w A I [I, l] [I] its.size (fun i v => its[i]? = some v) (fun i h => IterB h b I l i ∧ IsB h b l its) := by
  cases b with
  | true => exact Walks.list hh I l hne its
  | false => exact Walks.tuple hh I l hne its
theorem argBest_lt (f : Nat → Int) (n : Nat) : argBest (fun i j => decide (f i < f j)) n ≤ n ∧ ∀ j, j ≤ n → f (argBest (fun i j => decide (f i < f j)) n) ≤ f j := by
  have e : (fun i j : Nat => decide (f i < f j)) = fun i j => decide (-(f i) > -(f j)) := by
    funext i j
    rw [decide_eq_decide]
    omega
  rw [e]
  have := argBest_gt (fun i => -(f i)) n
  exact ⟨this.1, fun j hj => by have := this.2 j hj; omega⟩
section
variable {X : Cx}
theorem bestB (up : Bool) {pins : List (Addr × Obj)} {s : Shared} {σ : St} {H : Hp} {b : Bool} {l : Addr} {ns : List Int} {Q : VK} (hc : X.calm = true) (I : Inv X pins σ H s) (hl : SqB X.K H b l (ns.map V.int)) (hne : ns ≠ [])
    (q : ∀ M, M ∈ ns → (∀ a ∈ ns, if up = true then a ≤ M else M ≤ a) → Q (.int M) H) : wpAny (model X.prog X.w) X.A (call (.builtin (if up = true then "max" else "min")) [.ref l]) (EP X pins σ Q) X.xe s := by
  obtain ⟨its, rv, p, hz⟩ := I.seqB hl
  have hi := intsAre_of rv
  obtain ⟨ys, e⟩ := hi.allInts.items
  have hnum : ns = ys.toList.map (·.1) := by
    have h1 := hi.numsOf
    have h2 := nums_intItems ys
    rw [← e] at h2
    rw [← h1, ← h2]
  have hsz : 0 < ys.size := by
    have : 0 < ns.length := List.length_pos_iff.mpr hne
    rw [hnum] at this
    simpa using this
  have hlt := p.lt
  have hh : X.A.in1.handled = none := I.ok.hd hc
  rw [e] at p
  have st0 : IterB (s.heap.push { cls := .type (itc b), data := .fields #[.ref l, .int 0 0] }) b s.heap.objs.size l 0 := by cases b <;> exact ⟨_, Heap.get?_push_size _ rfl, rfl, rfl⟩
  have fp0 : ∀ c ∈ [s.heap.objs.size, l], c < (s.heap.push { cls := .type (itc b), data := .fields #[.ref l, .int 0 0] }).objs.size := fun c hc' => by
    rw [Heap.size_push]
    simp only [List.mem_cons, List.not_mem_nil, or_false] at hc'
    rcases hc' with rfl | rfl
    · exact Nat.lt_succ_self _
    · exact Nat.lt_succ_of_lt hlt
  have fin : ∀ (k : Nat) (v : Value) (h' : Heap) (tk : Nat), k ≤ ys.size - 1 → (intItems ys)[k]? = some v → (∀ a ∈ ns, if up = true then a ≤ numAt ys k else numAt ys k ≤ a) →
      (∀ c o, c ∉ [s.heap.objs.size] → (s.heap.push { cls := .type (itc b), data := .fields #[.ref l, .int 0 0] }).get? c = some o → h'.get? c = some o) → EP X pins σ Q v { s with heap := h', toks := tk } := fun k v h' tk hk hv ha kk => by
    obtain ⟨t, rfl⟩ := intItems_at hv
    refine ⟨.int (numAt ys k), H, I.kept (t' := tk) fun c o eo => kk c o ?_ (Heap.get?_push_of_some _ eo), ⟨t, rfl⟩, q _ ?_ ha⟩
    · intro z
      have : c = s.heap.objs.size := by simpa using z
      subst this
      exact Nat.lt_irrefl _ (Heap.lt_size eo)
    · rw [numAt_eq, hnum]; exact getD_mem (by rw [List.length_map, Array.length_toList]; omega)
  cases up with
  | true =>
    refine call_max_walk (pyIterB p ⟨_, _, _, _, _, _, _, rfl, walksB hh b _ l (Nat.ne_of_lt hlt) (intItems ys), ⟨st0, p.at fun o eo => Heap.get?_push_of_some _ eo⟩, fp0, by simpa [intItems] using hsz, CmpOf.ints_gt (numAt ys) (fun _ _ => intItems_at), fun v h' tk hv kk => ?_⟩)
    obtain ⟨h1, h2⟩ := argBest_gt (numAt ys) (ys.size - 1)
    have es : (intItems ys).size = ys.size := by simp [intItems]
    rw [es] at hv
    refine fin _ v h' tk h1 hv (fun a ha => ?_) kk
    rw [if_pos rfl]
    rw [hnum] at ha
    obtain ⟨j, hj, rfl⟩ := mem_getD ha
    rw [List.length_map, Array.length_toList] at hj
    rw [← numAt_eq]; exact h2 j (by omega)
  | false =>
    refine call_min_walk (pyIterB p ⟨_, _, _, _, _, _, _, rfl, walksB hh b _ l (Nat.ne_of_lt hlt) (intItems ys), ⟨st0, p.at fun o eo => Heap.get?_push_of_some _ eo⟩, fp0, by simpa [intItems] using hsz, CmpOf.ints_lt (numAt ys) (fun _ _ => intItems_at), fun v h' tk hv kk => ?_⟩)
    obtain ⟨h1, h2⟩ := argBest_lt (numAt ys) (ys.size - 1)
    have es : (intItems ys).size = ys.size := by simp [intItems]
    rw [es] at hv
    refine fin _ v h' tk h1 hv (fun a ha => ?_) kk
    rw [if_neg (by decide)]
    rw [hnum] at ha
    obtain ⟨j, hj, rfl⟩ := mem_getD ha
    rw [List.length_map, Array.length_toList] at hj
    rw [← numAt_eq]; exact h2 j (by omega)
/-- max(xs), min(xs): a list or a tuple of ints, not empty; the heap named alone -/
def rMaxB (K : PySem.W.Frag) (b : Bool) : List V → Hp → VK → Prop := fun xs H Q => ∃ (l : Addr) (ns : List Int), xs = [.ref l] ∧ SqB K H b l (ns.map V.int) ∧ ns ≠ [] ∧ ∀ M, M ∈ ns → (∀ a ∈ ns, a ≤ M) → Q (.int M) H
theorem call_maxB (b : Bool) (hc : X.calm = true) : CallR X (.builtin "max") (rMaxB X.K b) := by
  intro pins s σ H xs us Q I r h
  obtain ⟨l, ns, rfl, hl, hne, q⟩ := h
  obtain ⟨u, rfl, ru⟩ := vals1 r
  cases ru
  exact bestB true hc I hl hne fun M h1 h2 => q M h1 fun a ha => by simpa using h2 a ha
/-- xs.index(y), flat -/
def rIndex : V → List V → Hp → VK → Prop := fun x vs H Q => ∃ l xs y j, x = .ref l ∧ vs = [y] ∧ H l = some (.lst xs) ∧ xs.all flatV = true ∧ flatV y = true ∧ j < xs.length ∧ eqV (xs.getD j .non) y = true ∧ (∀ m, m < j → eqV (xs.getD m .non) y = false) ∧ Q (.int (j : Nat)) H
theorem mt_index : MtR X "list.index" rIndex := by
  intro pins s σ H x vs v us Q I rx rv h
  obtain ⟨l, xs, y, j, rfl, rfl, hH, fx, fy, hj, hit, hno, q⟩ := h
  cases rx
  obtain ⟨u, rfl, ru⟩ := rv.one
  obtain ⟨z, its, n, r, hl, e⟩ := I.lstM hH
  have hlen := r.length
  have eu : ∀ m (hm : m < its.length), eqU y its[m] = eqV (xs.getD m .non) y := fun m hm => by
    obtain ⟨u', h1, h2⟩ := r.get (i := m) (x := xs[m]'(by omega)) (List.getElem?_eq_getElem (by omega))
    rw [List.getElem?_eq_getElem hm] at h1
    cases h1
    rw [eqU_of h2 (List.all_eq_true.mp fx _ (List.getElem_mem _)), getD_of (by omega)]
  refine call_meets F.slot_list_index ⟨_, e, rfl⟩ F.entry_list_index (F.args_list_index_2 _ _) (SeqAt.list_indexAt l its.toArray n none #[] u (eqU y) j (by simp; omega) ?_ ?_ fun m hm h1 => ?_) ⟨e, fun w hw => ?_, ?_⟩
  · have : xs.length ≤ sizeLine := z
    rw [sizeLine_eq] at this
    omega
  · have := eu j (by omega)
    simpa using this.trans hit
  · have := eu m (by simpa using hm)
    simpa using this.trans (hno m h1)
  · obtain ⟨y', hy, ry⟩ := vals_mem r (by simpa using hw)
    have fy' : flatV y' = true := List.all_eq_true.mp fx _ hy
    rw [eqU_of ry fy']
    exact eqAt_V ry ru fy' fy
  · exact ⟨.int (j : Nat), H, I.tok _, ⟨s.toks, rfl⟩, q⟩
/-- o[i] by values, o a list (for o[i] += e) -/
def rGetL : V → V → Hp → VK → Prop := fun o i H Q => ∃ p xs k v, o = .ref p ∧ i = .int k ∧ 0 ≤ k ∧ H p = some (.lst xs) ∧ atI xs k = some v ∧ Q v H
theorem get_list : PGet X rGetL := by
  intro pins s σ H o i ov iv Q I ro ri h
  obtain ⟨p, xs, k, z, rfl, rfl, h0, hp, he, q⟩ := h
  cases ro
  obtain ⟨t, rfl⟩ := ri
  obtain ⟨its, r, pl, hz⟩ := I.list (SqL.of (K := X.K) hp)
  obtain ⟨j, h1, h2, h3, h4, h5⟩ := atI_get he
  obtain ⟨w, ew, rw'⟩ := r.get h2
  have hl := r.length
  have hn := line63
  have hj : k.toNat = j := by
    rw [seqIndex_of h0 h5] at h1
    exact Option.some.inj h1
  exact wpAny_getItem_list pl.isList h0 (by omega) (by rw [hj]; simpa using ew) ⟨z, H, I, rw', q⟩
end
end L2

set_option Elab.async false
set_option linter.all false
set_option maxRecDepth 100000
set_option maxHeartbeats 1000000
namespace L2
open PySem PySem.Spec PyProof.Rows MA
/-! ### ints in a row -/
abbrev iv (ns : List Int) : List V := ns.map V.int
theorem iv_get {ns : List Int} {i : Nat} (h : i < ns.length) : (iv ns)[i]? = some (.int ns[i]) := by rw [List.getElem?_map, List.getElem?_eq_getElem h]; rfl
theorem iv_atI {ns : List Int} {i : Nat} (h : i < ns.length) : atI (iv ns) (i : Int) = some (.int (ns.getD i 0)) := by
  rw [atI_nat (iv_get h), getD_of h]
section
variable {X : Cx}
end
theorem data_ints (H : Hp) : ∀ ns : List Int, DataL H (iv ns) (ns.map PyData.int)
  | [] => .nil
  | n :: ns => .cons (.int n) (data_ints H ns)
theorem noDict_ints : ∀ ns : List Int, PyData.hasDictAll (ns.map PyData.int) = false
  | [] => rfl
  | n :: ns => by simp [PyData.hasDictAll, PyData.hasDict, noDict_ints ns]
theorem sm_ints {ns : List Int} {m : Nat} (h : ∀ x ∈ ns, I36 x) (hm : 2 ≤ m) (hm2 : ns.length * 2 ≤ m) : Sm m (.tuple (ns.map PyData.int)) :=
  sm_tup (n := 1) (fun d hd => by obtain ⟨x, hx, rfl⟩ := List.mem_map.mp hd; exact sm_int36 (h x hx) 1) (by rw [noDict_ints]; rfl) hm (by rw [List.length_map]; exact hm2)
theorem depth_ints : ∀ ns : List Int, PyData.depthAll (ns.map PyData.int) = 0
  | [] => rfl
  | n :: ns => by simp [PyData.depthAll, PyData.depth, depth_ints ns]
end L2
namespace My
open PySem L2 MA
theorem lz {m : Nat} (n : Nat) (h : m = n) (hn : n ≤ 100 := by decide) : m ≤ sizeLine := by
  rw [h, sizeLine_eq]; omega
theorem lzz {m : Nat} (h : m ≤ 10000) : m ≤ sizeLine := by rw [sizeLine_eq]; omega
theorem penX_upd {H H2 : Hp} {p acc : Addr} {n m : Nat} (hn : H acc = none) (hp : Pen H p n) (x : SameX p H H2) (hp2 : Pen H2 p m) (o : HO) : Pen (upd H2 acc o) p m ∧ SameX p H (upd H2 acc o) := by
  obtain ⟨c, ns, a, l, h1, h2, _, _⟩ := hp
  obtain ⟨c', ns', a', l', h1', h2', h3', h4'⟩ := hp2
  have hap : p ≠ acc := ne_of_none h1 hn
  have hac : c ≠ acc := ne_of_none h2 hn
  obtain ⟨a'', l'', e⟩ := x.pen c a l h1
  rw [h1'] at e
  have ec : c' = c := by
    have e' := congrArg (fun o => match o with | some (HO.dK ((_, V.ref q) :: _)) => q | _ => c) e
    exact e'
  subst ec
  refine ⟨⟨c', ns', a', l', by rw [upd_ne hap]; exact h1', by rw [upd_ne hac]; exact h2', h3', h4'⟩, ⟨fun b u hb hbp => ?_, fun c2 a2 l2 e2 => ?_⟩⟩
  · rw [upd_ne (ne_of_none hb hn)]; exact x.all b u hb hbp
  · rw [upd_ne hap]; exact x.pen c2 a2 l2 e2
/-- what isn't the pen stays beside draws -/
theorem Pen.nep {H : Hp} {p b : Addr} {n : Nat} {o : HO} (hp : Pen H p n) (hb : H b = some o) (ho : ∀ kvs, o ≠ .dK kvs := by intro _ z; cases z) : b ≠ p := by
  obtain ⟨kvs, e⟩ := hp.dk
  rintro rfl
  rw [hb] at e
  cases e
  exact ho _ rfl
theorem Pen.keep {H H' : Hp} {p b : Addr} {n : Nat} {o : HO} (hp : Pen H p n) (x : SameX p H H') (hb : H b = some o) (ho : ∀ kvs, o ≠ .dK kvs := by intro _ z; cases z) : H' b = some o := x.all b o hb (hp.nep hb ho)
end My

set_option Elab.async false
set_option linter.all false
set_option maxRecDepth 100000
set_option maxHeartbeats 1000000
namespace L2
open PySem PySem.Spec PyProof.Rows MA
def hoB : Bool → List V → HO
  | true, xs => .lst xs
  | false, xs => .tup xs
theorem SqB.of {K : PySem.W.Frag} {H : Hp} {b : Bool} {a : Addr} {xs : List V} (h : H a = some (hoB b xs)) : SqB K H b a xs := by
  cases b
  · exact SqT.of h
  · exact SqL.of h
end L2
namespace HT
open PySem PySem.Spec PyProof.Rows
section
variable {prog : Program} {w : World} {A : Around} {E : Value → Shared → Prop} {s : Shared}
end
end HT
namespace L2
open PySem PySem.Spec PyProof.Rows MA
section
variable {X : Cx} {e : Expr} {te : TE} {p2 p3 p4 pos : Pos}
theorem rep1 (x : Int) : ∀ k : Nat, (List.replicate k [V.int x]).flatten = iv (List.replicate k x)
  | 0 => rfl
  | k + 1 => by rw [List.replicate_succ, List.flatten_cons, rep1 x k, List.replicate_succ]; rfl
end
end L2
namespace L2
open PySem PySem.Spec PyProof.Rows MA
/-! ### data that lies in tuples and in what is new since H -/
end L2

set_option Elab.async false
set_option linter.all false
set_option maxRecDepth 100000
set_option maxHeartbeats 4000000
namespace L2
open PySem PySem.Spec PyProof.Rows
/-! ### comprehensions of two clauses: the block's body is any action on the new list -/
abbrev TB := St → Hp → (St → Hp → Prop) → Prop
def PB (X : Cx) (p : Addr) (body : Value → Env → Sem Unit) (t : TB) : Prop :=
  ∀ (pins : List (Addr × Obj)) (s : Shared) (σ : St) (H : Hp) (Q : St → Hp → Prop), Inv X pins σ H s → t σ H Q →
    wpAny (model X.prog X.w) X.A (body (.ref p) X.env) (fun _ s' => ∃ σ' H', Inv X pins σ' H' s' ∧ Q σ' H') X.xe s
/-- the walk of one clause -/
def LoopW (J : It) (g : TG) (tc : TT) (tb : TB) (σ : St) (H : Hp) (Q : St → Hp → Prop) : Prop :=
  ∃ W : Nat → Nat → St → Hp → Prop, (∃ m, W 0 m σ H) ∧ ∀ i m σ' H', W i m σ' H' →
    (J.stop i H' ∧ Q σ' H') ∨ (J.go i H' ∧ ∀ x H2, J.yld i H' x H2 → g x σ' H2 fun σ2 H3 => tc σ2 H3 fun b H4 => if b = true then tb σ2 H4 fun σ5 H5 => ∃ m', m' < m ∧ W (i + 1) m' σ5 H5 else ∃ m', m' < m ∧ W (i + 1) m' σ2 H4)
def emitL (elt : Expr) : Value → Env → Sem Unit := fun acc env => do let _ ← call (.builtin "list.append") [acc, ← eval elt env]
def tEmit (p : Addr) (te : TE) : TB := fun σ H Q => te σ H fun v H5 => ∃ ys, ys.length < sizeLine ∧ H5 p = some (.lst ys) ∧ Q σ (upd H5 p (.lst (ys ++ [v])))
theorem pb_emit {X : Cx} {p : Addr} {elt : Expr} {te : TE} (he : PE X elt te) : PB X p (emitL elt) (tEmit p te) := by
  intro pins s σ H Q I h
  refine wpAny_bind (thn (he pins s σ H _ I h) fun y s8 h8 => ?_)
  obtain ⟨v, H8, I8, r8, ys, hz, hH8, w8⟩ := h8
  refine wpAny_bind (thn (mt_append (X := X) _ s8 σ H8 (.ref p) [v] (.ref p) [y] (fun x H9 => x = .non ∧ H9 = upd H8 p (.lst (ys ++ [v]))) I8 rfl (.cons r8 .nil) ⟨p, ys, v, rfl, rfl, hH8, hz, rfl, rfl⟩) fun _ s9 h9 => ?_)
  obtain ⟨z, H9, I9, _, _, e9⟩ := h9
  subst e9
  exact wpAny_pure ⟨σ, _, I9, w8⟩
/-- a turn of a clause, its body being any action -/
def turnOf (e : Expr) (d : Nat) (tg iter : Expr) (ifs : List Expr) (body : Value → Env → Sem Unit) (it acc : Value) (env : Env) : Sem Fin := do
  standAt iter.pos
  match ← pyNext it with
  | none => pure (.done .next)
  | some v =>
    letOwnedTupleGo tg it v
    assign tg env v
    let mut ok := true
    for c in ifs do
      if ok then ok ← isTrue c env (eval c env)
    if ok then
      body acc env
    again (.compLoop e d it acc env)
/-- the second clause as a body of the first -/
def twoL (e : Expr) (iter : Expr) : Value → Env → Sem Unit := fun acc env => do
  let x ← eval iter env
  standAt iter.pos
  let x ← foldedSetIterable iter env x
  let _ ← runOwn (.compStart e 1 (← holding [x] (pyIter x)) acc env) env
theorem turn_two0 (elt tg iter tg2 iter2 : Expr) (ifs ifs2 : List Expr) (scope : Scope) (pos : Pos) (it acc : Value) (env : Env) :
    compTurn (.ListComp elt [⟨tg, iter, ifs, 0⟩, ⟨tg2, iter2, ifs2, 0⟩] scope pos) 0 it acc env = turnOf (.ListComp elt [⟨tg, iter, ifs, 0⟩, ⟨tg2, iter2, ifs2, 0⟩] scope pos) 0 tg iter ifs (twoL (.ListComp elt [⟨tg, iter, ifs, 0⟩, ⟨tg2, iter2, ifs2, 0⟩] scope pos) iter2) it acc env := by
  unfold turnOf
  refine congrArg (standAt iter.pos >>= ·) (funext fun _ => congrArg (pyNext it >>= ·) (funext fun r => ?_))
  cases r with
  | none => rfl
  | some v =>
    refine congrArg (letOwnedTupleGo tg it v >>= ·) (funext fun _ => congrArg (assign tg env v >>= ·) (funext fun _ => congrArg (_ >>= ·) (funext fun ok => ?_)))
    cases ok with
    | false => rfl
    | true =>
      rw [if_pos rfl, if_pos rfl]
      simp only [twoL, bind_assoc]
      rfl
theorem turn_two1 (elt tg iter tg2 iter2 : Expr) (ifs ifs2 : List Expr) (scope : Scope) (pos : Pos) (it acc : Value) (env : Env) :
    compTurn (.ListComp elt [⟨tg, iter, ifs, 0⟩, ⟨tg2, iter2, ifs2, 0⟩] scope pos) 1 it acc env = turnOf (.ListComp elt [⟨tg, iter, ifs, 0⟩, ⟨tg2, iter2, ifs2, 0⟩] scope pos) 1 tg2 iter2 ifs2 (emitL elt) it acc env := by rfl
/-- a clause's start: its iterator is asked for itself, or not -/
theorem start_of {M : Model} {A : Around} {R : Result → Shared → Prop} {s : Shared} {e : Expr} {d : Nat} {g : Comprehension} {it acc : Value} {env : Env} (hg : (clausesOf e)[d]? = some g) (ha : g.is_async = 0)
    (h0 : codeAny M A (.compLoop e d it acc env) R s) (hden : M.den (.compStart e d it acc env) = (compStart e d it acc env).onRaise (fun x => do noteFrame x env; standAt theWindowsPlace)) (hun : A.under (.compStart e d it acc env) = A) (hq : Code.quiet (.compLoop e d it acc env) = true)
    (h : wpAny M A (pyIter it) (fun it' s' => codeAny M A (.compLoop e d it' acc env) R s') (notedBy M A env fun x s' => R (.error x) s') s) (hq' : ∀ it', Code.quiet (.compLoop e d it' acc env) = true) : codeAny M A (.compStart e d it acc env) R s := by
  refine codeAny_of_tree ?_
  rw [hden, hun]
  refine wpAny_notedAt ?_
  unfold compStart
  rw [hg]
  simp only [Option.elim, ha]
  show wpAny _ _ (ask >>= _) _ _ s
  refine wpAny_bind (wpAny_askSetting (wpAny_ite ?_))
  split
  · first
      | exact wpAny_bind (wpAny_pure (wpAny_pure ⟨hq, h0⟩))
      | exact wpAny_pure ⟨hq, h0⟩
  · refine wpAny_bind (wpAny_rule ?_)
    show wpAny _ _ (standAt g.iter.pos >>= _) _ _ s
    exact wpAny_bind (wpAny_standAt (wpAny_bind (wpAny_mono h (fun it' s' h' => wpAny_pure ⟨hq' it', h'⟩) fun _ _ x => x)))
theorem loop_of {X : Cx} {elt tg iter : Expr} {gens : List Comprehension} {scope : Scope} {pos : Pos} {d : Nat} {ifs : List Expr} {body : Value → Env → Sem Unit} {J : It} {fp : List Addr} {it p : Addr} {tn : Nat → Heap → Prop} {g : TG} {tc : TT} {tb : TB} {pins : List (Addr × Obj)} {s : Shared} {σ : St} {H : Hp} {Q : St → Hp → Prop} {R : Result → Shared → Prop}
    (hturn : compTurn (.ListComp elt gens scope pos) d (.ref it) (.ref p) X.env = turnOf (.ListComp elt gens scope pos) d tg iter ifs body (.ref it) (.ref p) X.env) (hc : X.calm = true) (hxe : ∀ e s, X.xe e s → False) (T : Turn X.prog X.w X.K tg J fp it tn) (hg : PG X tg g) (ht : PTs X ifs tc) (hb : PB X p body tb)
    (I : Inv X pins σ H s) (st : tn 0 s.heap) (f2 : ∀ b ∈ fp, FpOk X pins H b) (h : LoopW J g tc tb σ H Q) (hR : ∀ s' σ' H', Inv X pins σ' H' s' → Q σ' H' → R (.ok .next) s') :
    codeAny (model X.prog X.w) X.A (.compLoop (.ListComp elt gens scope pos) d (.ref it) (.ref p) X.env) R s := by
  obtain ⟨W, ⟨m0, w0⟩, turn⟩ := h
  have stat : ∀ {H' : Hp}, (∀ b ∈ fp, H' b = none) → ∀ b ∈ fp, FpOk X pins H' b := fun hn b hb => ⟨hn b hb, (f2 b hb).2⟩
  refine codeAny_loop rfl (fun n s' => ∃ i σ' H', Inv X pins σ' H' s' ∧ tn i s'.heap ∧ (∀ b ∈ fp, H' b = none) ∧ W i n σ' H') (fun n s' hI => ?_) m0 ⟨0, σ, H, I, st, fun b hb => (f2 b hb).1, w0⟩
  obtain ⟨i, σ', H', J', st', fr', w'⟩ := hI
  show wpAny _ X.A ((compTurn (.ListComp elt gens scope pos) d (.ref it) (.ref p) X.env).onRaise (fun x => do noteFrame x X.env; theTreesLotGoes x)) _ _ s'
  refine wpAny_noted ?_
  rw [hturn]
  unfold turnOf
  rcases turn i n σ' H' w' with ⟨stop, q⟩ | ⟨go, step⟩
  · refine wpAny_bind (wpAny_standAt (wpAny_bind (wpAny_mono (T.done X rfl rfl rfl hc i pins s' σ' H' X.xe J' (stat fr') st' stop) (fun r s4 h4 => ?_) fun _ _ x => (hxe _ _ x).elim)))
    obtain ⟨hr, I4⟩ := h4
    subst hr
    exact wpAny_pure (hR s4 σ' H' I4 q)
  · refine wpAny_bind (wpAny_standAt (wpAny_bind (wpAny_mono (T.item X rfl rfl rfl hc i pins s' σ' H' X.xe J' (stat fr') st' go) (fun r s4 h4 => ?_) fun _ _ x => (hxe _ _ x).elim)))
    obtain ⟨u, hr, h4⟩ := h4
    subst hr
    refine wpAny_bind (wpAny_mono h4 (fun _ s5 h5 => ?_) fun _ _ x => (hxe _ _ x).elim)
    obtain ⟨x, H5, I5, r5, y5, st5, fr5⟩ := h5
    have I5' := I5.pinned (stat fr5) (T.obj _ _ st5)
    refine wpAny_bind (wpAny_mono (hg _ s5 σ' H5 x u _ I5' r5 (step x H5 y5)) (fun _ s6 h6 => ?_) fun _ _ x => (hxe _ _ x).elim)
    obtain ⟨σ6, H6, I6, q6⟩ := h6
    have again : ∀ {σ7 : St} {H7 : Hp} {s7 : Shared}, Inv X (pins ++ pinsAt fp s5.heap) σ7 H7 s7 → (∃ m', m' < n ∧ W (i + 1) m' σ7 H7) →
        ∃ m, m < n ∧ ∃ i σ' H', Inv X pins σ' H' s7 ∧ tn i s7.heap ∧ (∀ b ∈ fp, H' b = none) ∧ W i m σ' H' := fun {σ7 H7 s7} I7 n7 => by
      obtain ⟨m', hm, w7⟩ := n7
      refine ⟨m', hm, i + 1, σ7, H7, I7.unpinned, T.keep _ _ _ st5 fun b hb o e => (I7.pin (b, o) (List.mem_append_right _ (List.mem_append_right _ (mem_pinsAt hb e)))).1, fun b hb => ?_, w7⟩
      obtain ⟨o, e, d⟩ := T.obj _ _ st5 b hb
      exact (I7.pin (b, o) (List.mem_append_right _ (List.mem_append_right _ (mem_pinsAt hb e)))).2.1
    refine wpAny_bind (wpAny_mono (ht _ s6 σ6 H6 _ I6 q6) (fun ok s7 h7 => ?_) fun _ _ x => (hxe _ _ x).elim)
    obtain ⟨H7, I7, q7⟩ := h7
    cases ok with
    | false =>
      rw [if_neg Bool.false_ne_true] at q7
      exact wpAny_pure ⟨rfl, again I7 q7⟩
    | true =>
      rw [if_pos rfl] at q7
      refine wpAny_bind (wpAny_mono (hb _ s7 σ6 H7 _ I7 q7) (fun y s8 h8 => ?_) fun _ _ x => (hxe _ _ x).elim)
      obtain ⟨σ8, H8, I8, w8⟩ := h8
      exact wpAny_pure ⟨rfl, again I8 w8⟩
def tTwo (wi : TI) (g : TG) (tc : TT) (tb : TB) : TB := fun σ H Q => wi σ H fun J H1 => LoopW J g tc tb σ H1 Q
theorem pb_two {X : Cx} {elt tg iter tg2 iter2 : Expr} {ifs ifs2 : List Expr} {scope : Scope} {pos : Pos} {p : Addr} {wi : TI} {g : TG} {tc : TT} {te : TE} (hc : X.calm = true) (hxe : ∀ e s, X.xe e s → False) (hi : PI X tg2 iter2 wi) (hg : PG X tg2 g) (ht : PTs X ifs2 tc) (he : PE X elt te)
    (hs : ∀ x, foldedSetIterable iter2 X.env x = pure x) : PB X p (twoL (.ListComp elt [⟨tg, iter, ifs, 0⟩, ⟨tg2, iter2, ifs2, 0⟩] scope pos) iter2) (tTwo wi g tc (tEmit p te)) := by
  intro pins s σ H Q I h
  unfold twoL
  refine wpAny_bind (thn (hi pins s σ H _ I h) fun v s1 h1 => wpAny_bind (wpAny_standAt (wpAny_bind (wpAny_of_eq (hs v) (wpAny_bind (wpAny_holding (thn h1 fun itv s2 h2 => ?_)))))))
  obtain ⟨it, fp, tn, J, H2, e, I2, T, st2, f2, h3⟩ := h2
  subst e
  refine wpAny_bind (wpAny_runOwn ?_)
  have loop : codeAny (model X.prog X.w) X.A (.compLoop (.ListComp elt [⟨tg, iter, ifs, 0⟩, ⟨tg2, iter2, ifs2, 0⟩] scope pos) 1 (.ref it) (.ref p) X.env) (fun r s' => match r with | .ok f => wpAny (model X.prog X.w) X.A (pure ()) (fun _ s' => ∃ σ' H', Inv X pins σ' H' s' ∧ Q σ' H') X.xe s' | .error e => cameBackBy (model X.prog X.w) X.A X.env X.xe e s') s2 :=
    loop_of (turn_two1 _ _ _ _ _ _ _ _ _ _ _ _) hc hxe T hg ht (pb_emit he) I2 st2 f2 h3 fun s' σ' H' I' q' => wpAny_pure ⟨σ', H', I', q'⟩
  exact start_of (g := ⟨tg2, iter2, ifs2, 0⟩) rfl rfl loop rfl rfl rfl (T.self X.A 0 _ _ _ st2 loop) fun _ => rfl
def tComp2 (σ0 : St → St) (wi : TI) (g : TG) (tc : TT) (wi2 : TI) (g2 : TG) (tc2 : TT) (te : TE) : TE := fun σ H Q => wi σ H fun J H1 => ∀ p, H1 p = none → LoopW J g tc (tTwo wi2 g2 tc2 (tEmit p te)) (σ0 σ) (upd H1 p (.lst [])) fun _ H' => Q (.ref p) H'
theorem comp_core2 {X : Cx} {elt tg iter tg2 iter2 : Expr} {ifs ifs2 : List Expr} {scope : Scope} {pos pos2 : Pos} {wi wi2 : TI} {g g2 : TG} {tc tc2 : TT} {te : TE} {N : List Str} {σ0 : St → St} {pins : List (Addr × Obj)} {s : Shared} {σ : St} {H : Hp} {Q : VK} {use : Option (Value → Sem Unit)} {QQ : Value → Shared → Prop}
    (hc : X.calm = true) (hxe : ∀ e s, X.xe e s → False) (hcell : ∀ y ∈ scope.names, y.2 ≠ .cell) (hkind : scope.kind = .function) (hnames : ∀ y ∈ scope.names, y.2 = .local → scope.names.lookup y.1 = some .local)
    (hfr : ∀ y ∈ scope.names, y.2 = .free → X.env.kindOf y.1 = some .cell ∨ X.env.kindOf y.1 = some .free) (hσ : Sees X scope N σ0)
    (hi : PI X tg iter wi)
    (hg : ∀ cl C s H ex, PG (cxComp X scope N cl C s H ex) tg g) (ht : ∀ cl C s H ex, PTs (cxComp X scope N cl C s H ex) ifs tc) (hi2 : ∀ cl C s H ex, PI (cxComp X scope N cl C s H ex) tg2 iter2 wi2) (hg2 : ∀ cl C s H ex, PG (cxComp X scope N cl C s H ex) tg2 g2) (ht2 : ∀ cl C s H ex, PTs (cxComp X scope N cl C s H ex) ifs2 tc2) (he : ∀ cl C s H ex, PE (cxComp X scope N cl C s H ex) elt te)
    (hs : ∀ x, foldedSetIterable iter X.env x = pure x) (hs2 : ∀ env x, foldedSetIterable iter2 env x = pure x) (I : Inv X pins σ H s) (h : tComp2 σ0 wi g tc wi2 g2 tc2 te σ H Q)
    (hend : ∀ (p C : Addr) (H' : Hp) (s' : Shared) (m : Str → Option Value) (f : Flow), Inv X pins σ H' s' → FpOk X pins H' C → s'.heap.Ns C m → (∀ h', Heap.SameBut C s'.heap h' → Inv X pins σ H' { s' with heap := h' }) → Q (.ref p) H' →
      compPost (model X.prog X.w) X.A X.xe use QQ (.ref p) C (.ok f) s') :
    wpAny (model X.prog X.w) X.A (comprehension (.ListComp elt [⟨tg, iter, ifs, 0⟩, ⟨tg2, iter2, ifs2, 0⟩] scope pos) scope X.env pos2 (newList []) false (eval iter X.env) use) QQ X.xe s := by
  obtain ⟨cl, hclos, hcl1, hcl2⟩ := closure_of (env := X.env) (scope := scope) fun y hy hf => I.ok.has y.1 (hfr y hy hf)
  refine wpAny_comprehension_free (use := use) rfl hs hclos hkind hnames (thn (hi pins s σ H _ I h) fun v s1 h1 => thn h1 fun itv s2 h2 => ?_)
  obtain ⟨it, fp, tn, J, H2, e, I2, T, st2, f2, h3⟩ := h2
  subst e
  have hpn : H2 s2.heap.objs.size = none := I2.hok.fresh (Nat.le_refl _)
  have h4 := h3 _ hpn
  refine wpAny_newObj_type ?_
  generalize hp : s2.heap.objs.size = p at *
  have I3 : Inv X pins σ (upd H2 p (.lst [])) { s2 with heap := s2.heap.push { cls := .type "list", dict := none, data := .seq ([] : List Value).toArray } } := by
    refine I2.laid (a := p) (o := .lst []) (t' := s2.toks) (fun b u q => Heap.get?_push_of_some _ q) (Nat.le_of_eq hp) ⟨Nat.zero_le _, [], 0, .nil, ?_⟩
    rw [← hp]
    exact Heap.get?_push_size _ rfl
  have hf3 : ∀ b ∈ fp, FpOk X pins (upd H2 p (.lst [])) b := fun b hb => by
    obtain ⟨o, ho, _⟩ := T.obj _ _ st2 b hb
    have : b ≠ p := by rw [← hp]; exact Nat.ne_of_lt (Heap.lt_size ho)
    exact ⟨by rw [upd_ne this]; exact (f2 b hb).1, (f2 b hb).2⟩
  generalize hs3 : ({ s2 with heap := s2.heap.push { cls := .type "list", dict := none, data := .seq ([] : List Value).toArray } } : Shared) = s3 at *
  have st3 : tn 0 s3.heap := by rw [← hs3]; exact T.keep _ _ _ st2 fun b _ o e => Heap.get?_push_of_some _ e
  generalize hH3 : upd H2 p (.lst []) = H3 at *
  refine wpAny_newFunctionEnv hcell (by intro y hy; simp at hy) (fun h1 hns1 hsb1 => ?_) hkind
  generalize hC : s3.heap.objs.size = C at *
  have keep : ∀ b u, s3.heap.get? b = some u → h1.get? b = some u := fun b u q =>
    hsb1.extBut b u (by rw [← hC]; exact Nat.ne_of_lt (Heap.lt_size q)) (Heap.get?_push_of_some _ q)
  have fpC : ∀ b ∈ fp, b ≠ C := fun b hb => by
    obtain ⟨o, ho, _⟩ := T.obj _ _ st3 b hb
    rw [← hC]; exact Nat.ne_of_lt (Heap.lt_size ho)
  have hCn : H3 C = none := I3.hok.fresh (Nat.le_of_eq hC)
  -- the block's own invariant, at its entry
  have ok' : (cxComp X scope N cl C s3 H3 fp).Ok := by
    refine ⟨I3.mod, hkind, I3.ok.glob, I3.ok.blt, Nat.le_of_eq hC, fun x y c a b => I3.ok.inj x y c (hcl1 x c a) (hcl1 y c b), fun x hx => ?_, fun _ _ z => Bool.noConfusion (show false = true from z), I3.ok.hd, I3.ok.frames, .inl rfl, fun b hb => ⟨fpC b hb, fun x c q => (hf3 b hb).2.2.2.2.1 x c (hcl1 x c q)⟩,
      I3.bs, Nat.le_trans I3.ok.bsz I3.sz, fun b o e hb => ?_, fun b hb z => ?_, I3.stack, I3.stkFree⟩
    · have hx' : (relabel scope X.env).names.lookup x = some .cell ∨ (relabel scope X.env).names.lookup x = some .free := hx
      rcases hx' with z | z
      · rcases lookup_relabel_mem z with y | ⟨_, y⟩
        · exact absurd rfl (hcell _ y)
        · exact hcl2 x y
      · rcases lookup_relabel_mem z with y | ⟨y, _⟩
        · exact hcl2 x y
        · cases y
    · rcases (hf3 b hb).2.2.2.1 with z | z
      · exact I3.ok.noex b o e z
      · exact absurd (Nat.lt_of_lt_of_le (Heap.lt_size e) (Nat.le_trans I3.ok.bsz z)) (Nat.lt_irrefl _)
    · rcases List.mem_cons.mp (I3.stkSub b z) with q | q
      · exact (hf3 b hb).2.1 q
      · exact (hf3 b hb).2.2.1 q
  have J0 : Inv (cxComp X scope N cl C s3 H3 fp) [] (σ0 σ) H3 { s3 with heap := h1, toks := s3.toks + ([] : List (Str × Value)).length } := by
    refine ⟨ok', rfl, I3.bare, Un.kept keep, ⟨_, hns1, fun i x v a b c => ?_⟩, fun x c q => ?_, hCn, fun x c q => I3.freeC x c (hcl1 x c q), fun q hq => absurd (show q ∈ ([] : List (Addr × Obj)) from hq) (by simp), I3.hok.kept keep, (hσ σ).1⟩
    · obtain ⟨hf, j, hj, hv⟩ := (hσ σ).2 i x v a b
      have hm := mem_of_lookupF hf
      obtain ⟨m, hn, hl⟩ := id I3.loc
      have hk := hfr _ hm rfl
      have hvis : Vis X.env.scope x := hk.elim (fun z => .inr (.inl z)) fun z => .inr (.inr z)
      obtain ⟨u, r, lk⟩ := hl j x v hj hv hvis
      refine ⟨u, r, .inr ⟨lookup_relabel_free hf, ?_⟩⟩
      obtain ⟨c', hc'⟩ := hcl2 x hm
      refine ⟨c', hc', ?_⟩
      have hx := hcl1 x c' hc'
      rcases lk with ⟨kl, _⟩ | ⟨_, c2, e2, o2, ho2, hd2⟩
      · rcases hk with z | z <;> rw [kl] at z <;> cases z
      · rw [hx] at e2
        cases e2
        exact ⟨o2, keep _ _ ho2, hd2⟩
    · obtain ⟨v, o, ho, hd⟩ := I3.cell x c (hcl1 x c q)
      exact ⟨v, o, keep _ _ ho, hd⟩
  have st4 : tn 0 h1 := T.keep _ _ _ st3 fun b _ o e => keep b o e
  have stat : ∀ {H' : Hp}, (∀ b ∈ fp, H' b = none) → ∀ b ∈ fp, FpOk (cxComp X scope N cl C s3 H3 fp) [] H' b := fun hn b hb =>
    ⟨hn b hb, fpC b hb, fun z => ok'.exfs b hb z, .inl hb, fun x c q => (hf3 b hb).2.2.2.2.1 x c (hcl1 x c q), fun q hq => absurd (show q ∈ ([] : List (Addr × Obj)) from hq) (by simp)⟩
  -- back to the def
  have back : ∀ {σ' : St} {H' : Hp} {s' : Shared} {pl : List (Addr × Obj)}, Inv (cxComp X scope N cl C s3 H3 fp) pl σ' H' s' → ∀ h', Heap.SameBut C s'.heap h' → Inv X pins σ H' { s' with heap := h' } := fun {σ' H' s' pl} J h' hsb => by
    have I5 : Inv X pins σ H' s' := Inv.call' (ch := fp) I3 J.os J.base J.hok J.bare fun b hb => ⟨(hf3 b hb).2.2.2.1, (hf3 b hb).2.1, (hf3 b hb).2.2.2.2.1, (hf3 b hb).2.2.2.2.2⟩
    refine Inv.turned (it := C) (t' := s'.toks) I5 (fun b o hb e => hsb.extBut b o hb e) J.free (fun z => ?_) (.inr ?_) (fun x c q z => ?_) fun q hq z => ?_
    · exact absurd (show X.env.locals < C by rw [← hC]; exact I3.lt) (by rw [z]; exact Nat.lt_irrefl _)
    · rw [← hC]; exact I3.sz
    · obtain ⟨v, o, ho, _⟩ := I3.cell x c q
      have := Heap.lt_size ho
      rw [z, hC] at this
      exact Nat.lt_irrefl _ this
    · have := Heap.lt_size (I3.pin q hq).1
      rw [z, hC] at this
      exact Nat.lt_irrefl _ this
  have ff : ∀ b ∈ fp, FpOk (cxComp X scope N cl C s3 H3 fp) [] H3 b := stat fun b hb => (hf3 b hb).1
  have loop : codeAny (model X.prog X.w) X.A (.compLoop (.ListComp elt [⟨tg, iter, ifs, 0⟩, ⟨tg2, iter2, ifs2, 0⟩] scope pos) 0 (.ref it) (.ref p) (compEnvC scope cl C X.env)) (compPost (model X.prog X.w) X.A X.xe use QQ (.ref p) C) { s3 with heap := h1, toks := s3.toks + ([] : List (Str × Value)).length } := by
    refine loop_of (X := cxComp X scope N cl C s3 H3 fp) (Q := fun _ H' => Q (.ref p) H') (turn_two0 _ _ _ _ _ _ _ _ _ _ _ _) hc hxe T (hg cl C s3 H3 fp) (ht cl C s3 H3 fp) (pb_two hc hxe (hi2 cl C s3 H3 fp) (hg2 cl C s3 H3 fp) (ht2 cl C s3 H3 fp) (he cl C s3 H3 fp) (hs2 _)) J0 st4 ff h4 ?_
    intro s4 σ' H' I4 q
    obtain ⟨m, hn, _⟩ := id I4.loc
    have I5 : Inv X pins σ H' s4 := Inv.call' (ch := fp) I3 I4.os I4.base I4.hok I4.bare fun b hb => ⟨(hf3 b hb).2.2.2.1, (hf3 b hb).2.1, (hf3 b hb).2.2.2.2.1, (hf3 b hb).2.2.2.2.2⟩
    exact hend p C H' s4 m _ I5 (I3.fpOk (Nat.le_of_eq hC) I4.free) hn (fun h' hsb => back I4 h' hsb) q
  exact codeAny_compStart_list loop (T.self X.A 0 _ _ _ st4 loop)
theorem pe_comp2 {X : Cx} {elt tg iter tg2 iter2 : Expr} {ifs ifs2 : List Expr} {scope : Scope} {pos : Pos} {wi wi2 : TI} {g g2 : TG} {tc tc2 : TT} {te : TE} {N : List Str} {σ0 : St → St}
    (hc : X.calm = true) (hxe : ∀ e s, X.xe e s → False) (hcell : ∀ y ∈ scope.names, y.2 ≠ .cell) (hkind : scope.kind = .function) (hnames : ∀ y ∈ scope.names, y.2 = .local → scope.names.lookup y.1 = some .local)
    (hfr : ∀ y ∈ scope.names, y.2 = .free → X.env.kindOf y.1 = some .cell ∨ X.env.kindOf y.1 = some .free) (hσ : Sees X scope N σ0)
    (hi : PI X tg iter wi)
    (hg : ∀ cl C s H ex, PG (cxComp X scope N cl C s H ex) tg g) (ht : ∀ cl C s H ex, PTs (cxComp X scope N cl C s H ex) ifs tc) (hi2 : ∀ cl C s H ex, PI (cxComp X scope N cl C s H ex) tg2 iter2 wi2) (hg2 : ∀ cl C s H ex, PG (cxComp X scope N cl C s H ex) tg2 g2) (ht2 : ∀ cl C s H ex, PTs (cxComp X scope N cl C s H ex) ifs2 tc2) (he : ∀ cl C s H ex, PE (cxComp X scope N cl C s H ex) elt te)
    (hs : ∀ x, foldedSetIterable iter X.env x = pure x := by intro _; rfl) (hs2 : ∀ env x, foldedSetIterable iter2 env x = pure x := by intro _ _; rfl) : PE X (.ListComp elt [⟨tg, iter, ifs, 0⟩, ⟨tg2, iter2, ifs2, 0⟩] scope pos) (tComp2 σ0 wi g tc wi2 g2 tc2 te) := by
  intro pins s σ H Q I h
  rw [eval_ListComp]
  refine comp_core2 (use := none) (QQ := EP X pins σ Q) hc hxe hcell hkind hnames hfr hσ hi hg ht hi2 hg2 ht2 he hs hs2 I h ?_
  intro p C H' s' m f I5 fC hn back q
  exact ⟨m, hn, fun h' hsb => ⟨.ref p, H', back h' hsb, rfl, q⟩⟩
end L2

set_option Elab.async false
set_option linter.all false
set_option maxRecDepth 100000
set_option maxHeartbeats 1000000
namespace L2
open PySem PySem.Spec PyProof.Rows MA
/-! ### set(list of ints), len of a set, list(range(n)) -/
section
variable {X : Cx}
end
/-! ### readings of a clause's walk -/
/-! ### a tuple, a list walked inside a comprehension: no K -/
section
variable {X : Cx} {o e : Expr} {es : List Expr} {to : TE} {t : TA} {name : Str} {apos cpos : Pos} {id : String} {r : V → List V → Hp → VK → Prop}
end
end L2

set_option Elab.async false
set_option linter.all false
set_option maxRecDepth 100000
set_option maxHeartbeats 1000000
namespace L2
open PySem PySem.Spec PyProof.Rows MA SeqAt
/-! ### a text and a dict are not the same -/
section
variable {X : Cx}
end
end L2

set_option Elab.async false
set_option linter.all false
set_option maxRecDepth 100000
set_option maxHeartbeats 1000000
namespace PySem
open Sem (wp)
namespace F
end F
section
variable {prog : Program} {w : World} {K : Type} [DecidableEq K] {knd : KeyKind prog w K} {A : Around} {R : Result → Shared → Prop}
end
end PySem
namespace L2
open PySem PySem.Spec PyProof.Rows MA
section
variable {X : Cx}
end
end L2

set_option Elab.async false
set_option linter.all false
set_option maxRecDepth 100000
set_option maxHeartbeats 4000000
namespace L2
open PySem PySem.Spec PyProof.Rows
/-! ### dict comprehensions of one clause -/
def emitD (kx vx : Expr) : Value → Env → Sem Unit := fun acc env => match acc with
  | .ref D => do
    let kv ← eval kx env
    let vv ← holding [kv] (eval vx env)
    standAt { kx.pos with endLine := vx.pos.endLine, endCol := vx.pos.endCol }
    holding [kv, vv] (dictSet D kv vv)
  | _ => pure ()
theorem turn_d (kx vx tg iter : Expr) (ifs : List Expr) (scope : Scope) (pos : Pos) (it : Value) (D : Addr) (env : Env) :
    compTurn (.DictComp kx vx [⟨tg, iter, ifs, 0⟩] scope pos) 0 it (.ref D) env = turnOf (.DictComp kx vx [⟨tg, iter, ifs, 0⟩] scope pos) 0 tg iter ifs (emitD kx vx) it (.ref D) env := by
  rw [compTurn_dict]
  rfl
theorem wpAny_newDict0 {M : Model} {A : Around} {E : Value → Shared → Prop} {s : Shared} {Q : Value → Shared → Prop} (h : Q (.ref s.heap.objs.size) { s with heap := s.heap.push { cls := .type "dict", data := .dict #[] } }) : wpAny M A newDict Q E s :=
  wpAny_newObj_type h
theorem loop_ofD {X : Cx} {kx vx tg iter : Expr} {gens : List Comprehension} {scope : Scope} {pos : Pos} {d : Nat} {ifs : List Expr} {body : Value → Env → Sem Unit} {J : It} {fp : List Addr} {it p : Addr} {tn : Nat → Heap → Prop} {g : TG} {tc : TT} {tb : TB} {pins : List (Addr × Obj)} {s : Shared} {σ : St} {H : Hp} {Q : St → Hp → Prop} {R : Result → Shared → Prop}
    (hturn : compTurn (.DictComp kx vx gens scope pos) d (.ref it) (.ref p) X.env = turnOf (.DictComp kx vx gens scope pos) d tg iter ifs body (.ref it) (.ref p) X.env) (hc : X.calm = true) (hxe : ∀ e s, X.xe e s → False) (T : Turn X.prog X.w X.K tg J fp it tn) (hg : PG X tg g) (ht : PTs X ifs tc) (hb : PB X p body tb)
    (I : Inv X pins σ H s) (st : tn 0 s.heap) (f2 : ∀ b ∈ fp, FpOk X pins H b) (h : LoopW J g tc tb σ H Q) (hR : ∀ s' σ' H', Inv X pins σ' H' s' → Q σ' H' → R (.ok .next) s') :
    codeAny (model X.prog X.w) X.A (.compLoop (.DictComp kx vx gens scope pos) d (.ref it) (.ref p) X.env) R s := by
  obtain ⟨W, ⟨m0, w0⟩, turn⟩ := h
  have stat : ∀ {H' : Hp}, (∀ b ∈ fp, H' b = none) → ∀ b ∈ fp, FpOk X pins H' b := fun hn b hb => ⟨hn b hb, (f2 b hb).2⟩
  refine codeAny_loop rfl (fun n s' => ∃ i σ' H', Inv X pins σ' H' s' ∧ tn i s'.heap ∧ (∀ b ∈ fp, H' b = none) ∧ W i n σ' H') (fun n s' hI => ?_) m0 ⟨0, σ, H, I, st, fun b hb => (f2 b hb).1, w0⟩
  obtain ⟨i, σ', H', J', st', fr', w'⟩ := hI
  show wpAny _ X.A ((compTurn (.DictComp kx vx gens scope pos) d (.ref it) (.ref p) X.env).onRaise (fun x => do noteFrame x X.env; theTreesLotGoes x)) _ _ s'
  refine wpAny_noted ?_
  rw [hturn]
  unfold turnOf
  rcases turn i n σ' H' w' with ⟨stop, q⟩ | ⟨go, step⟩
  · refine wpAny_bind (wpAny_standAt (wpAny_bind (wpAny_mono (T.done X rfl rfl rfl hc i pins s' σ' H' X.xe J' (stat fr') st' stop) (fun r s4 h4 => ?_) fun _ _ x => (hxe _ _ x).elim)))
    obtain ⟨hr, I4⟩ := h4
    subst hr
    exact wpAny_pure (hR s4 σ' H' I4 q)
  · refine wpAny_bind (wpAny_standAt (wpAny_bind (wpAny_mono (T.item X rfl rfl rfl hc i pins s' σ' H' X.xe J' (stat fr') st' go) (fun r s4 h4 => ?_) fun _ _ x => (hxe _ _ x).elim)))
    obtain ⟨u, hr, h4⟩ := h4
    subst hr
    refine wpAny_bind (wpAny_mono h4 (fun _ s5 h5 => ?_) fun _ _ x => (hxe _ _ x).elim)
    obtain ⟨x, H5, I5, r5, y5, st5, fr5⟩ := h5
    have I5' := I5.pinned (stat fr5) (T.obj _ _ st5)
    refine wpAny_bind (wpAny_mono (hg _ s5 σ' H5 x u _ I5' r5 (step x H5 y5)) (fun _ s6 h6 => ?_) fun _ _ x => (hxe _ _ x).elim)
    obtain ⟨σ6, H6, I6, q6⟩ := h6
    have again : ∀ {σ7 : St} {H7 : Hp} {s7 : Shared}, Inv X (pins ++ pinsAt fp s5.heap) σ7 H7 s7 → (∃ m', m' < n ∧ W (i + 1) m' σ7 H7) →
        ∃ m, m < n ∧ ∃ i σ' H', Inv X pins σ' H' s7 ∧ tn i s7.heap ∧ (∀ b ∈ fp, H' b = none) ∧ W i m σ' H' := fun {σ7 H7 s7} I7 n7 => by
      obtain ⟨m', hm, w7⟩ := n7
      refine ⟨m', hm, i + 1, σ7, H7, I7.unpinned, T.keep _ _ _ st5 fun b hb o e => (I7.pin (b, o) (List.mem_append_right _ (List.mem_append_right _ (mem_pinsAt hb e)))).1, fun b hb => ?_, w7⟩
      obtain ⟨o, e, d⟩ := T.obj _ _ st5 b hb
      exact (I7.pin (b, o) (List.mem_append_right _ (List.mem_append_right _ (mem_pinsAt hb e)))).2.1
    refine wpAny_bind (wpAny_mono (ht _ s6 σ6 H6 _ I6 q6) (fun ok s7 h7 => ?_) fun _ _ x => (hxe _ _ x).elim)
    obtain ⟨H7, I7, q7⟩ := h7
    cases ok with
    | false =>
      rw [if_neg Bool.false_ne_true] at q7
      exact wpAny_pure ⟨rfl, again I7 q7⟩
    | true =>
      rw [if_pos rfl] at q7
      refine wpAny_bind (wpAny_mono (hb _ s7 σ6 H7 _ I7 q7) (fun y s8 h8 => ?_) fun _ _ x => (hxe _ _ x).elim)
      obtain ⟨σ8, H8, I8, w8⟩ := h8
      exact wpAny_pure ⟨rfl, again I8 w8⟩
end L2

set_option Elab.async false
set_option linter.all false
set_option maxRecDepth 100000
set_option maxHeartbeats 1000000
namespace L2
open PySem PySem.Spec PyProof.Rows
/-! ### for k, v in d.items(): the dict is frozen from then on -/
theorem entry_itemiter_iter : entryFor table "dict_itemiterator.__iter__" = some Builtin.«dict_keyiterator.__iter__» :=
  entryFor_alias (id' := "dict_keyiterator.__iter__") (by kernel_rfl) rfl (by decide +kernel) (by kernel_rfl)
end L2

set_option Elab.async false
set_option linter.all false
set_option maxRecDepth 100000
set_option maxHeartbeats 4000000
/-! ### isinstance of an own exception -/
namespace L2
open PySem PySem.Builtin PySem.Builtin.ObjectAttr PySem.Spec PyProof.Rows
section
variable {K : PySem.W.Frag} {e C : Addr} {h : Heap} {M : Model}
end
section
variable {prog : Program} {w : World} {A : Around} {E : Value → Shared → Prop} {s : Shared} {K : PySem.W.Frag} {e C : Addr}
end
end L2

set_option Elab.async false
set_option linter.all false
set_option maxRecDepth 100000
set_option maxHeartbeats 4000000
/-! ### own exceptions -/
namespace L2
open PySem PySem.Spec PyProof.Rows
section
variable {X : Cx} {pins : List (Addr × Obj)} {σ : St} {H H' : Hp} {s s' : Shared}
end
/-! ### raise -/
section
variable {P : Program} {w : World} {K : PySem.W.Frag} {mg : Str → Option Value} {base : Heap} {N : List Str} {qual : Str} {scope : Scope} {f : Addr} {cd : Value} {A : Around} {outer : List Env} {s : Shared} {H : Hp} {E : XK}
end
section
variable {P : Program} {w : World} {K : PySem.W.Frag} {mg : Str → Option Value} {base : Heap} {x : Str} {ps : List Str} {k : Nat} {sp : Sp}
end
end L2

set_option Elab.async false
set_option linter.all false
set_option maxRecDepth 100000
set_option maxHeartbeats 4000000
/-! ### try .. except -/
namespace L2
open PySem PySem.Spec PyProof.Rows
section
variable {P : Program} {w : World} {outer : List Env} {H H' : Hp} {s s' : Shared} {x C : Addr} {B : Heap} {a0 : Value}
end
section
variable {X : Cx} {pins : List (Addr × Obj)} {σ : St} {H H' : Hp} {s s' : Shared} {x C : Addr} {B : Heap} {a0 : Value}
end
/-! ### what may raise: an expression, a statement -/
section
variable {X : Cx}
end
/-! ### the statement -/
end L2

set_option Elab.async false
set_option linter.all false
set_option maxRecDepth 100000
set_option maxHeartbeats 4000000
/-! ### lambdas -/
namespace L2
open PySem PySem.Spec PyProof.Rows
section
variable {cs : List Addr} {H H' H2 : Hp} {h h' : Heap} {b : Addr}
variable {P : Program} {w : World} {fs : List Addr}
end
end L2

set_option Elab.async false
set_option linter.all false
set_option maxRecDepth 100000
set_option maxHeartbeats 4000000
/-! ### a lambda without arguments, handed to a def that calls it -/
namespace L2
open PySem PySem.Spec PyProof.Rows
section
variable {P : Program} {w : World} {K : PySem.W.Frag} {mg : Str → Option Value} {base : Heap} {N : List Str} {qual : Str} {scope : Scope} {cl : List (Str × Addr)} {f c' : Addr} {cd : Value}
end
/-! ### the lambda is made -/
section
variable {X : Cx} {pins : List (Addr × Obj)} {σ : St} {H : Hp} {s : Shared} {c P : Addr} {q : Str} {params : Arguments} {body : Expr} {scope : Scope} {pos : Pos} {cl : List (Str × Addr)}
end
end L2

set_option Elab.async false
set_option linter.all false
set_option maxRecDepth 100000
set_option maxHeartbeats 4000000
namespace L2
open PySem PySem.Spec PyProof.Rows
/-! ### the closure is called, within a try -/
/-! ### isinstance(x, c): c by its name -/
end L2

set_option Elab.async false
set_option linter.all false
set_option maxRecDepth 100000
set_option maxHeartbeats 4000000
/-! ### the head of a law one of whose defs makes lambdas -/
namespace L2
open PySem PySem.Spec PyProof.Rows
end L2
namespace L2
end L2

set_option Elab.async false
set_option linter.all false
set_option maxRecDepth 100000
set_option maxHeartbeats 4000000
namespace My
open PySem L2 MA
end My
namespace L2
end L2
namespace My
open PySem L2 MA
end My
namespace My
open PySem L2 MA
end My

set_option Elab.async false
set_option linter.all false
set_option maxRecDepth 100000
set_option maxHeartbeats 4000000
namespace L2
open PySem PySem.Spec PyProof.Rows
section
variable {X : Cx}
end
end L2
namespace My
open PySem L2 MA
theorem same_updN {H H' : Hp} {l : Addr} (hl : H l = none) (s : Same H H') (o : HO) : Same H (upd H' l o) := fun b u q => by rw [upd_ne (ne_of_none q hl)]; exact s _ _ q
theorem ixN_nat {n j : Nat} (h : j < n) : ixN n ((j : Nat) : Int) = some j := by
  unfold ixN
  rw [if_pos (by omega), if_pos (by omega)]
  simp
theorem atI_iv {ns : List Int} {j : Nat} {x : Int} (h : ns[j]? = some x) : atI (iv ns) ((j : Nat) : Int) = some (.int x) := atI_nat (by rw [List.getElem?_map, h]; rfl)
theorem iv_set (ns : List Int) (j : Nat) (y : Int) : (iv ns).set j (.int y) = iv (ns.set j y) := by show (ns.map V.int).set j (.int y) = (ns.set j y).map V.int; rw [List.map_set]
end My
namespace My
open PySem L2 MA
end My

set_option Elab.async false
set_option linter.all false
set_option maxRecDepth 100000
set_option maxHeartbeats 4000000
namespace L2
open PySem PySem.Spec PyProof.Rows
end L2
namespace My
open PySem L2 MA
end My

set_option Elab.async false
set_option linter.all false
set_option maxRecDepth 100000
set_option maxHeartbeats 4000000
namespace L2
open PySem PySem.Spec PyProof.Rows
section
variable {prog : Program} {w : World} {A : Around} {E : Value → Shared → Prop} {s : Shared}
end
end L2

set_option Elab.async false
set_option linter.all false
set_option maxRecDepth 100000
set_option maxHeartbeats 4000000
namespace L2
open PySem PySem.Spec PyProof.Rows
section
variable {prog : Program} {w : World} {A : Around} {E : Value → Shared → Prop} {s : Shared}
end
end L2

set_option Elab.async false
set_option linter.all false
set_option maxRecDepth 100000
set_option maxHeartbeats 4000000
namespace L2
open PySem PySem.Spec PyProof.Rows
end L2

set_option Elab.async false
set_option linter.all false
set_option maxRecDepth 100000
set_option maxHeartbeats 4000000
namespace L2
open PySem PySem.Spec PyProof.Rows
section
variable {prog : Program} {w : World} {A : Around} {E : Value → Shared → Prop} {s : Shared}
end
end L2

set_option Elab.async false
set_option linter.all false
set_option maxRecDepth 100000
set_option maxHeartbeats 4000000
namespace L2
open PySem PySem.Spec PyProof.Rows
section
variable {prog : Program} {w : World} {A : Around} {E : Value → Shared → Prop} {s : Shared}
end
end L2

set_option Elab.async false
set_option linter.all false
set_option maxRecDepth 100000
set_option maxHeartbeats 4000000
namespace L2
open PySem PySem.Spec PyProof.Rows
end L2

set_option Elab.async false
set_option linter.all false
set_option maxRecDepth 100000
set_option maxHeartbeats 4000000
namespace L2
open PySem PySem.Spec PyProof.Rows
end L2

set_option Elab.async false
set_option linter.all false
set_option maxRecDepth 100000
set_option maxHeartbeats 4000000
namespace L2
open PySem PySem.Spec PyProof.Rows MA
section
variable {X : Cx}
end
end L2

set_option Elab.async false
set_option linter.all false
set_option maxRecDepth 100000
set_option maxHeartbeats 4000000
namespace My
open PySem L2 MA
end My

set_option Elab.async false
set_option linter.all false
set_option maxRecDepth 100000
set_option maxHeartbeats 4000000
namespace L2
open PySem PySem.Spec PyProof.Rows MA SeqAt
section
variable {X : Cx}
end
end L2

set_option Elab.async false
set_option linter.all false
set_option maxRecDepth 100000
set_option maxHeartbeats 4000000
namespace My
open PySem L2 MA
end My

set_option Elab.async false
set_option linter.all false
set_option maxRecDepth 100000
set_option maxHeartbeats 4000000
namespace My
open PySem L2 MA
end My

set_option Elab.async false
set_option linter.all false
set_option maxRecDepth 100000
set_option maxHeartbeats 4000000
namespace My
open PySem L2 MA
end My

set_option Elab.async false
set_option linter.all false
set_option maxRecDepth 100000
set_option maxHeartbeats 4000000
/-! ### min(xs, key=lambda x: ..), over a list or a tuple -/
namespace L2
open PySem PySem.Spec PyProof.Rows
section
variable {P : Program} {w : World} {K : PySem.W.Frag} {mg : Str → Option Value} {base : Heap} {N : List Str} {qual : Str} {scope : Scope} {cl : List (Str × Addr)} {f c' : Addr} {cd : Value}
end
section
variable {X : Cx} {pins : List (Addr × Obj)} {σ : St} {H : Hp} {b : Bool} {l I S f : Addr} {xs : List V} {kf : Nat → Int} {R : Result → Shared → Prop}
end
end L2

set_option Elab.async false
set_option linter.all false
set_option maxRecDepth 100000
set_option maxHeartbeats 4000000
namespace L2
open PySem PySem.Spec PyProof.Rows
end L2

set_option Elab.async false
set_option linter.all false
set_option maxRecDepth 100000
set_option maxHeartbeats 4000000
/-! ### == and != of data: ints, texts, tuples and lists of them, nested -/
namespace L2
open PySem PySem.Spec PyProof.Rows MA SeqAt
section
variable {X : Cx} {pins : List (Addr × Obj)} {σ : St} {H : Hp} {s : Shared}
end
end L2

set_option Elab.async false
set_option linter.all false
set_option maxRecDepth 100000
set_option maxHeartbeats 4000000
namespace PySem.SeqAt
open AutoSeq1 (wpAny_loadPart')
open MeetsSeq MeetsSeq2 MeetsSeq3 SeqRoads2
end PySem.SeqAt
namespace L2
open PySem PySem.Spec PyProof.Rows MA
section
variable {X : Cx}
end
end L2

set_option Elab.async false
set_option linter.all false
set_option maxRecDepth 100000
set_option maxHeartbeats 4000000
/-! ### methods and classes of the text -/
namespace L2
open PySem PySem.Spec PyProof.Rows
section
variable {X : Cx} {C : Addr} {x m : Str} {ps : List Str} {k : Nat} {sp : Sp} {o e : Expr} {es : List Expr} {t : TA} {to : TE} {p pos apos : Pos}
end
end L2

set_option Elab.async false
set_option linter.all false
set_option maxRecDepth 100000
set_option maxHeartbeats 4000000
namespace PyProof.Rows
open PySem
section
variable {prog : Program} {w : World} {A : Around} {E : Value → Shared → Prop} {s : Shared}
end
end PyProof.Rows
namespace L2
open PySem PySem.Spec PyProof.Rows MA
section
variable {X : Cx} {e : Expr} {t : TA} {p p3 p4 pos : Pos}
end
end L2

set_option Elab.async false
set_option linter.all false
set_option maxRecDepth 100000
set_option maxHeartbeats 4000000
/-! ### reversed(range(n)) -/
namespace L2
open PySem PySem.Spec PyProof.Rows
section
variable {prog : Program} {w : World} {A : Around} {E : Value → Shared → Prop} {s : Shared}
end
section
variable {X : Cx} {tg : Expr}
end
end L2

set_option Elab.async false
set_option linter.all false
set_option maxRecDepth 100000
set_option maxHeartbeats 4000000
/-! ### a def handed over, called in a try -/
namespace L2
open PySem PySem.Spec PyProof.Rows
end L2

set_option Elab.async false
set_option linter.all false
set_option maxRecDepth 100000
set_option maxHeartbeats 4000000
/-! ### a comprehension whose own names are seen by another one within it -/
namespace L2
open PySem PySem.Spec PyProof.Rows
end L2

set_option Elab.async false
set_option linter.all false
set_option maxRecDepth 100000
set_option maxHeartbeats 4000000
/-! ### rules that name their K: for use inside comprehensions -/
namespace L2
open PySem PySem.Spec PyProof.Rows
section
variable {X : Cx} {tg l : Expr} {tl : TE}
end
section
variable {X : Cx}
end
/-! walks of a clause, read with any goal -/
end L2

set_option Elab.async false
set_option linter.all false
set_option maxRecDepth 100000
set_option maxHeartbeats 4000000
/-! ### a law that names but one of the own errors (Unlike) -/
namespace My
open PySem L2 MA
end My

set_option Elab.async false
set_option linter.all false
set_option maxRecDepth 100000
set_option maxHeartbeats 4000000
/-! ### < of tuples -/
namespace PySem.SeqAt
open AutoSeq1 (wpAny_loadPart')
open MeetsSeq MeetsSeq2 MeetsSeq3
def RcLtAt (A : Around) (s : Shared) (y x : Value) (b : Bool) : Prop :=
  ∀ (prog : Program) (w : World) (E : Value → Shared → Prop) (Q : Value → Shared → Prop), Q (.bool b) s → wpAny (model prog w) A (richCompare .Lt y x) Q E s
theorem tuple_ltAt (l b : Addr) (items items2 : Array Value) (n n2 : Nat) (dd dd2 : Option Addr) (sl sl2 : Array (Option Value)) (e f res : Nat → Bool)
    (r1 : ∀ i, i < min items.size items2.size → e i = true → res i = res (i + 1)) (r2 : ∀ i, i < min items.size items2.size → e i = false → res i = f i) (r3 : ∀ i, min items.size items2.size ≤ i → res i = decide (items.size < items2.size)) :
    Meets (Builtin.«tuple.__lt__» ⟨[.ref l, .ref b], []⟩)
      (fun A R s => s.heap.get? l = some { cls := .type "tuple", dict := dd, data := .seq items n, slots := sl } ∧ s.heap.get? b = some { cls := .type "tuple", dict := dd2, data := .seq items2 n2, slots := sl2 } ∧
        (∀ j (h1 : j < items.size) (h2 : j < items2.size), EqAt A.in1 s items[j] items2[j] (e j)) ∧ (∀ j (h1 : j < items.size) (h2 : j < items2.size), e j = false → RcLtAt A.in1 s items[j] items2[j] (f j)) ∧
        R (.ok (.ret (.bool (res 0)))) s) :=
  .of_wp fun prog w A R s h => by
    obtain ⟨hp, g, d, tk, os⟩ := s; obtain ⟨hl, hb, he, hlt', h⟩ := h
    have f2 := AutoSeq1.sub_tuple_tuple
    have hZ : (items.toList.zip items2.toList).length = min items.size items2.size := by simp
    wp_walk using wpAny_loadPart' hl, wpAny_loadPart' hb, wpAny_forIn_list _ (fun rest b s' => b.1 = none ∧ s' = ⟨hp, g, d, tk, os⟩ ∧ ∃ i, rest = (items.toList.zip items2.toList).drop i ∧
      R (.ok (.ret (.bool (res i)))) ⟨hp, g, d, tk, os⟩) _
    case turn =>
      rintro ⟨y, x⟩ rest b s' ⟨hb', rfl, i, hz, hR⟩
      have hlt : i < (items.toList.zip items2.toList).length := by
        rcases Nat.lt_or_ge i (items.toList.zip items2.toList).length with h' | h'
        · exact h'
        · rw [List.drop_of_length_le h'] at hz; cases hz
      have hm : i < min items.size items2.size := hZ ▸ hlt
      have h1 : i < items.size := Nat.lt_of_lt_of_le hm (Nat.min_le_left _ _)
      have h2 : i < items2.size := Nat.lt_of_lt_of_le hm (Nat.min_le_right _ _)
      rw [List.drop_eq_getElem_cons hlt] at hz
      injection hz with hyx hrest
      have hy : y = items[i] := by have := congrArg Prod.fst hyx; simpa using this
      have hx : x = items2[i] := by have := congrArg Prod.snd hyx; simpa using this
      subst hy hx
      refine wpAny_bind (he i h1 h2 prog w _ _ ?_)
      cases hy : e i with
      | true =>
        rw [r1 i hm hy] at hR
        wp_walk
        exact ⟨rfl, rfl, i + 1, hrest, hR⟩
      | false =>
        rw [r2 i hm hy] at hR
        have hc := hlt' i h1 h2 hy
        simp only [Bool.not_false, if_true]
        refine wpAny_bind (wpAny_rule (wpAny_bind (hc prog w _ _ (wpAny_bind (wpAny_pure (wpAny_pure ?_))))))
        exact wpAny_pure ⟨_, rfl, hR⟩
    case fin =>
      rintro ⟨b1, b2⟩ s' ⟨hb', rfl, i, hz, hR⟩
      simp only at hb'
      subst hb'
      have hge : min items.size items2.size ≤ i := by
        rcases Nat.lt_or_ge i (items.toList.zip items2.toList).length with h' | h'
        · rw [List.drop_eq_getElem_cons h'] at hz; cases hz
        · exact hZ ▸ h'
      rw [r3 i hge] at hR
      wp_walk
      exact ⟨_, rfl, by simpa [Builtin.Tuple.tupleCompareSizes] using hR⟩
    case h =>
      exact ⟨rfl, rfl, 0, rfl, h⟩
section
variable {A : Around} {s : Shared}
theorem RcLtAt.tuples {l b : Addr} {items items2 : Array Value} {e f res : Nat → Bool} (hl : s.heap.IsTuple l items) (hb : s.heap.IsTuple b items2) (hu : A.units < cLine)
    (r1 : ∀ i, i < min items.size items2.size → e i = true → res i = res (i + 1)) (r2 : ∀ i, i < min items.size items2.size → e i = false → res i = f i) (r3 : ∀ i, min items.size items2.size ≤ i → res i = decide (items.size < items2.size))
    (he : ∀ j (h1 : j < items.size) (h2 : j < items2.size), EqAt A.in1 s items[j] items2[j] (e j)) (hf : ∀ j (h1 : j < items.size) (h2 : j < items2.size), e j = false → RcLtAt A.in1 s items[j] items2[j] (f j)) : RcLtAt A s (.ref l) (.ref b) (res 0) := fun prog w E Q h => by
  obtain ⟨⟨cls, dd, data, sl⟩, ho, hc, n, hd⟩ := id hl
  obtain ⟨⟨cls2, dd2, data2, sl2⟩, ho2, hc2, n2, hd2⟩ := id hb
  simp only at hc hd hc2 hd2
  subst hc hd hc2 hd2
  exact richCompare_meets_room (op := .Lt) ⟨_, ho, rfl⟩ ⟨_, ho2, rfl⟩ F.slot_tuple_lt F.entry_tuple_lt (F.args_tuple_lt_2 _ _) (tuple_ltAt l b items items2 n n2 dd dd2 sl sl2 e f res r1 r2 r3)
    ⟨ho, ho2, he, hf, show Value.bool (res 0) ≠ Value.notImplemented ∧ Q (.bool (res 0)) s from ⟨(fun x => nomatch x), h⟩⟩ hu
end
end PySem.SeqAt

set_option Elab.async false
set_option linter.all false
set_option maxRecDepth 100000
set_option maxHeartbeats 4000000
/-! ### sorting by comparisons that leave all as it is: the tree of the questions, walked by an order -/
namespace Srt
open PySem PySem.W PyProof.Rows
/-- what a walk of the tree asks and tells, by the answers c -/
def Path {α : Type} (V : Nat → Nat → Prop) (c : Nat → Nat → Bool) (G : α → Prop) : KasT α → Prop
  | .ret a => G a
  | .ask i j k => V i j ∧ Path V c G (k (c i j))
section
variable {α β : Type} {V : Nat → Nat → Prop} {c : Nat → Nat → Bool}
theorem Path.bind {G : β → Prop} {f : α → KasT β} : ∀ {t : KasT α}, Path V c (fun a => Path V c G (f a)) t → Path V c G (t.bind f)
  | .ret _, p => p
  | .ask _ _ _, ⟨v, p⟩ => ⟨v, Path.bind p⟩
theorem Path.wp {G : α → Prop} {cmp : Nat → Nat → (Bool → Shared → Prop) → Shared → Prop} {Q : α → Shared → Prop} {s : Shared} (hc : ∀ i j C, V i j → C (c i j) s → cmp i j C s) (hq : ∀ a, G a → Q a s) :
    ∀ {t : KasT α}, Path V c G t → t.kasWp cmp Q s
  | .ret _, p => hq _ p
  | .ask i j k, ⟨v, p⟩ => hc i j _ v (Path.wp hc hq p)
end
/-- an order, by its "less" -/
structure Ord (c : Nat → Nat → Bool) : Prop where
  asym : ∀ i j, c i j = true → c j i = false
  tr : ∀ i j k, c j i = false → c k j = false → c k i = false
abbrev at' (p : Array Nat) (i : Nat) : Nat := p.getD i 0
def Up (c : Nat → Nat → Bool) (p : Array Nat) (m : Nat) : Prop := ∀ i j, i ≤ j → j < m → c (at' p j) (at' p i) = false
def Dn (c : Nat → Nat → Bool) (p : Array Nat) (m : Nat) : Prop := ∀ i j, i ≤ j → j < m → c (at' p i) (at' p j) = false
theorem at_of {p q : Array Nat} {i j : Nat} (h : p[i]? = q[j]?) : at' p i = at' q j := by
  unfold at'
  rw [Array.getD_eq_getD_getElem?, Array.getD_eq_getD_getElem?, h]
theorem at_rev {p : Array Nat} {i j : Nat} (hj : j ≤ p.size) (k : Nat) : at' (kas_rev p i j) k = if i ≤ k ∧ k < j then at' p (i + j - 1 - k) else at' p k := by
  have h := getElem?_mirror_all (i := i) hj k
  split at h
  · rename_i q; rw [if_pos q]; exact at_of h
  · rename_i q; rw [if_neg q]; exact at_of h
theorem at_bub {p : Array Nat} {k l : Nat} (hk : k < p.size) (hl : l ≤ k) (i : Nat) : at' (bubble p k (k - l)) i = if i = l then at' p k else if l < i ∧ i ≤ k then at' p (i - 1) else at' p i := by
  have h := getElem?_bubble hk (k - l) (by omega) i
  rw [show k - (k - l) = l by omega] at h
  split at h
  · rename_i q; rw [if_pos q]; exact at_of h
  · rename_i q; rw [if_neg q]
    split at h
    · rename_i q; rw [if_pos q]; exact at_of h
    · rename_i q; rw [if_neg q]; exact at_of h
/-- the places are those of n things -/
def Of (n : Nat) (p : Array Nat) : Prop := p.Perm (List.toArray (List.range n))
theorem Of.size {n : Nat} {p : Array Nat} (h : Of n p) : p.size = n := by have := h.size_eq; simpa using this
theorem Of.lt {n : Nat} {p : Array Nat} (h : Of n p) {i : Nat} (hi : i < n) : at' p i < n := by
  have hs := h.size
  have e : at' p i = p[i]'(by omega) := by unfold at'; simp [hs, hi]
  have hm : p[i]'(by omega) ∈ (List.range n) := by
    have := (Array.perm_iff_toList_perm.mp h).mem_iff (a := p[i]'(by omega))
    exact this.mp (by simp)
  rw [e]; exact List.mem_range.mp hm
theorem Of.rev {n : Nat} {p : Array Nat} (h : Of n p) (i j : Nat) : Of n (kas_rev p i j) := (mirror_perm p i j _).trans h
theorem Of.bub {n : Nat} {p : Array Nat} (h : Of n p) (i j : Nat) : Of n (bubble p i j) := (bubble_perm p i j).trans h
abbrev In (n : Nat) (i j : Nat) : Prop := i < n ∧ j < n ∧ i ≠ j
theorem Of.inn {n : Nat} {p : Array Nat} (h : Of n p) {i j : Nat} (hi : i < n) (hj : j < n) (hne : i ≠ j) : In n (at' p i) (at' p j) := by
  refine ⟨h.lt hi, h.lt hj, fun e => hne ?_⟩
  have hs := h.size
  have nd : p.toList.Nodup := (Array.perm_iff_toList_perm.mp h).nodup_iff.mpr (by simpa using List.nodup_range)
  have e1 : at' p i = p.toList[i]'(by simp; omega) := by unfold at'; simp [hs, hi]
  have e2 : at' p j = p.toList[j]'(by simp; omega) := by unfold at'; simp [hs, hj]
  rw [e1, e2] at e
  have pw := List.pairwise_iff_getElem.mp nd
  rcases Nat.lt_trichotomy i j with x | x | x
  · exact absurd e (pw i j (by simp; omega) (by simp; omega) x)
  · exact x
  · exact absurd e.symm (pw j i (by simp; omega) (by simp; omega) x)
section
variable {c : Nat → Nat → Bool} (O : Ord c) {n : Nat}
include O
theorem Ord.irr (i : Nat) : c i i = false := by
  cases h : c i i with
  | false => rfl
  | true => exact (O.asym i i h).symm.trans h ▸ rfl
theorem up_snoc {p : Array Nat} {m : Nat} (h : Up c p m) (h1 : 1 ≤ m) (e : c (at' p m) (at' p (m - 1)) = false) : Up c p (m + 1) := by
  intro i j hij hj
  rcases Nat.lt_or_ge j m with q | q
  · exact h i j hij q
  · have : j = m := by omega
    subst this
    rcases Nat.lt_or_ge i j with r | r
    · exact O.tr _ _ _ (h i (j - 1) (by omega) (by omega)) e
    · have : i = j := by omega
      subst this; exact O.irr _
theorem asc_path {p : Array Nat} (hp : Of n p) {G : Nat → Prop} : ∀ (f m : Nat), 1 ≤ m → m + f ≤ n → Up c p m → (∀ r, m ≤ r → r ≤ m + f → Up c p r → (r < m + f → c (at' p r) (at' p (r - 1)) = true) → G r) → Path (In n) c G (kas_asc p f m)
  | 0, m, _, _, h, g => g m (Nat.le_refl _) (Nat.le_refl _) h (fun q => absurd q (Nat.lt_irrefl _))
  | f + 1, m, h1, hn, h, g => by
    refine ⟨hp.inn (by omega) (by omega) (by omega), ?_⟩
    cases e : c (p.getD m 0) (p.getD (m - 1) 0) with
    | true => exact g m (Nat.le_refl _) (by omega) h (fun _ => e)
    | false => exact asc_path hp f (m + 1) (by omega) (by omega) (up_snoc O h h1 e) fun r a b u v => g r (by omega) (by omega) u (fun q => v (by omega))
/-- the last q + 1 of the first m are alike -/
def Eqs (c : Nat → Nat → Bool) (p : Array Nat) (m q : Nat) : Prop := ∀ i j, m ≤ i + (q + 1) → m ≤ j + (q + 1) → i < m → j < m → c (at' p i) (at' p j) = false
omit O in
theorem dn_rev {p : Array Nat} {m q : Nat} (hm : m ≤ p.size) (d : Dn c p m) (e : Eqs c p m q) (hq : q + 1 ≤ m) : Dn c (kas_rev p (m - (q + 1)) m) m := by
  intro i j hij hj
  rw [at_rev hm, at_rev hm]
  by_cases a : m - (q + 1) ≤ i ∧ i < m <;> by_cases b : m - (q + 1) ≤ j ∧ j < m
  · rw [if_pos a, if_pos b]; exact e _ _ (by omega) (by omega) (by omega) (by omega)
  · exfalso; omega
  · rw [if_neg a, if_pos b]; exact d _ _ (by omega) (by omega)
  · rw [if_neg a, if_neg b]; exact d _ _ (by omega) (by omega)
theorem dn_snoc {p : Array Nat} {m : Nat} (h : Dn c p m) (h1 : 1 ≤ m) (e : c (at' p (m - 1)) (at' p m) = false) : Dn c p (m + 1) := by
  intro i j hij hj
  rcases Nat.lt_or_ge j m with q | q
  · exact h i j hij q
  · have : j = m := by omega
    subst this
    rcases Nat.lt_or_ge i j with r | r
    · exact O.tr _ _ _ e (h i (j - 1) (by omega) (by omega))
    · have : i = j := by omega
      subst this; exact O.irr _
theorem desc_path {G : Array Nat × Nat × Nat → Prop} : ∀ (f : Nat) (p : Array Nat) (m q : Nat), Of n p → 1 ≤ m → q + 1 ≤ m → m + f ≤ n → Dn c p m → Eqs c p m q → (∀ p' r q', Of n p' → 1 ≤ r → q' + 1 ≤ r → r ≤ n → Dn c p' r → Eqs c p' r q' → G (p', r, q')) →
    Path (In n) c G (kas_desc f p m q)
  | 0, p, m, q, hp, h1, hq, hn, d, e, g => g p m q hp h1 hq (by omega) d e
  | f + 1, p, m, q, hp, h1, hq, hn, d, e, g => by
    refine ⟨hp.inn (by omega) (by omega) (by omega), ?_⟩
    have hs := hp.size
    cases e1 : c (p.getD m 0) (p.getD (m - 1) 0) with
    | true =>
      have one : ∀ {p' : Array Nat} {m : Nat}, Eqs c p' (m + 1) 0 := fun {p' m} i j a b x y => by
        have : i = j := by omega
        subst this; exact O.irr _
      show Path (In n) c G (if q > 0 then _ else _)
      by_cases hq0 : q > 0
      · rw [if_pos hq0]
        have hd := dn_rev (hs ▸ (by omega : m ≤ n)) d e hq
        refine desc_path f _ (m + 1) 0 (hp.rev _ _) (by omega) (by omega) (by omega) (dn_snoc O hd h1 ?_) one g
        rw [at_rev (by omega), at_rev (by omega), if_pos (by omega), if_neg (by omega)]
        have a := e (m - (q + 1) + m - 1 - (m - 1)) (m - 1) (by omega) (by omega) (by omega) (by omega)
        exact O.tr _ _ _ (O.asym _ _ e1) a
      · rw [if_neg hq0]
        exact desc_path f p (m + 1) 0 hp (by omega) (by omega) (by omega) (dn_snoc O d h1 (O.asym _ _ e1)) one g
    | false =>
      show Path (In n) c G (.ask _ _ _)
      refine ⟨hp.inn (by omega) (by omega) (by omega), ?_⟩
      cases e2 : c (p.getD (m - 1) 0) (p.getD m 0) with
      | true => exact g p m q hp h1 hq (by omega) d e
      | false =>
        refine desc_path f p (m + 1) (q + 1) hp (by omega) (by omega) (by omega) (dn_snoc O d h1 e2) ?_ g
        intro i j a b x y
        have alike : ∀ k, m ≤ k + (q + 1) → k < m → c (at' p k) (at' p m) = false ∧ c (at' p m) (at' p k) = false := fun k u v =>
          ⟨O.tr _ _ _ e2 (e k (m - 1) u (by omega) v (by omega)), O.tr _ _ _ (e (m - 1) k (by omega) u (by omega) v) e1⟩
        rcases Nat.lt_or_ge i m with u | u <;> rcases Nat.lt_or_ge j m with v | v
        · exact e i j (by omega) (by omega) u v
        · have : j = m := by omega
          subst this; exact (alike i (by omega) u).1
        · have : i = m := by omega
          subst this; exact (alike j (by omega) v).2
        · have : i = j := by omega
          subst this; exact O.irr _
omit O in
theorem up_of_dn {p : Array Nat} {m : Nat} (hm : m ≤ p.size) (d : Dn c p m) : Up c (kas_rev p 0 m) m := by
  intro i j hij hj
  rw [at_rev hm, at_rev hm, if_pos (by omega), if_pos (by omega)]
  exact d _ _ (by omega) (by omega)
theorem tail3_path {p : Array Nat} (hp : Of n p) {m : Nat} (h1 : 1 ≤ m) (hm : m ≤ n) (d : Dn c p m) {G : Nat × Array Nat → Prop} (g : ∀ r p', Of n p' → r ≤ n → Up c p' r → G (r, p')) : Path (In n) c G (kas_tail3 m n p) := by
  have hs := hp.size
  exact Path.bind (asc_path O (hp.rev 0 m) _ m h1 (by omega) (up_of_dn (by omega) d) fun r a b u _ => g r _ (hp.rev 0 m) (by omega) u)
theorem descPart_path {p : Array Nat} (hp : Of n p) {m : Nat} (h1 : 1 ≤ m) (hm : m + 1 ≤ n) (d : Dn c p m) (e : c (at' p (m - 1)) (at' p m) = false) {G : Nat × Array Nat → Prop} (g : ∀ r p', Of n p' → r ≤ n → Up c p' r → G (r, p')) :
    Path (In n) c G (kas_descPart m n p) := by
  refine Path.bind (desc_path O _ p (m + 1) 0 hp (by omega) (by omega) (by omega) (dn_snoc O d h1 e) (fun i j a b x y => ?_) fun p' r q' hp' h1' hq' hr' d' e' => ?_)
  · have : i = j := by omega
    subst this; exact O.irr _
  · have hs := hp'.size
    show Path (In n) c G (if q' > 0 then _ else _)
    by_cases hq0 : q' > 0
    · rw [if_pos hq0]; exact tail3_path O (hp'.rev _ _) h1' hr' (dn_rev (by omega) d' e' hq') g
    · rw [if_neg hq0]; exact tail3_path O hp' h1' hr' d' g
theorem count_path {p : Array Nat} (hp : Of n p) (hn : 2 ≤ n) {G : Nat × Array Nat → Prop} (g : ∀ r p', Of n p' → r ≤ n → Up c p' r → G (r, p')) : Path (In n) c G (kas_count n p) := by
  have hs := hp.size
  have one : Up c p 1 := fun i j a b => by
    have : i = j := by omega
    subst this; exact O.irr _
  refine Path.bind (asc_path O hp (n - 1) 1 (Nat.le_refl _) (by omega) one fun r a b u v => ?_)
  by_cases hr : (r == n) = true
  · rw [if_pos hr]; exact g r p hp (by omega) u
  · rw [if_neg hr]
    have hrn : r ≠ n := by intro z; subst z; simp at hr
    have vr := v (by omega)
    by_cases h1 : r > 1
    · rw [if_pos h1]
      refine ⟨hp.inn (by omega) (by omega) (by omega), ?_⟩
      cases e : c (p.getD 0 0) (p.getD (r - 1) 0) with
      | true => exact g r p hp (by omega) u
      | false =>
        have all : ∀ i j, i < r → j < r → c (at' p i) (at' p j) = false := fun i j x y =>
          O.tr (at' p j) (at' p 0) (at' p i) (O.tr (at' p j) (at' p (r - 1)) (at' p 0) (u j (r - 1) (by omega) (by omega)) e) (u 0 i (by omega) x)
        refine descPart_path O (hp.rev 0 r) (by omega) (by omega) (fun i j x y => ?_) ?_ g
        · rw [at_rev (by omega), at_rev (by omega), if_pos (by omega), if_pos (by omega)]
          exact all _ _ (by omega) (by omega)
        · rw [at_rev (by omega), at_rev (by omega), if_pos (by omega), if_neg (by omega)]
          exact O.tr _ _ _ (O.asym _ _ vr) (all _ _ (by omega) (by omega))
    · rw [if_neg h1]
      have : r = 1 := by omega
      subst this
      refine descPart_path O hp (by omega) (by omega) (fun i j x y => ?_) (O.asym _ _ vr) g
      have : i = j := by omega
      subst this; exact O.irr _
theorem place_path {p : Array Nat} (hp : Of n p) {k : Nat} (hk : k < n) (u : Up c p k) {G : Nat → Prop} : ∀ (f l r : Nat), r - l ≤ f → l ≤ r → r ≤ k → (∀ i, i < l → c (at' p k) (at' p i) = false) → (∀ i, r ≤ i → i < k → c (at' p k) (at' p i) = true) →
    (∀ l, l ≤ k → (∀ i, i < l → c (at' p k) (at' p i) = false) → (∀ i, l ≤ i → i < k → c (at' p k) (at' p i) = true) → G l) → Path (In n) c G (kas_place p k f l r)
  | 0, l, r, hf, hlr, hr, lo, hi, g => by
    have : l = r := by omega
    subst this
    exact g l (by omega) lo hi
  | f + 1, l, r, hf, hlr, hr, lo, hi, g => by
    show Path (In n) c G (if l ≥ r then _ else _)
    by_cases h : l ≥ r
    · rw [if_pos h]
      have : l = r := by omega
      subst this
      exact g l (by omega) lo hi
    · rw [if_neg h]
      refine ⟨hp.inn (by omega) (by omega) (by omega), ?_⟩
      cases e : c (p.getD k 0) (p.getD ((l + r) / 2) 0) with
      | true =>
        refine place_path hp hk u f l ((l + r) / 2) (by omega) (by omega) (by omega) lo (fun i a b => ?_) g
        have q := u ((l + r) / 2) i a b
        cases z : c (at' p k) (at' p i) with
        | true => rfl
        | false => exact absurd (O.tr _ _ _ q z) (by rw [show c (at' p k) (at' p ((l + r) / 2)) = true from e]; simp)
      | false =>
        refine place_path hp hk u f ((l + r) / 2 + 1) r (by omega) (by omega) hr (fun i a => ?_) hi g
        rcases Nat.lt_or_ge i l with b | b
        · exact lo i b
        · exact O.tr _ _ _ (u i ((l + r) / 2) (by omega) (by omega)) e
theorem bin_path {G : Array Nat → Prop} : ∀ (f : Nat) (p : Array Nat) (k : Nat), Of n p → k + f = n → Up c p k → (∀ p', Of n p' → Up c p' n → G p') → Path (In n) c G (kas_bin f p k)
  | 0, p, k, hp, hk, u, g => by
    have : k = n := by omega
    subst this
    exact g p hp u
  | f + 1, p, k, hp, hk, u, g => by
    have hs := hp.size
    refine Path.bind (place_path O hp (by omega) u k 0 k (by omega) (by omega) (by omega) (fun i a => by omega) (fun i a b => by omega) fun l hl lo hi => ?_)
    refine bin_path f _ (k + 1) (hp.bub _ _) (by omega) (fun i j hij hj => ?_) g
    rw [at_bub (by omega) hl, at_bub (by omega) hl]
    by_cases a : i = l
    · rw [if_pos a]
      by_cases b : j = l
      · rw [if_pos b]; exact O.irr _
      · rw [if_neg b, if_pos (by omega)]
        exact O.asym _ _ (hi _ (by omega) (by omega))
    · rw [if_neg a]
      by_cases b : j = l
      · rw [if_pos b, if_neg (by omega)]
        exact lo _ (by omega)
      · rw [if_neg b]
        by_cases a' : l < i ∧ i ≤ k <;> by_cases b' : l < j ∧ j ≤ k
        · rw [if_pos a', if_pos b']; exact u _ _ (by omega) (by omega)
        · exfalso; omega
        · rw [if_neg a', if_pos b']; exact u _ _ (by omega) (by omega)
        · rw [if_neg a', if_neg b']; exact u _ _ (by omega) (by omega)
theorem sort_path (hn : 2 ≤ n) {G : Array Nat → Prop} (g : ∀ p, Of n p → Up c p n → G p) : Path (In n) c G (kas_sort n) := by
  refine Path.bind (count_path O (Array.Perm.refl _) hn fun r p' hp hr u => ?_)
  show Path (In n) c G (if r < n then _ else _)
  by_cases h : r < n
  · rw [if_pos h]
    have u' : Up c p' (max r 1) := by
      rcases Nat.eq_zero_or_pos r with z | z
      · subst z
        intro i j a b
        have : i = j := by omega
        subst this; exact O.irr _
      · rw [Nat.max_eq_left z]; exact u
    exact bin_path O _ p' _ hp (by omega) u' g
  · rw [if_neg h]
    have : r = n := by omega
    subst this; exact g p' hp u
end
end Srt

set_option Elab.async false
set_option linter.all false
set_option maxRecDepth 100000
set_option maxHeartbeats 4000000
namespace Srt
open PySem PySem.W PyProof.Rows
/-! ### list.sort, sorted: fewer than 64 things, any order whose questions change nothing -/
section
variable {prog : Program} {w : World} {A : Around} {E : Value → Shared → Prop} {s : Shared}
def Kept (a : Addr) (h h' : Heap) : Prop := ∀ b o, b ≠ a → h.get? b = some o → h'.get? b = some o
/-- the things vs can be asked: their kind κ, their order c -/
structure Asks (prog : Program) (w : World) (A : Around) (vs : List Value) (c : Nat → Nat → Bool) (κ : SortKind) (s : Shared) : Prop where
  kind : ∀ (E : Value → Shared → Prop) (Q : SortKind → Shared → Prop), Q κ s → wpAny (model prog w) A (keyKind' vs.toArray) Q E s
  less : ∀ i j, In vs.length i j → ∀ (Q : Bool → Shared → Prop), Q (c i j) s → wpAny (model prog w) A (keyLt' κ (vs.getD i Value.none) (vs.getD j Value.none)) Q (fun _ _ => False) s
abbrev outOf (vs : List Value) (p : Array Nat) : Array Value := List.toArray (p.toList.map fun i => vs.getD i Value.none)
theorem range_getD (vs : List Value) : ((List.range vs.length).map fun i => vs.getD i Value.none) = vs := by
  refine List.ext_getElem (by simp) fun i h1 h2 => ?_
  simp at h1
  simp [h1]
theorem list_sort_by {a : Addr} {vs : List Value} {n : Nat} {P : PySem.Fin → Shared → Prop} {c : Nat → Nat → Bool} (O : Ord c) {κ : SortKind} (at0 : s.heap.get? a = some (seqObj "list" vs.toArray n)) (few : vs.length < 64)
    (ak : 2 ≤ vs.length → ∀ h' : Heap, Kept a s.heap h' → Asks prog w A vs c κ { s with heap := h' })
    (fin : ∀ p : Array Nat, Of vs.length p → Up c p vs.length → P (.done (.ret .none)) { s with heap := sortedHeap s.heap a vs (outOf vs p) }) : wpAny (model prog w) A (Builtin.«list.sort» ⟨[.ref a], []⟩) P E s := by
  rw [list_sort_plain]
  have la : a < s.heap.objs.size := Heap.lt_size at0
  refine wpAny_bind (listItems_at at0 rfl (wpAny_bind (listUpdate_at at0 rfl ?_ (by rw [List.size_toArray, sizeLine_eq]; omega) (Nat.zero_le _))))
  obtain ⟨e1, at1⟩ : ∃ e1, (s.heap.update a (Obj.mapSeq fun _ => (#[] : Array Value))).get? a = some (seqObj "list" #[] e1) := ⟨_, get?_update_seq at0 fun _ => #[]⟩
  refine wpAny_bind (seqEpoch_at at1 rfl (wpAny_bind (wpAny_newTuple (wpAny_bind (wpAny_newList (wpAny_holding ?_))) (by rw [sizeLine_eq]; simp; omega))))
  have at2 : (((s.heap.update a (Obj.mapSeq fun _ => (#[] : Array Value))).push (seqObj "tuple" vs.toArray 0)).push (seqObj "list" #[] 0)).get? a = some (seqObj "list" #[] e1) := Heap.get?_push_of_some _ (Heap.get?_push_of_some _ at1)
  have kp : Kept a s.heap (((s.heap.update a (Obj.mapSeq fun _ => (#[] : Array Value))).push (seqObj "tuple" vs.toArray 0)).push (seqObj "list" #[] 0)) := fun b o nb e =>
    Heap.get?_push_of_some _ (Heap.get?_push_of_some _ ((Heap.get?_update_ne _ _ _ _ nb).trans e))
  show wpAny (model prog w) A _ P E { s with heap := ((s.heap.update a (Obj.mapSeq fun _ => (#[] : Array Value))).push (seqObj "tuple" vs.toArray 0)).push (seqObj "list" #[] 0) }
  dsimp only
  have zz : vs.toArray.size = vs.length := by simp
  by_cases few2 : vs.toArray.size < 2
  · rw [if_pos few2, if_pos few2]
    refine wpAny_bind (wpAny_pure ?_)
    rw [StateT.run_pure]
    refine wpAny_bind (wpAny_pure (wpAny_bind (seqEpoch_at at2 rfl (wpAny_bind (listUpdate_at at2 rfl ?_ (by simp) (by show (Array.map _ (vs.toArray.zip vs.toArray)).size ≤ _; simp; rw [sizeLine_eq]; omega))))))
    simp only [bne_self_eq_false, Bool.false_eq_true, if_false]
    have eo : outOf vs (List.toArray (List.range vs.length)) = Array.map (·.2) (vs.toArray.zip vs.toArray) := by
      apply Array.toList_inj.mp
      show (List.range vs.length).map _ = _
      rw [range_getD, Array.toList_map]
      simp only [Array.toList_zip]
      exact (List.map_snd_zip (Nat.le_refl _)).symm
    have := fin (List.toArray (List.range vs.length)) (Array.Perm.refl _) (fun i j x y => by
      have : i = j := by omega
      subst this; exact O.irr _)
    rw [eo] at this
    exact wpAny_pure this
  · rw [if_neg few2, if_neg few2]
    have K := ak (by omega) _ kp
    refine wpAny_bind (K.kind _ _ ?_)
    refine wpAny_bind (wpAny_mono (kat_run (vs := vs) (ks := vs) (Q := fun st' s' => s' = { s with heap := ((s.heap.update a (Obj.mapSeq fun _ => (#[] : Array Value))).push (seqObj "tuple" vs.toArray 0)).push (seqObj "list" #[] 0) } ∧ failedOf st' = none ∧ ∃ p, Of vs.length p ∧ Up c p vs.length ∧ (arrOf st').map (·.2) = outOf vs p)
      (G := fun p s' => s' = { s with heap := ((s.heap.update a (Obj.mapSeq fun _ => (#[] : Array Value))).push (seqObj "tuple" vs.toArray 0)).push (seqObj "list" #[] 0) } ∧ Of vs.length p ∧ Up c p vs.length) rfl (by omega) few (fun p st' s' _ har hf ⟨es, o1, o2⟩ => ⟨es, hf, p, o1, o2, kat_snds rfl har⟩) ?_) ?_ fun _ _ e => e)
    · exact Path.wp (fun i j C v hC => K.less i j v C hC) (fun p hp => ⟨rfl, hp⟩) (sort_path O (by omega) (G := fun p => Of vs.length p ∧ Up c p vs.length) fun p a b => ⟨a, b⟩)
    · rintro ⟨⟨⟩, st'⟩ s' ⟨rfl, hf, p, o1, o2, eo⟩
      dsimp only
      refine wpAny_bind (seqEpoch_at at2 rfl (wpAny_bind (listUpdate_at at2 rfl ?_ (by simp) (by rw [eo]; show (outOf vs p).size ≤ _; simp; rw [o1.size, sizeLine_eq]; omega))))
      rw [hf]
      simp only [bne_self_eq_false, Bool.false_eq_true, if_false]
      have := fin p o1 o2
      rw [← eo] at this
      exact wpAny_pure this
end
end Srt

set_option Elab.async false
set_option linter.all false
set_option maxRecDepth 100000
set_option maxHeartbeats 4000000
namespace Srt
open PySem PySem.W PyProof.Rows
section
variable {prog : Program} {w : World} {A : Around} {E : Value → Shared → Prop} {s : Shared}
/-- what sorted tells, once the things are gathered -/
def Told (prog : Program) (w : World) (A : Around) (Q : Value → Shared → Prop) (vs : List Value) (s1 : Shared) : Prop :=
  vs.length < 64 ∧ ∃ c κ, Ord c ∧ (2 ≤ vs.length → ∀ h' : Heap, (∀ b o, s1.heap.get? b = some o → h'.get? b = some o) → Asks prog w A vs c κ { s1 with heap := h' }) ∧
    ∀ p e (h' : Heap), Of vs.length p → Up c p vs.length → (∀ b o, s1.heap.get? b = some o → h'.get? b = some o) → h'.get? s1.heap.objs.size = some (seqObj "list" (outOf vs p) e) → Q (.ref s1.heap.objs.size) { s1 with heap := h' }
theorem sorted_by {x : Value} {Q : Value → Shared → Prop} (col : wpAny (model prog w) A.in1 (collect x) (Told prog w A.in1.in1 Q) E s) : wpAny (model prog w) A (call (.builtin "sorted") [x]) Q E s := by
  refine Calls.call_function_entry kind_sorted plain_sorted entry_sorted (args_sorted1 _) ?_
  unfold Builtin.«sorted»
  refine wpAny_bind (m := checkCount "sorted" 1 1 _) (wpAny_pure (wpAny_bind (wpAny_mono col (fun vs s1 told => ?_) fun _ _ e => e)))
  obtain ⟨few, c, κ, O, ak, fin⟩ := told
  refine wpAny_bind (wpAny_newList ?_ (by rw [sizeLine_eq]; omega))
  have at0 : (s1.heap.push (seqObj "list" vs.toArray 0)).get? s1.heap.objs.size = some (seqObj "list" vs.toArray 0) := Heap.get?_push_size _ rfl
  refine wpAny_bind (wpAny_holding (wpAny_call_entry slot_list_sort ⟨_, at0, rfl⟩ entry_list_sort (list_sort_by (s := { s1 with heap := s1.heap.push (seqObj "list" vs.toArray 0) }) O at0 few (fun h2 h' kp => ak h2 h' fun b o e => kp b o (Nat.ne_of_lt (Heap.lt_size e)) (Heap.get?_push_of_some _ e)) fun p o1 o2 => ⟨_, rfl, wpAny_pure ⟨_, rfl, ?_⟩⟩) (args_list_sort _)))
  obtain ⟨e, he⟩ := sortedHeap_at (out := outOf vs p) at0
  refine fin p e _ o1 o2 (fun b o q => ?_) he
  have lt := Heap.lt_size q
  rw [sortedHeap_old (Nat.ne_of_lt lt) (by show b < (s1.heap.push _).objs.size; rw [size_push']; exact Nat.lt_succ_of_lt lt)]
  exact Heap.get?_push_of_some _ q
end
end Srt

set_option Elab.async false
set_option linter.all false
set_option maxRecDepth 100000
set_option maxHeartbeats 4000000
namespace DI
open PySem PySem.W PyProof.Rows
/-- a dict by its entries -/
def DEnt (h : Heap) (d : Addr) (es : Array DictEntry) (ep : Nat) : Prop := ∃ o, h.get? d = some o ∧ o.ExactDict ∧ o.data = .dict es ep
theorem DEnt.ty {s : Shared} {d : Addr} {es : Array DictEntry} {ep : Nat} (x : DEnt s.heap d es ep) : s.TypeIs (.ref d) "dict" := let ⟨o, e, c, _⟩ := x; ⟨o, e, c.1⟩
theorem DEnt.at {h h' : Heap} {d : Addr} {es : Array DictEntry} {ep : Nat} (x : DEnt h d es ep) (k : ∀ o, h.get? d = some o → h'.get? d = some o) : DEnt h' d es ep := let ⟨o, e, c⟩ := x; ⟨o, k o e, c⟩
section
variable {prog : Program} {w : World} {A : Around} {E : Value → Shared → Prop} {s : Shared} {it d : Addr} {es : Array DictEntry} {i ep : Nat}
theorem key_next {Q : Option Value → Shared → Prop} (ki : s.heap.IsKeyIter it d i es.size ep) (de : DEnt s.heap d es ep) (li : i < es.size)
    (fin : ∀ h', h'.IsKeyIter it d (i + 1) es.size ep → Heap.SameBut it s.heap h' → Q (some es[i].key) { s with heap := h' }) : wpAny (model prog w) A (pyNext (.ref it)) Q E s := by
  obtain ⟨oi, gi, ci, fi⟩ := id ki
  obtain ⟨od, gd, xd, dd⟩ := de
  have ti := ki.typeIs
  unfold pyNext
  refine wpAny_bind (wpAny_attempt (wpAny_callSpecial?_slot (name := Str.ofString "__next__") ti F.slot_dict_keyiterator_next (wpAny_call_entry F.slot_dict_keyiterator_next ti F.entry_dict_keyiterator_next (wpAny_bind (wpAny_pure (wpAny_bind (wpAny_bind ?_)))) (F.args_dict_keyiterator_next_1 _))))
  refine wpAny_bind (wpAny_typeNameOfWhole_keyiter ti (wpAny_pure (wpAny_bind (wpAny_fieldsOf gi fi ?_))))
  simp only [show Builtin.Dict_items.ownsTuple "dict_keyiterator" = false by decide, Bool.false_eq_true, if_false]
  show wpAny _ _ (if (Value.ref d == Value.none) = true then _ else _) _ _ s
  rw [if_neg (show ¬ ((Value.ref d == Value.none) = true) from Bool.false_ne_true)]
  refine wpAny_bind (wpAny_pure (wpAny_bind (wpAny_dictEntries gd dd ?_)))
  rw [if_neg (by simp)]
  refine wpAny_bind (wpAny_pure (wpAny_bind (wpAny_dictEpoch gd dd ?_)))
  rw [if_neg (by simp)]
  refine wpAny_pure ?_
  simp only [show ¬ ((i : Int) < 0) from by omega, if_false, Int.toNat_natCast, Array.getElem?_eq_getElem li]
  refine wpAny_bind (wpAny_bind (wpAny_typeNameOfWhole_keyiter ti (wpAny_pure (wpAny_bind (wpAny_isOneOf_keyiter ti ?_)))))
  show wpAny _ _ (setField (.ref it) 1 (rawInt ((i : Int) + 1)) >>= _) _ _ s
  have nx : (s.heap.update it (Obj.mapFields (·.setIfInBounds 1 (rawInt ((i : Int) + 1))))).IsKeyIter it d (i + 1) es.size ep :=
    ⟨_, Heap.get?_update_self _ gi (Obj.isFreed_of_fields (Obj.data_mapFields fi _)), (Obj.cls_mapFields ..).trans ci, by rw [Obj.data_mapFields fi]; simp [rawInt]⟩
  have tn : Shared.TypeIs { s with heap := s.heap.update it (Obj.mapFields (·.setIfInBounds 1 (rawInt ((i : Int) + 1)))) } (.ref it) "dict_keyiterator" := Heap.IsKeyIter.typeIs (s := { s with heap := s.heap.update it (Obj.mapFields (·.setIfInBounds 1 (rawInt ((i : Int) + 1)))) }) nx
  refine wpAny_bind (wpAny_setField gi fi (by simp) (wpAny_bind (wpAny_holding (wpAny_bind (wpAny_isOneOf_keyiter tn ?_)))))
  show wpAny _ _ (pure es[i].key) _ _ _
  exact wpAny_pure (wpAny_pure ⟨_, rfl, wpAny_pure (fin _ nx (Heap.SameBut.update ..))⟩)
theorem key_end {Q : Option Value → Shared → Prop} (hh : A.handled = none) (ki : s.heap.IsKeyIter it d i es.size ep) (de : DEnt s.heap d es ep) (li : es.size ≤ i) (fin : ∀ h', Heap.ExtBut it s.heap h' → Q none { s with heap := h' }) :
    wpAny (model prog w) A (pyNext (.ref it)) Q E s := by
  obtain ⟨oi, gi, ci, fi⟩ := id ki
  obtain ⟨od, gd, xd, dd⟩ := de
  have ti := ki.typeIs
  unfold pyNext
  refine wpAny_bind (wpAny_attempt (wpAny_callSpecial?_slot (name := Str.ofString "__next__") ti F.slot_dict_keyiterator_next (wpAny_call_entry F.slot_dict_keyiterator_next ti F.entry_dict_keyiterator_next (wpAny_bind (wpAny_pure (wpAny_bind (wpAny_bind ?_)))) (F.args_dict_keyiterator_next_1 _))))
  refine wpAny_bind (wpAny_typeNameOfWhole_keyiter ti (wpAny_pure (wpAny_bind (wpAny_fieldsOf gi fi ?_))))
  simp only [show Builtin.Dict_items.ownsTuple "dict_keyiterator" = false by decide, Bool.false_eq_true, if_false]
  show wpAny _ _ (if (Value.ref d == Value.none) = true then _ else _) _ _ s
  rw [if_neg (show ¬ ((Value.ref d == Value.none) = true) from Bool.false_ne_true)]
  refine wpAny_bind (wpAny_pure (wpAny_bind (wpAny_dictEntries gd dd ?_)))
  rw [if_neg (by simp)]
  refine wpAny_bind (wpAny_pure (wpAny_bind (wpAny_dictEpoch gd dd ?_)))
  rw [if_neg (by simp)]
  refine wpAny_pure ?_
  simp only [show ¬ ((i : Int) < 0) from by omega, if_false, Int.toNat_natCast, Array.getElem?_eq_none li]
  refine wpAny_bind (wpAny_bind (wpAny_typeNameOfWhole_keyiter ti (wpAny_pure ?_)))
  show wpAny _ _ (setField (.ref it) 0 .none >>= _) _ _ s
  refine wpAny_bind (wpAny_setField gi fi (by simp) ?_)
  show wpAny _ _ (newExc (.type "StopIteration") [] >>= _) _ _ _
  refine wpAny_bind ?_
  simp only [newExc, newTuple]
  refine wpAny_bind (wpAny_newObj_type (wpAny_bind (m := firstArgMember _ _) (wpAny_of_eq (a := Value.none) (by first | rfl | (simp only [firstArgMember]; rfl)) (wpAny_newObj_type ?_ (by size_fits)))) (by size_fits))
  simp only [raiseNew]
  refine wpAny_bind (wpAny_handled ?_)
  rw [show A.in1.handled = none from hh]
  refine wpAny_bind (wpAny_pure (wpAny_throw ?_))
  refine wpAny_bind (wpAny_isInstance (T := "StopIteration") (b := true) ⟨_, Heap.get?_push_size _ rfl, rfl⟩ isSubtype_stop (wpAny_pure (fin _ ?_)))
  exact ((Heap.SameBut.update ..).extBut.push _).push _
/-- iter(d) -/
theorem key_iter {Q : Value → Shared → Prop} (hd : (d == sysModules) = false) (de : DEnt s.heap d es ep) (fin : Q (.ref s.heap.objs.size) { s with heap := s.heap.push { cls := .type "dict_keyiterator", data := .fields #[.ref d, .int 0 0, .int es.size 0, .int ep 0] } }) : wpAny (model prog w) A (pyIter (.ref d)) Q E s := by
  have td := de.ty
  obtain ⟨od, gd, xd, dd⟩ := id de
  refine wpAny_pyIter_slot td F.slot_dict_iter (wpAny_call_entry F.slot_dict_iter td F.entry_dict_iter ?_ (F.args_dict_iter_1 _))
  unfold Builtin.«dict.__iter__» Builtin.Dict.dictSlotNone
  refine wpAny_bind (wpAny_bind (wpAny_notOrdered_dict td ?_))
  show wpAny _ _ (pure (Value.ref d)) _ _ s
  refine wpAny_pure ?_
  show wpAny _ _ (Builtin.Dict.showsAll d >>= _) _ _ s
  unfold Builtin.Dict.showsAll
  rw [if_neg (by rw [hd]; exact Bool.false_ne_true)]
  refine wpAny_bind (wpAny_pure (wpAny_bind (wpAny_dictEntries gd dd (wpAny_bind (wpAny_dictEpoch gd dd ?_)))))
  exact wpAny_bind (wpAny_newObj_type (wpAny_pure ⟨_, rfl, "dict_keyiterator", _, ⟨_, Heap.get?_push_size _ rfl, rfl⟩, F.slot_dict_keyiterator_next.lookup, by simpa [rawInt] using fin⟩))
/-- d.values(), d.items(): the view -/
theorem view_values (hd : (d == sysModules) = false) : MeetsIn prog w (Builtin.«dict.values» ⟨[.ref d], []⟩) (fun _ R s => (∃ es ep, DEnt s.heap d es ep) ∧ R (.ok (.ret (.ref s.heap.objs.size))) { s with heap := s.heap.push { cls := .type "dict_values", data := .fields #[.ref d] } }) :=
  .of_wp fun A R s ⟨⟨es, ep, de⟩, h⟩ => by
    refine wpAny_bind (β := PySem.Fin) (α := Addr) ?_
    unfold Builtin.Dict.noArgs
    refine wpAny_bind (wpAny_notOrdered_dict de.ty ?_)
    show wpAny _ _ (pure d) _ _ s
    refine wpAny_pure ?_
    show wpAny _ _ (Builtin.Dict.showsAll d >>= _) _ _ s
    unfold Builtin.Dict.showsAll
    rw [if_neg (by rw [hd]; exact Bool.false_ne_true)]
    exact wpAny_bind (wpAny_pure (wpAny_bind (wpAny_newObj_type (wpAny_pure ⟨_, rfl, h⟩))))
theorem view_items (hd : (d == sysModules) = false) : MeetsIn prog w (Builtin.«dict.items» ⟨[.ref d], []⟩) (fun _ R s => (∃ es ep, DEnt s.heap d es ep) ∧ R (.ok (.ret (.ref s.heap.objs.size))) { s with heap := s.heap.push { cls := .type "dict_items", data := .fields #[.ref d] } }) :=
  .of_wp fun A R s ⟨⟨es, ep, de⟩, h⟩ => by
    unfold Builtin.«dict.items» Builtin.Dict.noArgs
    refine wpAny_bind (wpAny_bind (wpAny_notOrdered_dict de.ty ?_))
    show wpAny _ _ (pure d) _ _ s
    refine wpAny_pure ?_
    show wpAny _ _ (Builtin.Dict.showsAll d >>= _) _ _ s
    unfold Builtin.Dict.showsAll
    rw [if_neg (by rw [hd]; exact Bool.false_ne_true)]
    exact wpAny_bind (wpAny_pure (wpAny_bind (wpAny_newObj_type (wpAny_pure ⟨_, rfl, h⟩))))
theorem val_iter {v : Addr} {Q : Value → Shared → Prop} (vw : s.heap.IsValuesView v d) (de : DEnt s.heap d es ep) (fin : Q (.ref s.heap.objs.size) { s with heap := s.heap.push { cls := .type "dict_valueiterator", data := .fields #[.ref d, .int 0 0, .int es.size 0, .int ep 0] } }) : wpAny (model prog w) A (pyIter (.ref v)) Q E s := by
  obtain ⟨ov, gv, cv, fv⟩ := id vw
  obtain ⟨od, gd, xd, dd⟩ := id de
  refine wpAny_pyIter_slot vw.typeIs F.slot_dict_values_iter (wpAny_call_entry F.slot_dict_values_iter vw.typeIs F.entry_dict_values_iter ?_ (F.args_dict_values_iter_1 _))
  unfold Builtin.«dict_values.__iter__» Builtin.Dict_items.dictOf Builtin.Dict_items.newIterator
  refine wpAny_bind (wpAny_pure (wpAny_bind (wpAny_bind (wpAny_field gv fv (x := .ref d) rfl (wpAny_pure (wpAny_bind (wpAny_bind (wpAny_dictEntries gd dd (wpAny_bind (wpAny_dictEpoch gd dd ?_))))))))))
  simp only [show Builtin.Dict_items.ownsTuple "dict_valueiterator" = false by decide, Bool.false_eq_true, if_false]
  exact wpAny_newObj_type (wpAny_pure ⟨_, rfl, "dict_valueiterator", _, ⟨_, Heap.get?_push_size _ rfl, rfl⟩, F.slot_dict_valueiterator_next.lookup, by simpa [rawInt] using fin⟩)
theorem item_iter {v : Addr} {Q : Value → Shared → Prop} (vw : s.heap.IsItemsView v d) (de : DEnt s.heap d es ep) (fin : ∀ h', IsItemIter h' s.heap.objs.size d 0 es.size ep .none .none → (∀ b o, s.heap.get? b = some o → h'.get? b = some o) → Q (.ref s.heap.objs.size) { s with heap := h' }) : wpAny (model prog w) A (pyIter (.ref v)) Q E s := by
  obtain ⟨ov, gv, cv, fv⟩ := id vw
  obtain ⟨od, gd, xd, dd⟩ := id de
  refine wpAny_pyIter_slot vw.typeIs F.slot_dict_items_iter (wpAny_call_entry F.slot_dict_items_iter vw.typeIs F.entry_dict_items_iter ?_ (F.args_dict_items_iter_1 _))
  unfold Builtin.«dict_items.__iter__» Builtin.Dict_items.dictOf Builtin.Dict_items.newIterator
  refine wpAny_bind (wpAny_pure (wpAny_bind (wpAny_bind (wpAny_field gv fv (x := .ref d) rfl (wpAny_pure (wpAny_bind (wpAny_bind (wpAny_dictEntries gd dd (wpAny_bind (wpAny_dictEpoch gd dd ?_))))))))))
  simp only [show Builtin.Dict_items.ownsTuple "dict_itemiterator" = true by decide, if_true]
  refine wpAny_newObj_type (wpAny_pure ⟨_, rfl, "dict_itemiterator", _, ⟨_, Heap.get?_push_size _ rfl, rfl⟩, F.slot_dict_itemiterator_next.lookup, fin _ ?_ fun b o e => Heap.get?_push_of_some _ e⟩) (by simp only [sizeOk, Builtin.Dict_items.ownedTupleFields, List.size_toArray, List.length_append, List.length_cons, List.length_nil, sizeLine_eq]; omega)
  exact Heap.get?_push_size _ rfl
theorem val_next {Q : Option Value → Shared → Prop} (ki : s.heap.IsValIter it d i es.size ep) (de : DEnt s.heap d es ep) (li : i < es.size)
    (fin : ∀ h', h'.IsValIter it d (i + 1) es.size ep → Heap.SameBut it s.heap h' → Q (some es[i].val) { s with heap := h' }) : wpAny (model prog w) A (pyNext (.ref it)) Q E s := by
  obtain ⟨oi, gi, ci, fi⟩ := id ki
  obtain ⟨od, gd, xd, dd⟩ := de
  have ti := ki.typeIs
  unfold pyNext
  refine wpAny_bind (wpAny_attempt (wpAny_callSpecial?_slot (name := Str.ofString "__next__") ti F.slot_dict_valueiterator_next (wpAny_call_entry F.slot_dict_valueiterator_next ti F.entry_dict_valueiterator_next (wpAny_bind (wpAny_pure (wpAny_bind (wpAny_bind ?_)))) (F.args_dict_valueiterator_next_1 _))))
  refine wpAny_bind (wpAny_typeNameOfWhole_valiter ti (wpAny_pure (wpAny_bind (wpAny_fieldsOf gi fi ?_))))
  simp only [show Builtin.Dict_items.ownsTuple "dict_valueiterator" = false by decide, Bool.false_eq_true, if_false]
  show wpAny _ _ (if (Value.ref d == Value.none) = true then _ else _) _ _ s
  rw [if_neg (show ¬ ((Value.ref d == Value.none) = true) from Bool.false_ne_true)]
  refine wpAny_bind (wpAny_pure (wpAny_bind (wpAny_dictEntries gd dd ?_)))
  rw [if_neg (by simp)]
  refine wpAny_bind (wpAny_pure (wpAny_bind (wpAny_dictEpoch gd dd ?_)))
  rw [if_neg (by simp)]
  refine wpAny_pure ?_
  simp only [show ¬ ((i : Int) < 0) from by omega, if_false, Int.toNat_natCast, Array.getElem?_eq_getElem li]
  refine wpAny_bind (wpAny_bind (wpAny_typeNameOfWhole_valiter ti (wpAny_pure (wpAny_bind (wpAny_isOneOf_valiter ti ?_)))))
  show wpAny _ _ (setField (.ref it) 1 (rawInt ((i : Int) + 1)) >>= _) _ _ s
  have nx : (s.heap.update it (Obj.mapFields (·.setIfInBounds 1 (rawInt ((i : Int) + 1))))).IsValIter it d (i + 1) es.size ep :=
    ⟨_, Heap.get?_update_self _ gi (Obj.isFreed_of_fields (Obj.data_mapFields fi _)), (Obj.cls_mapFields ..).trans ci, by rw [Obj.data_mapFields fi]; simp [rawInt]⟩
  have tn : Shared.TypeIs { s with heap := s.heap.update it (Obj.mapFields (·.setIfInBounds 1 (rawInt ((i : Int) + 1)))) } (.ref it) "dict_valueiterator" := Heap.IsValIter.typeIs (s := { s with heap := s.heap.update it (Obj.mapFields (·.setIfInBounds 1 (rawInt ((i : Int) + 1)))) }) nx
  refine wpAny_bind (wpAny_setField gi fi (by simp) (wpAny_bind (wpAny_holding (wpAny_bind (wpAny_isOneOf_valiter tn ?_)))))
  refine wpAny_bind (wpAny_isOneOf_valiter tn ?_)
  show wpAny _ _ (pure es[i].val) _ _ _
  exact wpAny_pure (wpAny_pure ⟨_, rfl, wpAny_pure (fin _ nx (Heap.SameBut.update ..))⟩)
theorem val_end {Q : Option Value → Shared → Prop} (hh : A.handled = none) (ki : s.heap.IsValIter it d i es.size ep) (de : DEnt s.heap d es ep) (li : es.size ≤ i) (fin : ∀ h', Heap.ExtBut it s.heap h' → Q none { s with heap := h' }) :
    wpAny (model prog w) A (pyNext (.ref it)) Q E s := by
  obtain ⟨oi, gi, ci, fi⟩ := id ki
  obtain ⟨od, gd, xd, dd⟩ := de
  have ti := ki.typeIs
  unfold pyNext
  refine wpAny_bind (wpAny_attempt (wpAny_callSpecial?_slot (name := Str.ofString "__next__") ti F.slot_dict_valueiterator_next (wpAny_call_entry F.slot_dict_valueiterator_next ti F.entry_dict_valueiterator_next (wpAny_bind (wpAny_pure (wpAny_bind (wpAny_bind ?_)))) (F.args_dict_valueiterator_next_1 _))))
  refine wpAny_bind (wpAny_typeNameOfWhole_valiter ti (wpAny_pure (wpAny_bind (wpAny_fieldsOf gi fi ?_))))
  simp only [show Builtin.Dict_items.ownsTuple "dict_valueiterator" = false by decide, Bool.false_eq_true, if_false]
  show wpAny _ _ (if (Value.ref d == Value.none) = true then _ else _) _ _ s
  rw [if_neg (show ¬ ((Value.ref d == Value.none) = true) from Bool.false_ne_true)]
  refine wpAny_bind (wpAny_pure (wpAny_bind (wpAny_dictEntries gd dd ?_)))
  rw [if_neg (by simp)]
  refine wpAny_bind (wpAny_pure (wpAny_bind (wpAny_dictEpoch gd dd ?_)))
  rw [if_neg (by simp)]
  refine wpAny_pure ?_
  simp only [show ¬ ((i : Int) < 0) from by omega, if_false, Int.toNat_natCast, Array.getElem?_eq_none li]
  refine wpAny_bind (wpAny_bind (wpAny_typeNameOfWhole_valiter ti (wpAny_pure ?_)))
  show wpAny _ _ (setField (.ref it) 0 .none >>= _) _ _ s
  refine wpAny_bind (wpAny_setField gi fi (by simp) ?_)
  show wpAny _ _ (newExc (.type "StopIteration") [] >>= _) _ _ _
  refine wpAny_bind ?_
  simp only [newExc, newTuple]
  refine wpAny_bind (wpAny_newObj_type (wpAny_bind (m := firstArgMember _ _) (wpAny_of_eq (a := Value.none) (by first | rfl | (simp only [firstArgMember]; rfl)) (wpAny_newObj_type ?_ (by size_fits)))) (by size_fits))
  simp only [raiseNew]
  refine wpAny_bind (wpAny_handled ?_)
  rw [show A.in1.handled = none from hh]
  refine wpAny_bind (wpAny_pure (wpAny_throw ?_))
  refine wpAny_bind (wpAny_isInstance (T := "StopIteration") (b := true) ⟨_, Heap.get?_push_size _ rfl, rfl⟩ isSubtype_stop (wpAny_pure (fin _ ?_)))
  exact ((Heap.SameBut.update ..).extBut.push _).push _
/-- an iterator of items, whatever pair it has handed out -/
def ItAt (h : Heap) (it d : Addr) (i n ep : Nat) : Prop := ∃ f0 f1 ok ov, h.get? it = some { cls := .type "dict_itemiterator", dict := none, data := .fields #[f0, f1, .ref d, .int i 0, .int n 0, .int ep 0, ok, ov], slots := #[] } ∧ (f0 = .none ∨ ∃ a, f0 = .int a 0)
theorem ItAt.ty {s : Shared} {it d : Addr} {i n ep : Nat} (x : ItAt s.heap it d i n ep) : s.TypeIs (.ref it) "dict_itemiterator" := let ⟨_, _, _, _, e, _⟩ := x; ⟨_, e, rfl⟩
theorem ItAt.at {h h' : Heap} {it d : Addr} {i n ep : Nat} (x : ItAt h it d i n ep) (k : ∀ o, h.get? it = some o → h'.get? it = some o) : ItAt h' it d i n ep := let ⟨a, b, c, e, q, r⟩ := x; ⟨a, b, c, e, k _ q, r⟩
theorem it_free {i n : Nat} {Q : Bool → Shared → Prop} (ii : ItAt s.heap it d i n ep) (fin : ∀ b h', ItAt h' it d i n ep → Heap.SameBut it s.heap h' → Q b { s with heap := h' }) : wpAny (model prog w) A (Builtin.Dict_items.ownedTupleIsFree (.ref it)) Q E s := by
  obtain ⟨f0, f1, ok, ov, gi, c0⟩ := ii
  have same : Heap.SameBut it s.heap s.heap := ⟨rfl, fun _ _ => rfl⟩
  unfold Builtin.Dict_items.ownedTupleIsFree
  refine wpAny_bind (wpAny_field gi rfl (x := f0) rfl ?_)
  rcases c0 with rfl | ⟨a, rfl⟩
  · exact wpAny_pure (fin _ _ ⟨_, _, _, _, gi, .inl rfl⟩ same)
  · show wpAny _ _ (loadIfAlive a.toNat >>= _) _ _ s
    refine wpAny_bind ?_
    have al : ∀ {Q : Option Obj → Shared → Prop}, Q (s.heap.get? a.toNat) s → wpAny (model prog w) A (loadIfAlive a.toNat) Q E s := fun hQ _ _ _ => hQ
    refine al ?_
    cases e : s.heap.get? a.toNat with
    | none => exact wpAny_pure (fin _ _ ⟨_, _, _, _, gi, .inr ⟨a, rfl⟩⟩ same)
    | some o =>
      show wpAny _ _ (field (.ref it) 1 >>= _) _ _ s
      refine wpAny_bind (wpAny_field gi rfl (x := f1) rfl ?_)
      by_cases e1 : (f1 != Value.bool true) = true
      · rw [if_pos e1]
        exact wpAny_bind (wpAny_setField_rec gi (by simp) fun g1 z1 s1 => wpAny_pure (fin _ g1 ⟨_, _, _, _, z1, .inr ⟨a, rfl⟩⟩ s1))
      · rw [if_neg e1]
        exact wpAny_pure (fin _ _ ⟨_, _, _, _, gi, .inr ⟨a, rfl⟩⟩ same)
/-- one of the pair's own fields is set -/
theorem it_set {i n k : Nat} {v : Value} {Q : Unit → Shared → Prop} (ii : ItAt s.heap it d i n ep) (hk : k = 1 ∨ k = 6 ∨ k = 7 ∨ (k = 0 ∧ (v = .none ∨ ∃ a, v = .int a 0))) (fin : ∀ h', ItAt h' it d i n ep → Heap.SameBut it s.heap h' → Q () { s with heap := h' }) : wpAny (model prog w) A (setField (.ref it) k v) Q E s := by
  obtain ⟨f0, f1, ok, ov, gi, c0⟩ := ii
  rcases hk with rfl | rfl | rfl | ⟨rfl, hv⟩
  · exact wpAny_setField_rec gi (by simp) fun g1 z1 s1 => fin g1 ⟨_, _, _, _, z1, c0⟩ s1
  · exact wpAny_setField_rec gi (by simp) fun g1 z1 s1 => fin g1 ⟨_, _, _, _, z1, c0⟩ s1
  · exact wpAny_setField_rec gi (by simp) fun g1 z1 s1 => fin g1 ⟨_, _, _, _, z1, c0⟩ s1
  · exact wpAny_setField_rec gi (by simp) fun g1 z1 s1 => fin g1 ⟨_, _, _, _, z1, hv⟩ s1
theorem it_field {i n k : Nat} {Q : Value → Shared → Prop} (ii : ItAt s.heap it d i n ep) (hk : k = 6 ∨ k = 7) (fin : ∀ v, Q v s) : wpAny (model prog w) A (field (.ref it) k) Q E s := by
  obtain ⟨f0, f1, ok, ov, gi, c0⟩ := ii
  rcases hk with rfl | rfl
  · exact wpAny_field gi rfl (x := ok) rfl (fin _)
  · exact wpAny_field gi rfl (x := ov) rfl (fin _)
theorem sb_trans {a : Addr} {h1 h2 h3 : Heap} (x : Heap.SameBut a h1 h2) (y : Heap.SameBut a h2 h3) : Heap.SameBut a h1 h3 := ⟨y.1.trans x.1, fun b hb => (y.2 b hb).trans (x.2 b hb)⟩
theorem pair_own {i n : Nat} {x y : Value} {Q : Value → Shared → Prop} (ii : ItAt s.heap it d i n ep)
    (fin : ∀ h', ItAt h' it d i n ep → h'.get? s.heap.objs.size = some { cls := .type "tuple", data := .seq #[x, y] } → h'.objs.size = s.heap.objs.size + 1 → (∀ b o, b ≠ it → s.heap.get? b = some o → h'.get? b = some o) → Q (.ref s.heap.objs.size) { s with heap := h' }) :
    wpAny (model prog w) A (Builtin.Dict_items.pairFromOwner (.ref it) 6 x y) Q E s := by
  unfold Builtin.Dict_items.pairFromOwner
  have li : it < s.heap.objs.size := let ⟨_, _, _, _, e, _⟩ := ii; Heap.lt_size e
  refine wpAny_bind (wpAny_newTuple ?_)
  have i1 : ItAt (s.heap.push { cls := .type "tuple", data := .seq #[x, y] }) it d i n ep := ii.at fun o e => Heap.get?_push_of_some _ e
  have fin' : ∀ h', ItAt h' it d i n ep → Heap.SameBut it (s.heap.push { cls := .type "tuple", data := .seq #[x, y] }) h' → Q (.ref s.heap.objs.size) { s with heap := h' } := fun h' a b =>
    fin h' a ((b.2 _ (Nat.ne_of_gt li)).trans (Heap.get?_push_size _ rfl)) (by rw [b.1, Heap.size_push]) fun c o hc e => (b.2 c hc).trans (Heap.get?_push_of_some _ e)
  refine wpAny_bind (it_free (s := { s with heap := s.heap.push { cls := .type "tuple", data := .seq #[x, y] } }) i1 fun b h2 i2 s2 => ?_)
  cases b with
  | false => exact wpAny_pure (fin' h2 i2 s2)
  | true =>
    refine wpAny_bind (it_field (s := { s with heap := h2 }) i2 (.inl rfl) fun v1 => wpAny_bind (it_field (s := { s with heap := h2 }) i2 (.inr rfl) fun v2 => ?_))
    refine wpAny_bind (it_set (s := { s with heap := h2 }) i2 (.inr (.inl rfl)) fun h3 i3 s3 => ?_)
    refine wpAny_bind (it_set (s := { s with heap := h3 }) i3 (.inr (.inr (.inl rfl))) fun h4 i4 s4 => ?_)
    refine wpAny_bind (it_set (s := { s with heap := h4 }) i4 (.inr (.inr (.inr ⟨rfl, .inr ⟨_, rfl⟩⟩))) fun h5 i5 s5 => ?_)
    refine wpAny_bind (it_set (s := { s with heap := h5 }) i5 (.inl rfl) fun h6 i6 s6 => ?_)
    exact wpAny_bind (wpAny_letGo (wpAny_pure (fin' h6 i6 (sb_trans s2 (sb_trans s3 (sb_trans s4 (sb_trans s5 s6)))))))
theorem item_next {Q : Option Value → Shared → Prop} (ii : ItAt s.heap it d i es.size ep) (de : DEnt s.heap d es ep) (li : i < es.size)
    (fin : ∀ h', ItAt h' it d (i + 1) es.size ep → h'.get? s.heap.objs.size = some { cls := .type "tuple", data := .seq #[es[i].key, es[i].val] } → h'.objs.size = s.heap.objs.size + 1 → (∀ b o, b ≠ it → s.heap.get? b = some o → h'.get? b = some o) → Q (some (.ref s.heap.objs.size)) { s with heap := h' }) :
    wpAny (model prog w) A (pyNext (.ref it)) Q E s := by
  have ti := ii.ty
  obtain ⟨f0, f1, ok, ov, gi, c0⟩ := id ii
  obtain ⟨od, gd, xd, dd⟩ := de
  unfold pyNext
  refine wpAny_bind (wpAny_attempt (wpAny_callSpecial?_slot (name := Str.ofString "__next__") ti F.slot_dict_itemiterator_next (wpAny_call_entry F.slot_dict_itemiterator_next ti F.entry_dict_itemiterator_next (wpAny_bind (wpAny_pure (wpAny_bind (wpAny_bind ?_)))) (F.args_dict_itemiterator_next_1 _))))
  refine wpAny_bind (wpAny_typeNameOfWhole_itemiter ti (wpAny_pure (wpAny_bind (wpAny_fieldsOf gi rfl ?_))))
  simp only [show Builtin.Dict_items.ownsTuple "dict_itemiterator" = true by decide, if_true]
  show wpAny _ _ (if (Value.ref d == Value.none) = true then _ else _) _ _ s
  rw [if_neg (show ¬ ((Value.ref d == Value.none) = true) from Bool.false_ne_true)]
  refine wpAny_bind (wpAny_pure (wpAny_bind (wpAny_dictEntries gd dd ?_)))
  rw [if_neg (by simp)]
  refine wpAny_bind (wpAny_pure (wpAny_bind (wpAny_dictEpoch gd dd ?_)))
  rw [if_neg (by simp)]
  refine wpAny_pure ?_
  simp only [show ¬ ((i : Int) < 0) from by omega, if_false, Int.toNat_natCast, Array.getElem?_eq_getElem li]
  refine wpAny_bind (wpAny_bind (wpAny_typeNameOfWhole_itemiter ti (wpAny_pure (wpAny_bind (wpAny_isOneOf_itemiter ti ?_)))))
  show wpAny _ _ (setField (.ref it) 3 (rawInt ((i : Int) + 1)) >>= _) _ _ s
  refine wpAny_bind (wpAny_setField_rec gi (by simp) fun h1 z1 s1 => ?_)
  have i1 : ItAt h1 it d (i + 1) es.size ep := by
    have e : ((i + 1 : Nat) : Int) = (i : Int) + 1 := by omega
    refine ⟨f0, f1, ok, ov, ?_, c0⟩
    rw [e]; simpa [rawInt] using z1
  have t1 : Shared.TypeIs { s with heap := h1 } (.ref it) "dict_itemiterator" := ItAt.ty (s := { s with heap := h1 }) i1
  refine wpAny_bind (wpAny_holding (wpAny_bind (wpAny_isOneOf_itemiter t1 (wpAny_bind (wpAny_isOneOf_itemiter t1 ?_)))))
  show wpAny _ _ (Builtin.Dict_items.pairFromOwner (.ref it) 6 es[i].key es[i].val) _ _ { s with heap := h1 }
  have z1 : h1.objs.size = s.heap.objs.size := s1.1
  refine pair_own (s := { s with heap := h1 }) i1 fun h2 i2 T2 sz2 k2 => wpAny_pure ⟨_, rfl, wpAny_pure ?_⟩
  have F := fin h2 i2 (z1 ▸ T2) (z1 ▸ sz2) fun b o hb e => k2 b o hb ((s1.2 b hb).trans e)
  show Q (some (.ref h1.objs.size)) _
  rw [z1]; exact F
theorem item_end {Q : Option Value → Shared → Prop} (hh : A.handled = none) (ii : ItAt s.heap it d i es.size ep) (de : DEnt s.heap d es ep) (li : es.size ≤ i) (fin : ∀ h', Heap.ExtBut it s.heap h' → Q none { s with heap := h' }) :
    wpAny (model prog w) A (pyNext (.ref it)) Q E s := by
  have ti := ii.ty
  obtain ⟨f0, f1, ok, ov, gi, c0⟩ := id ii
  obtain ⟨od, gd, xd, dd⟩ := de
  unfold pyNext
  refine wpAny_bind (wpAny_attempt (wpAny_callSpecial?_slot (name := Str.ofString "__next__") ti F.slot_dict_itemiterator_next (wpAny_call_entry F.slot_dict_itemiterator_next ti F.entry_dict_itemiterator_next (wpAny_bind (wpAny_pure (wpAny_bind (wpAny_bind ?_)))) (F.args_dict_itemiterator_next_1 _))))
  refine wpAny_bind (wpAny_typeNameOfWhole_itemiter ti (wpAny_pure (wpAny_bind (wpAny_fieldsOf gi rfl ?_))))
  simp only [show Builtin.Dict_items.ownsTuple "dict_itemiterator" = true by decide, if_true]
  show wpAny _ _ (if (Value.ref d == Value.none) = true then _ else _) _ _ s
  rw [if_neg (show ¬ ((Value.ref d == Value.none) = true) from Bool.false_ne_true)]
  refine wpAny_bind (wpAny_pure (wpAny_bind (wpAny_dictEntries gd dd ?_)))
  rw [if_neg (by simp)]
  refine wpAny_bind (wpAny_pure (wpAny_bind (wpAny_dictEpoch gd dd ?_)))
  rw [if_neg (by simp)]
  refine wpAny_pure ?_
  simp only [show ¬ ((i : Int) < 0) from by omega, if_false, Int.toNat_natCast, Array.getElem?_eq_none li]
  refine wpAny_bind (wpAny_bind (wpAny_typeNameOfWhole_itemiter ti (wpAny_pure ?_)))
  show wpAny _ _ (setField (.ref it) 2 .none >>= _) _ _ s
  refine wpAny_bind (wpAny_setField gi rfl (by simp) ?_)
  show wpAny _ _ (newExc (.type "StopIteration") [] >>= _) _ _ _
  refine wpAny_bind ?_
  simp only [newExc, newTuple]
  refine wpAny_bind (wpAny_newObj_type (wpAny_bind (m := firstArgMember _ _) (wpAny_of_eq (a := Value.none) (by first | rfl | (simp only [firstArgMember]; rfl)) (wpAny_newObj_type ?_ (by size_fits)))) (by size_fits))
  simp only [raiseNew]
  refine wpAny_bind (wpAny_handled ?_)
  rw [show A.in1.handled = none from hh]
  refine wpAny_bind (wpAny_pure (wpAny_throw ?_))
  refine wpAny_bind (wpAny_isInstance (T := "StopIteration") (b := true) ⟨_, Heap.get?_push_size _ rfl, rfl⟩ isSubtype_stop (wpAny_pure (fin _ ?_)))
  exact ((Heap.SameBut.update ..).extBut.push _).push _
theorem item_go {elts : List Expr} {x1 : _} {pos : Pos} {i n : Nat} {a : Addr} {Q : Unit → Shared → Prop} (ii : ItAt s.heap it d i n ep) (fin : ∀ h', ItAt h' it d i n ep → Heap.SameBut it s.heap h' → Q () { s with heap := h' }) :
    wpAny (model prog w) A (letOwnedTupleGo (.Tuple elts x1 pos) (.ref it) (.ref a)) Q E s := by
  obtain ⟨f0, f1, ok, ov, gi, c0⟩ := id ii
  unfold letOwnedTupleGo
  refine wpAny_bind (wpAny_load gi ?_)
  show wpAny _ _ (if (["enumerate", "zip", "dict_itemiterator", "dict_reverseitemiterator", "odict_iterator", "itertools.zip_longest", "itertools.pairwise"].contains "dict_itemiterator" && (#[f0, f1, .ref d, .int i 0, .int n 0, .int ep 0, ok, ov] : Array Value)[0]? == some (rawInt a)) = true then _ else _) Q E s
  by_cases hc : (["enumerate", "zip", "dict_itemiterator", "dict_reverseitemiterator", "odict_iterator", "itertools.zip_longest", "itertools.pairwise"].contains "dict_itemiterator" && (#[f0, f1, .ref d, .int i 0, .int n 0, .int ep 0, ok, ov] : Array Value)[0]? == some (rawInt a)) = true
  · rw [if_pos hc]
    refine wpAny_bind (wpAny_rule ?_)
    show wpAny _ _ (setField (.ref it) 0 .none) Q E s
    exact it_set ii (.inr (.inr (.inr ⟨rfl, .inl rfl⟩))) fin
  · rw [if_neg hc]
    exact wpAny_pure (fin _ ii ⟨rfl, fun _ _ => rfl⟩)
end
end DI

set_option Elab.async false
set_option linter.all false
set_option maxRecDepth 100000
set_option maxHeartbeats 4000000
namespace DI
open PySem PySem.W PyProof.Rows
section
variable {prog : Program} {w : World} {A : Around} {d r : Addr} {es : Array DictEntry} {ep : Nat}
def IsKey (es : Array DictEntry) (i : Nat) (v : Value) : Prop := ∃ e, es[i]? = some e ∧ v = e.key
def IsVal (es : Array DictEntry) (i : Nat) (v : Value) : Prop := ∃ e, es[i]? = some e ∧ v = e.val
theorem walks_key (hh : A.handled = none) (I d : Addr) (hne : d ≠ I) (es : Array DictEntry) (ep : Nat) : Walks prog w A I [I, d] [I] es.size (IsKey es) (fun i h => h.IsKeyIter I d i es.size ep ∧ DEnt h d es ep) where
  sub := by simp
  frame := fun i h h' st k => ⟨st.1.at fun o e => k I (by simp) o e, st.2.at fun o e => k d (by simp) o e⟩
  item := fun i s Q E hi st hQ => key_next st.1 st.2 hi fun h' k' sb => hQ _ h' s.toks ⟨_, Array.getElem?_eq_getElem hi, rfl⟩ ⟨k', st.2.at fun o e => (sb.2 d hne).trans e⟩ fun b o hb e => (sb.2 b (by simpa using hb)).trans e
  done := fun s Q E st hQ => key_end hh st.1 st.2 (Nat.le_refl _) fun h' eb => hQ h' s.toks fun b o hb e => eb b o (by simpa using hb) e
  self := fun i s Q E st h => wpAny_pyIter_keyiter st.1 h
theorem walks_val (hh : A.handled = none) (I d : Addr) (hne : d ≠ I) (es : Array DictEntry) (ep : Nat) : Walks prog w A I [I, d] [I] es.size (IsVal es) (fun i h => h.IsValIter I d i es.size ep ∧ DEnt h d es ep) where
  sub := by simp
  frame := fun i h h' st k => ⟨st.1.at fun o e => k I (by simp) o e, st.2.at fun o e => k d (by simp) o e⟩
  item := fun i s Q E hi st hQ => val_next st.1 st.2 hi fun h' k' sb => hQ _ h' s.toks ⟨_, Array.getElem?_eq_getElem hi, rfl⟩ ⟨k', st.2.at fun o e => (sb.2 d hne).trans e⟩ fun b o hb e => (sb.2 b (by simpa using hb)).trans e
  done := fun s Q E st hQ => val_end hh st.1 st.2 (Nat.le_refl _) fun h' eb => hQ h' s.toks fun b o hb e => eb b o (by simpa using hb) e
  self := fun i s Q E st h => wpAny_pyIter_valiter st.1 h
theorem DEnt.lt {h : Heap} (x : DEnt h d es ep) : d < h.objs.size := let ⟨_, e, _⟩ := x; Heap.lt_size e
theorem src_dict (lo : (d == sysModules) = false) : KdlSrc prog w "dict" d d es.size (IsKey es) (fun h => DEnt h d es ep) where
  type := fun _ x => x.ty
  there := fun _ x => ⟨x.lt, x.lt⟩
  keep := fun _ _ x k => x.at fun o e => k d (.inl rfl) o e
  notList := by decide
  notTuple := by decide
  hint := fun _ _ _ _ x q => kdl_hint_dict x.ty q
  iter := fun _ _ hh x => ⟨_, _, (fun _ _ q => key_iter lo x q), walks_key hh _ d (Nat.ne_of_lt x.lt) es ep, ⟨⟨_, Heap.get?_push_size _ rfl, rfl, rfl⟩, x.at fun o e => Heap.get?_push_of_some _ e⟩⟩
/-- collect of what can be walked -/
theorem collect_src {T : String} {n : Nat} {P : Nat → Value → Prop} {OK : Heap → Prop} {E : Value → Shared → Prop} {s : Shared} {Q : List Value → Shared → Prop} (K : KdlSrc prog w T r d n P OK) (hh : A.handled = none) (ok : OK s.heap) (few : n ≤ sizeLine)
    (fin : ∀ h' tk (vs : List Value), (∀ b o, s.heap.get? b = some o → h'.get? b = some o) → vs.length = n → (∀ j v, vs[j]? = some v → P j v) → Q vs { s with heap := h', toks := tk }) : wpAny (model prog w) A (collect (.ref r)) Q E s := by
  unfold collect
  refine wpAny_bind (wpAny_runValue (codeAny_builtin PySem.F.entry_proto_collect ?_))
  rw [Around.under_plainId PySem.F.plain_proto_collect _]
  show wpAny _ A.in1 (newList [] >>= fun l => again (.builtin "list.__iadd__" ⟨[l, .ref r], []⟩)) _ _ s
  refine wpAny_bind (wpAny_newObj_type (wpAny_pure ⟨plainId_quiet PySem.F.plain_list_iadd _, codeAny_builtin PySem.F.entry_list_iadd ?_⟩))
  rw [Around.under_plainId PySem.F.plain_list_iadd _]
  have th := K.there _ ok
  show wpAny _ A.in1 (Builtin.List.listExtendWith (.ref s.heap.objs.size) (.ref r) (.ref s.heap.objs.size)) _ _ _
  refine kdl_extend (A := A) (R := fun (x : Result) s' => match x with
    | .ok (.ret v) => wpAny (model prog w) A (match v with
      | .ref a => do
        let o ← load a
        match o.data with
        | .seq xs _ => pure xs.toList
        | _ => unsupported "internal:collect"
      | _ => unsupported "internal:collect") Q E s'
    | .ok _ => False
    | .error e => E e s') (s := { s with heap := s.heap.push { cls := .type "list", data := .seq #[] } }) K hh (K.keep _ _ ok fun b _ o e => Heap.get?_push_of_some _ e) s.heap.objs.size (Nat.ne_of_gt th.1) (Nat.ne_of_gt th.2) _ 0 (Heap.get?_push_size _ rfl) (fun h' tk acc c k hS it => ?_) few
  show wpAny _ A (load s.heap.objs.size >>= _) _ _ { s with heap := h', toks := tk }
  refine wpAny_bind (wpAny_load hS (wpAny_pure ?_))
  exact fin h' tk acc.toList (fun b o e => k b o (Nat.ne_of_lt (Heap.lt_size e)) (Heap.get?_push_of_some _ e)) (by rw [Array.length_toList]; exact it.1) fun j v e => it.2 j v (by rw [← Array.getElem?_toList]; exact e)
end
end DI

set_option Elab.async false
set_option linter.all false
set_option maxRecDepth 100000
set_option maxHeartbeats 4000000
namespace L2
open PySem PySem.W PySem.Spec PyProof.Rows DI
/-! ### sorted(d), sorted(d.items()), list(d), sum(d.values()): d a dict whose keys are tuples -/
/-- the entries of a tracked dict with tuples as keys -/
def EntT (H : Hp) (kvs : List (List Key × V)) (es : Array DictEntry) : Prop :=
  Paired (fun (p : List Key × V) (e : DictEntry) => ∃ b, e.key = .ref b ∧ H b = some (.tup (p.1.map kV)) ∧ RelV p.2 e.val) kvs es.toList
theorem EntT.size {H : Hp} {kvs : List (List Key × V)} {es : Array DictEntry} (h : EntT H kvs es) : es.size = kvs.length := by have := Paired.length h; simpa using this.symm
theorem EntT.at {H : Hp} {kvs : List (List Key × V)} {es : Array DictEntry} (h : EntT H kvs es) {i : Nat} {e : DictEntry} (q : es[i]? = some e) : ∃ kv b, kvs[i]? = some kv ∧ e.key = .ref b ∧ H b = some (.tup (kv.1.map kV)) ∧ RelV kv.2 e.val := by
  have : ∀ {l : List (List Key × V)} {m : List DictEntry}, Paired (fun (p : List Key × V) (e : DictEntry) => ∃ b, e.key = .ref b ∧ H b = some (.tup (p.1.map kV)) ∧ RelV p.2 e.val) l m → ∀ {i : Nat} {e}, m[i]? = some e → ∃ kv b, l[i]? = some kv ∧ e.key = .ref b ∧ H b = some (.tup (kv.1.map kV)) ∧ RelV kv.2 e.val := by
    intro l m r
    induction r with
    | nil => intro i e q; simp at q
    | @cons p q ps qs hq t ih =>
      intro i e z
      cases i with
      | zero => simp at z; subst z; obtain ⟨b, h1, h2, h3⟩ := hq; exact ⟨p, b, rfl, h1, h2, h3⟩
      | succ i => simpa using ih (by simpa using z)
  exact this h (by rw [Array.getElem?_toList]; exact q)
theorem Inv.entT {X : Cx} {pins : List (Addr × Obj)} {σ : St} {H : Hp} {s : Shared} {d : Addr} {kvs : List (List Key × V)} (I : Inv X pins σ H s) (h : Rd H d (.dT kvs)) : (d == sysModules) = false ∧ kvs.length ≤ sizeLine ∧ (kvs.map (·.1)).Nodup ∧ ∃ es ep, DEnt s.heap d es ep ∧ EntT H kvs es := by
  obtain ⟨z, y, xs, r, o, es, ep, h1, h2, h3, h4, h5⟩ := (show ObjOk X.prog X.w H s.heap d (.dT kvs) from rd_of I.hok h)
  have ek : kvs.map (·.1) = xs.map (·.1) := by
    clear h4 h5 z h
    induction r with
    | nil => rfl
    | @cons p q ps qs hq t ih => rw [List.map_cons, List.map_cons, hq.1, ih]
  refine ⟨y, z, by rw [ek]; exact h5, es, ep, ⟨o, h1, h2, h3⟩, ?_⟩
  unfold EntT
  rw [h4]
  clear h4 h5 ek z h
  induction r with
  | nil => exact .nil
  | @cons p q ps qs hq t ih => exact .cons ⟨q.2.1, rfl, hq.2.1, hq.2.2⟩ ih
/-- pairs that were made of the first i entries -/
structure Prd (H H' : Hp) (kvs : List (List Key × V)) (as : List Addr) : Prop where
  same : Same H H'
  nodup : as.Nodup
  new : ∀ a ∈ as, H a = none
  at_ : ∀ (j : Nat) (a : Addr), as[j]? = some a → ∃ (kv : List Key × V) (b : Addr), kvs[j]? = some kv ∧ H b = some (.tup (kv.1.map kV)) ∧ H' a = some (.tup [.ref b, kv.2])
section
variable {X : Cx} {pins : List (Addr × Obj)} {σ : St} {A : Around} {R : Result → Shared → Prop} {it S d : Addr} {es : Array DictEntry} {ep : Nat} {kvs : List (List Key × V)} {H0 : Hp} {res : Value}
theorem items_loop (hh : A.handled = none) (e0 : EntT H0 kvs es) (few : es.size ≤ sizeLine) (hS : S ≠ it) (hd : d ≠ S) (hd2 : d ≠ it)
    (fin : ∀ (s' : Shared) H' as (acc : Array Value) c, Inv X pins σ H' s' → Prd H0 H' kvs as → as.length = kvs.length → acc.toList = as.map Value.ref → s'.heap.get? S = some { cls := .type "list", dict := none, data := .seq acc c, slots := #[] } → H' S = none → R (.ok (.ret res)) s') :
    ∀ (k i : Nat) (s : Shared) (H : Hp) (as : List Addr) (acc : Array Value) (c : Nat), es.size - i = k → i ≤ es.size → Inv X pins σ H s → FpOk X pins H it → FpOk X pins H S → ItAt s.heap it d i es.size ep → DEnt s.heap d es ep →
      Prd H0 H kvs as → as.length = i → acc.toList = as.map Value.ref → s.heap.get? S = some { cls := .type "list", dict := none, data := .seq acc c, slots := #[] } →
      codeAny (model X.prog X.w) A (.builtin "list.extend.loop" ⟨[.ref S, .ref it, res], []⟩) R s := by
  intro k
  induction k with
  | zero =>
    intro i s H as acc c hk hi I fi fS ii de pr la ea gS
    refine codeAny_builtin PySem.F.entry_extend_loop ?_
    rw [Around.under_plainId PySem.F.plain_extend_loop _]
    show wpAny _ A.in1 (pyNext (.ref it) >>= _) _ _ s
    refine wpAny_bind (item_end hh ii de (by omega) fun h' eb => wpAny_pure ?_)
    have I2 : Inv X pins σ H { s with heap := h' } := I.turnedL (t' := s.toks) (fp := [it]) (fun b hb => by rw [List.mem_singleton.mp hb]; exact fi) fun b o hb e => eb b o (by simpa using hb) e
    exact fin _ H as acc c I2 pr (by rw [la, ← e0.size]; omega) ea (eb S _ hS gS) fS.1
  | succ k ih =>
    intro i s H as acc c hk hi I fi fS ii de pr la ea gS
    have li : i < es.size := by omega
    refine codeAny_builtin PySem.F.entry_extend_loop ?_
    rw [Around.under_plainId PySem.F.plain_extend_loop _]
    show wpAny _ A.in1 (pyNext (.ref it) >>= _) _ _ s
    refine wpAny_bind (item_next ii de li fun h' i2 T2 sz2 k2 => ?_)
    obtain ⟨kv, b, q1, q2, q3, q4⟩ := e0.at (Array.getElem?_eq_getElem li)
    have hnw : H s.heap.objs.size = none := I.hok.fresh (Nat.le_refl _)
    have sz : acc.size = i := by rw [← Array.length_toList, ea, List.length_map, la]
    have gS' := k2 S _ hS gS
    have nS : s.heap.objs.size ≠ S := Nat.ne_of_gt (Heap.lt_size gS)
    have nit : s.heap.objs.size ≠ it := let ⟨_, _, _, _, e, _⟩ := ii; Nat.ne_of_gt (Heap.lt_size e)
    show wpAny _ A.in1 (updateSeq S (·.push (.ref s.heap.objs.size)) >>= _) _ _ { s with heap := h' }
    refine wpAny_bind (wpAny_updateSeq gS' rfl (wpAny_pure ⟨plainId_quiet PySem.F.plain_extend_loop _, ?_⟩) (by rw [sz]; omega) (by show (acc.push _).size ≤ sizeLine + 1; rw [Array.size_push, sz]; omega))
    have oth : ∀ c o, c ≠ S → h'.get? c = some o → (h'.update S (Obj.mapSeq (·.push (Value.ref s.heap.objs.size)))).get? c = some o := fun c o hc e => (Heap.get?_update_other _ _ (Ne.symm hc)).trans e
    have I2 : Inv X pins σ (upd H s.heap.objs.size (.tup [.ref b, kv.2])) { s with heap := h'.update S (Obj.mapSeq (·.push (Value.ref s.heap.objs.size))) } := by
      refine I.turnedNew (t' := s.toks) (fp := [it, S]) (fun b hb => ?_) (fun b o hb e => ?_) (Nat.le_refl _) ⟨by show 2 ≤ _; decide, [es[i].key, es[i].val], .cons (by rw [q2]; rfl) (.cons q4 .nil), _, oth _ _ nS T2, rfl, _, rfl, rfl⟩
      · rcases List.mem_cons.mp hb with rfl | hb
        · exact fi
        · rw [List.mem_singleton.mp hb]; exact fS
      · simp only [List.mem_cons, List.not_mem_nil, or_false, not_or] at hb
        exact oth b o hb.2 (k2 b o hb.1 e)
    have F : ∀ {b : Addr}, b ≠ s.heap.objs.size → FpOk X pins H b → FpOk X pins (upd H s.heap.objs.size (.tup [.ref b, kv.2])) b := fun hb f => ⟨by rw [upd_ne hb]; exact f.1, f.2⟩
    have nn : H0 s.heap.objs.size = none := by
      cases z : H0 s.heap.objs.size with
      | none => rfl
      | some o => have := pr.same _ _ z; rw [hnw] at this; cases this
    refine ih (i + 1) _ (upd H s.heap.objs.size (.tup [.ref b, kv.2])) (as ++ [s.heap.objs.size]) (acc.push (.ref s.heap.objs.size)) _ (by omega) li I2 ?_ ?_ (i2.at fun o e => oth it o (Ne.symm hS) e) (de.at fun o e => oth d o hd (k2 d o hd2 e)) ?_ (by simp [la]) (by simp [ea]) (Heap.get?_update_self _ gS' rfl)
    · exact ⟨by rw [upd_ne (Ne.symm nit)]; exact fi.1, fi.2⟩
    · exact ⟨by rw [upd_ne (Ne.symm nS)]; exact fS.1, fS.2⟩
    · refine ⟨fun c o e => ?_, ?_, ?_, ?_⟩
      · rw [upd_ne (ne_of_none (pr.same c o e) hnw)]; exact pr.same c o e
      · refine List.nodup_append.mpr ⟨pr.nodup, by simp, fun x hx y hy z => ?_⟩
        rw [List.mem_singleton] at hy
        subst hy z
        obtain ⟨j, hj⟩ := List.getElem?_of_mem hx
        obtain ⟨_, _, _, _, w⟩ := pr.at_ j _ hj
        rw [hnw] at w; cases w
      · intro a ha
        rcases List.mem_append.mp ha with ha | ha
        · exact pr.new a ha
        · rw [List.mem_singleton.mp ha]; exact nn
      · intro j a ja
        rcases Nat.lt_or_ge j as.length with u | u
        · rw [List.getElem?_append_left u] at ja
          obtain ⟨kv', b', w1, w2, w3⟩ := pr.at_ j a ja
          exact ⟨kv', b', w1, w2, by rw [upd_ne (ne_of_none w3 hnw)]; exact w3⟩
        · rw [List.getElem?_append_right u] at ja
          have hj : j = i := by
            rcases Nat.eq_or_lt_of_le u with e | e
            · omega
            · rw [List.getElem?_eq_none (by simp; omega)] at ja; cases ja
          subst hj
          simp [la] at ja
          subst ja
          exact ⟨kv, b, q1, q3, upd_same⟩
end
end L2

set_option Elab.async false
set_option linter.all false
set_option maxRecDepth 100000
set_option maxHeartbeats 4000000
namespace Srt
open PySem PySem.W PySem.Spec PyProof.Rows L2
/-! ### the order of tuples of ints -/
def lexI : List Int → List Int → Bool
  | [], [] => false
  | [], _ :: _ => true
  | _ :: _, [] => false
  | a :: as, b :: bs => if a = b then lexI as bs else decide (a < b)
theorem lexI_asym : ∀ a b, lexI a b = true → lexI b a = false
  | [], [], h => by simp [lexI] at h
  | [], _ :: _, _ => rfl
  | _ :: _, [], h => by simp [lexI] at h
  | a :: as, b :: bs, h => by
    unfold lexI at h ⊢
    by_cases e : a = b
    · rw [if_pos e] at h; rw [if_pos e.symm]; exact lexI_asym as bs h
    · rw [if_neg e] at h; rw [if_neg (Ne.symm e)]
      simp at h ⊢; omega
theorem lexI_tr : ∀ a b c, lexI b a = false → lexI c b = false → lexI c a = false
  | [], [], c, _, h => h
  | [], b :: bs, [], _, _ => rfl
  | [], b :: bs, c :: cs, _, _ => rfl
  | a :: as, [], c, h, _ => by simp [lexI] at h
  | a :: as, b :: bs, [], _, h => by simp [lexI] at h
  | a :: as, b :: bs, c :: cs, h1, h2 => by
    unfold lexI at h1 h2 ⊢
    by_cases e1 : b = a <;> by_cases e2 : c = b
    · rw [if_pos e1] at h1; rw [if_pos e2] at h2; rw [if_pos (e2.trans e1)]; exact lexI_tr as bs cs h1 h2
    · rw [if_pos e1] at h1; rw [if_neg e2] at h2; rw [if_neg (fun z => e2 (z.trans e1.symm))]; rw [← e1]; exact h2
    · rw [if_neg e1] at h1; rw [if_pos e2] at h2; rw [if_neg (fun z => e1 (e2.symm.trans z))]; rw [e2]; exact h1
    · rw [if_neg e1] at h1; rw [if_neg e2] at h2
      simp at h1 h2
      rw [if_neg (by omega)]; simp; omega
theorem lexI_tot : ∀ a b, lexI a b = false → lexI b a = false → a = b
  | [], [], _, _ => rfl
  | [], _ :: _, h, _ => by simp [lexI] at h
  | _ :: _, [], _, h => by simp [lexI] at h
  | a :: as, b :: bs, h1, h2 => by
    unfold lexI at h1 h2
    by_cases e : a = b
    · subst e; rw [if_pos rfl] at h1 h2; rw [lexI_tot as bs h1 h2]
    · rw [if_neg e] at h1; rw [if_neg (Ne.symm e)] at h2
      simp at h1 h2; omega
theorem ordI (ks : Nat → List Int) : Ord fun i j => lexI (ks i) (ks j) := ⟨fun i j h => lexI_asym _ _ h, fun i j k h1 h2 => lexI_tr _ _ _ h1 h2⟩
/-- a tuple of ints -/
def TupI (h : Heap) (b : Addr) (ks : List Int) : Prop := ∃ o items n, h.get? b = some o ∧ o.cls = .type "tuple" ∧ o.data = .seq items n ∧ IntsAre items.toList ks
theorem TupI.at {h h' : Heap} {b : Addr} {ks : List Int} (x : TupI h b ks) (k : ∀ o, h.get? b = some o → h'.get? b = some o) : TupI h' b ks := let ⟨o, i, n, e, r⟩ := x; ⟨o, i, n, k o e, r⟩
theorem TupI.isTuple {h : Heap} {b : Addr} {ks : List Int} (x : TupI h b ks) : ∃ items : Array Value, h.IsTuple b items ∧ IntsAre items.toList ks := let ⟨o, i, n, e, c, d, r⟩ := x; ⟨i, ⟨o, e, c, n, d⟩, r⟩
section
variable {prog : Program} {w : World} {A : Around} {E : Value → Shared → Prop} {s : Shared}
theorem lex_ints {Q : Bool → Shared → Prop} : ∀ {xs ys : List Value} {as bs : List Int} (i : Nat), IntsAre xs as → IntsAre ys bs → Q (lexI as bs) s → KatLex prog w A true (decide (xs.length < ys.length)) Q (xs.zip ys) i s
  | _, _, _, _, i, .nil, .nil, h => h
  | _, _, _, _, i, .nil, .cons _ _ _, h => by simpa [lexI, KatLex] using h
  | _, _, _, _, i, .cons _ _ _, .nil, h => by simpa [lexI, KatLex] using h
  | _, _, _, _, i, .cons (vs := xs) (ns := as) a t ra, .cons (vs := ys) (ns := bs) b u rb, h => by
    rw [List.zip_cons_cons]
    refine kat_cons ((SeqAt.EqAt.int_int a t b u) prog w _ _ (kat_go (fun e => kat_yes ?_) fun e => kat_no ?_))
    · have e' : a = b := by simpa using e
      subst e'
      have := lex_ints (Q := Q) (xs := xs) (ys := ys) (as := as) (bs := bs) (i + 1) ra rb (by unfold lexI at h; rw [if_pos rfl] at h; exact h)
      simpa using this
    · have e' : a ≠ b := by simpa using e
      have h' : Q (decide (a < b)) s := by unfold lexI at h; rw [if_neg e'] at h; exact h
      cases i with
      | zero => exact oneLt_int h'
      | succ i => exact kat_one _ _ (lt_int h')
theorem less_ints {x y : Addr} {as bs : List Int} {Q : Bool → Shared → Prop} (hx : TupI s.heap x as) (hy : TupI s.heap y bs) (h : Q (lexI as bs) s) : wpAny (model prog w) A (keyLt' (tuples' true) (.ref x) (.ref y)) Q E s := by
  obtain ⟨ox, xs, n, e1, c1, d1, r1⟩ := hx
  obtain ⟨oy, ys, m, e2, c2, d2, r2⟩ := hy
  refine kat_lt e1 d1 e2 d2 ?_
  have := lex_ints (prog := prog) (w := w) (A := A) 0 r1 r2 h
  simpa using this
theorem lex_end {as bs : List Int} {i : Nat} (h1 : min as.length bs.length ≤ i) (h2 : i ≤ min as.length bs.length) : lexI (as.drop i) (bs.drop i) = decide (as.length < bs.length) := by
  rcases Nat.lt_or_ge i as.length with a1 | a1
  · rw [List.drop_of_length_le (l := bs) (by omega), List.drop_eq_getElem_cons a1]
    show false = _
    simp; omega
  · rw [List.drop_of_length_le a1]
    rcases Nat.lt_or_ge i bs.length with b1 | b1
    · rw [List.drop_eq_getElem_cons b1]
      show true = _
      simp; omega
    · rw [List.drop_of_length_le b1]
      show false = _
      simp; omega
open PySem.SeqAt in
theorem rc_ints {x y : Addr} {as bs : List Int} (hx : TupI s.heap x as) (hy : TupI s.heap y bs) (hu : A.units < cLine) : RcLtAt A s (.ref x) (.ref y) (lexI as bs) := by
  obtain ⟨xs, t1, r1⟩ := hx.isTuple
  obtain ⟨ys, t2, r2⟩ := hy.isTuple
  have l1 := IntsAre.length r1
  have l2 := IntsAre.length r2
  have lx : xs.size = as.length := by simpa using l1
  have ly : ys.size = bs.length := by simpa using l2
  have atI : ∀ {vs : List Value} {ns : List Int}, IntsAre vs ns → ∀ {j : Nat} (h1 : j < vs.length) (h2 : j < ns.length), ∃ t, vs[j] = .int ns[j] t := by
    intro vs ns r
    induction r with
    | nil => intro j h1; simp at h1
    | cons n t q ih =>
      intro j h1 h2
      cases j with
      | zero => exact ⟨t, rfl⟩
      | succ j => simpa using ih (by simpa using h1) (by simpa using h2)
  have key := RcLtAt.tuples (e := fun i => as[i]? == bs[i]?) (f := fun i => decide (as.getD i 0 < bs.getD i 0)) (res := fun i => if i < min as.length bs.length then lexI (as.drop i) (bs.drop i) else decide (as.length < bs.length)) t1 t2 hu (fun i hi e => ?_) (fun i hi e => ?_) (fun i hi => ?_) (fun j h1 h2 => ?_) (fun j h1 h2 e => ?_)
  · by_cases z : 0 < min as.length bs.length
    · rw [if_pos z] at key; simpa using key
    · rw [if_neg z, ← lex_end (as := as) (bs := bs) (i := 0) (by omega) (by omega)] at key; simpa using key
  · have a1 : i < as.length := by omega
    have b1 : i < bs.length := by omega
    have e' : as[i] = bs[i] := by simpa [a1, b1] using e
    have h1 : lexI (as.drop i) (bs.drop i) = lexI (as.drop (i + 1)) (bs.drop (i + 1)) := by
      rw [List.drop_eq_getElem_cons a1, List.drop_eq_getElem_cons b1]
      conv => lhs; unfold lexI
      rw [if_pos e']
    rw [if_pos (by omega), h1]
    by_cases z : i + 1 < min as.length bs.length
    · rw [if_pos z]
    · rw [if_neg z, lex_end (by omega) (by omega)]
  · have a1 : i < as.length := by omega
    have b1 : i < bs.length := by omega
    have e' : as[i] ≠ bs[i] := by simpa [a1, b1] using e
    rw [if_pos (by omega), List.drop_eq_getElem_cons a1, List.drop_eq_getElem_cons b1]
    unfold lexI
    rw [if_neg e']
    simp [a1, b1]
  · rw [if_neg (by omega), lx, ly]
  · have a1 : j < as.length := by omega
    have b1 : j < bs.length := by omega
    obtain ⟨t, q1⟩ := atI r1 (j := j) (by simpa using h1) a1
    obtain ⟨u, q2⟩ := atI r2 (j := j) (by simpa using h2) b1
    have q1' : xs[j] = .int as[j] t := by simpa using q1
    have q2' : ys[j] = .int bs[j] u := by simpa using q2
    rw [q1', q2']
    have := EqAt.int_int (A := A.in1) (s := s) as[j] t bs[j] u
    simpa [a1, b1] using this
  · have a1 : j < as.length := by omega
    have b1 : j < bs.length := by omega
    obtain ⟨t, q1⟩ := atI r1 (j := j) (by simpa using h1) a1
    obtain ⟨u, q2⟩ := atI r2 (j := j) (by simpa using h2) b1
    have q1' : xs[j] = .int as[j] t := by simpa using q1
    have q2' : ys[j] = .int bs[j] u := by simpa using q2
    rw [q1', q2']
    intro prog w E Q h
    have h' : Q (.bool (decide (as[j] < bs[j]))) s := by simpa [a1, b1] using h
    exact lt_int h'
theorem key_ints {P : Program} {w : World} {h : Heap} {b : Addr} {ks : List Int} (x : TupI h b ks) : IsTupleKey (mixKind P w) h (ks.map Sum.inl) b := by
  obtain ⟨o, items, n, e, c, d, r⟩ := x
  refine ⟨o, items, n, e, c, d, ?_⟩
  clear e d
  generalize items.toList = l at r
  induction r with
  | nil => exact .nil
  | cons n t q ih => exact .cons (kV_is (k := Sum.inl n) ⟨t, rfl⟩) ih
/-- pairs of a key and a thing, by their keys -/
theorem less_pairs {x y kx ky : Addr} {vx vy : Value} {ox oy : Obj} {n m : Nat} {as bs : List Int} {Q : Bool → Shared → Prop} (gx : s.heap.get? x = some ox) (dx : ox.data = .seq #[.ref kx, vx] n) (gy : s.heap.get? y = some oy) (dy : oy.data = .seq #[.ref ky, vy] m)
    (hx : TupI s.heap kx as) (hy : TupI s.heap ky bs) (ne : as ≠ bs) (hu : A.units < cLine) (h : Q (lexI as bs) s) : wpAny (model prog w) A (keyLt' (tuples' false) (.ref x) (.ref y)) Q E s := by
  refine kat_lt gx dx gy dy ?_
  show KatLex prog w A false _ Q ((.ref kx, .ref ky) :: _) 0 s
  refine kat_cons (wpAny_eqBool_tuple (knd := mixKind prog w) hu (key_ints hx) (key_ints hy) ?_)
  rw [decide_eq_false (fun e => ne ((List.map_inj_right (fun a b e => Sum.inl.inj e)).mp e))]
  exact kat_no (kat_one _ _ (rc_ints hx hy hu prog w _ _ h))
end
end Srt

set_option Elab.async false
set_option linter.all false
set_option maxRecDepth 100000
set_option maxHeartbeats 4000000
namespace L2
open PySem PySem.W PySem.Spec PyProof.Rows DI Srt
theorem paired_at {α β : Type} {F : α → β → Prop} : ∀ {xs : List α} {ys : List β}, xs.length = ys.length → (∀ (j : Nat) x y, xs[j]? = some x → ys[j]? = some y → F x y) → Paired F xs ys
  | [], [], _, _ => .nil
  | x :: xs, y :: ys, hl, h => .cons (h 0 x y rfl rfl) (paired_at (by simpa using hl) fun j a b p q => h (j + 1) a b (by simpa using p) (by simpa using q))
  | [], _ :: _, hl, _ => by simp at hl
  | _ :: _, [], hl, _ => by simp at hl
theorem paired_get {α β : Type} {F : α → β → Prop} {xs : List α} {ys : List β} (h : Paired F xs ys) : ∀ {j : Nat} {x : α}, xs[j]? = some x → ∃ y, ys[j]? = some y ∧ F x y := by
  induction h with
  | nil => intro j x e; simp at e
  | @cons a b as bs r t ih =>
    intro j x e
    cases j with
    | zero => simp at e; subst e; exact ⟨b, rfl, r⟩
    | succ j => simpa using ih (by simpa using e)
theorem paired_get' {α β : Type} {F : α → β → Prop} {xs : List α} {ys : List β} (h : Paired F xs ys) {j : Nat} {x : α} {y : β} (e1 : xs[j]? = some x) (e2 : ys[j]? = some y) : F x y := by
  obtain ⟨z, e, r⟩ := paired_get h e1
  rw [e2] at e; cases e; exact r
/-- tuples of ints, by their addresses -/
abbrev TupsAt (H : Hp) (bs : List Addr) (ks : List (List Int)) : Prop := Paired (fun b k => H b = some (.tup (iv k))) bs ks
theorem Inv.tupI {X : Cx} {pins : List (Addr × Obj)} {σ : St} {H : Hp} {s : Shared} {b : Addr} {k : List Int} (I : Inv X pins σ H s) (h : H b = some (.tup (iv k))) : TupI s.heap b k := by
  obtain ⟨z, its, r, o, e, c, n, d, _⟩ := (show ObjOk X.prog X.w H s.heap b (.tup (iv k)) from I.hok b _ h)
  exact ⟨o, its.toArray, n, e, c, d, by simpa using intsAre_of r⟩
theorem of_map {α : Type} {n : Nat} {p : Array Nat} (hp : Of n p) {ks : List α} (hk : ks.length = n) (d : α) : (p.toList.map fun i => ks.getD i d).Perm ks := by
  have h1 := (Array.perm_iff_toList_perm.mp hp).map fun i => ks.getD i d
  have h2 : ((List.toArray (List.range n)).toList.map fun i => ks.getD i d) = ks := by
    show (List.range n).map _ = ks
    refine List.ext_getElem (by simp [hk]) fun i a b => ?_
    simp at a
    simp [hk ▸ a]
  rw [h2] at h1; exact h1
theorem up_pairwise {c : Nat → Nat → Bool} {n : Nat} {p : Array Nat} (hp : Of n p) (u : Up c p n) : p.toList.Pairwise fun i j => c j i = false := by
  rw [List.pairwise_iff_getElem]
  intro i j hi hj hij
  have hs := hp.size
  have := u i j (Nat.le_of_lt hij) (by rw [← hs]; simpa using hj)
  have e1 : at' p i = p.toList[i] := by unfold at'; simp at hi; simp [hi]
  have e2 : at' p j = p.toList[j] := by unfold at'; simp at hj; simp [hj]
  rw [e1, e2] at this; exact this
theorem asks_ints {prog : Program} {w : World} {A : Around} {s : Shared} {bs : List Addr} {ks : List (List Int)} (hl : bs.length = ks.length) (h2 : 2 ≤ bs.length) (ht : ∀ (j : Nat) b k, bs[j]? = some b → ks[j]? = some k → TupI s.heap b k ∧ k ≠ []) :
    Asks prog w A (bs.map Value.ref) (fun i j => lexI (ks.getD i []) (ks.getD j [])) (tuples' true) s where
  kind := fun E Q h => by
    obtain ⟨fs, hf, hi, hn⟩ : ∃ fs : List Value, KatTups s.heap (bs.map Value.ref) fs ∧ (∀ v ∈ fs, ∃ n t, v = .int n t) ∧ fs.length = bs.length := by
      clear h2 h
      induction bs generalizing ks with
      | nil => exact ⟨[], .nil, (fun v hv => nomatch hv), rfl⟩
      | cons b bs ih =>
        cases ks with
        | nil => simp at hl
        | cons k ks =>
          obtain ⟨fs, h1, h2, h3⟩ := ih (ks := ks) (by simpa using hl) fun j b' k' e1 e2 => ht (j + 1) b' k' (by simpa using e1) (by simpa using e2)
          obtain ⟨⟨o, items, n, e, c, d, r⟩, ne⟩ := ht 0 b k rfl rfl
          obtain ⟨x, xs, rfl⟩ : ∃ x xs, k = x :: xs := by cases k with
            | nil => exact absurd rfl ne
            | cons x xs => exact ⟨x, xs, rfl⟩
          generalize hit : items.toList = l at r
          cases r with
          | cons n' t q =>
            refine ⟨.int x t :: fs, .cons e c d ?_ h1, fun v hv => ?_, by simp [h3]⟩
            · rw [← Array.getElem?_toList, hit]; rfl
            · rcases List.mem_cons.mp hv with rfl | hv
              · exact ⟨_, _, rfl⟩
              · exact h2 v hv
    refine kat_kind (T := .type "int") hf (by omega) (fun v hv => ?_) (by decide) h
    obtain ⟨n, t, rfl⟩ := hi v hv
    exact .now
  less := fun i j ⟨hi, hj, hne⟩ Q h => by
    rw [List.length_map] at hi hj
    have g1 : (bs.map Value.ref).getD i Value.none = .ref bs[i] := by simp [hi]
    have g2 : (bs.map Value.ref).getD j Value.none = .ref bs[j] := by simp [hj]
    have k1 : ks.getD i [] = ks[i]'(by omega) := by simp [hl ▸ hi]
    have k2 : ks.getD j [] = ks[j]'(by omega) := by simp [hl ▸ hj]
    rw [g1, g2]
    rw [k1, k2] at h
    exact less_ints (ht i _ _ (by simp [hi]) (by simp [hl ▸ hi])).1 (ht j _ _ (by simp [hj]) (by simp [hl ▸ hj])).1 h
/-- sorted(d): the keys of d, tuples of ints, in order -/
def Rising (ms : List (List Int)) : Prop := ms.Pairwise fun a b => lexI b a = false
def rSortedK : List V → Hp → VK → Prop := fun xs H Q => ∃ (d : Addr) (kvs : List (List Key × V)) (ks : List (List Int)), xs = [.ref d] ∧ Rd H d (.dT kvs) ∧ kvs.map (·.1) = ks.map (fun k => k.map Sum.inl) ∧ (∀ k ∈ ks, k ≠ []) ∧ ks.length < 64 ∧
  ∀ (q : Addr) (bs : List Addr) (ms : List (List Int)), H q = none → ms.Perm ks → Rising ms → TupsAt H bs ms → Q (.ref q) (upd H q (.lst (bs.map V.ref)))
section
variable {X : Cx}
theorem keys_inl {H : Hp} {b : Addr} {k : List Int} (h : H b = some (.tup ((k.map Sum.inl).map kV))) : H b = some (.tup (iv k)) := by
  rw [h, List.map_map]; rfl
theorem vals_refs : ∀ (bs : List Addr), Vals (bs.map V.ref) (bs.map Value.ref)
  | [] => .nil
  | _ :: bs => .cons rfl (vals_refs bs)
theorem tups_out {H : Hp} {bs : List Addr} {ks : List (List Int)} (h : TupsAt H bs ks) {n : Nat} {p : Array Nat} (hp : Of n p) (hn : ks.length = n) : TupsAt H (p.toList.map fun i => bs.getD i 0) (p.toList.map fun i => ks.getD i []) := by
  refine paired_at (by simp) fun j x y e1 e2 => ?_
  have hl := Paired.length h
  rw [List.getElem?_map, Option.map_eq_some_iff] at e1 e2
  obtain ⟨i, hi, rfl⟩ := e1
  obtain ⟨i', hi', rfl⟩ := e2
  rw [hi] at hi'; cases hi'
  have lt : i < n := by
    have := (Array.perm_iff_toList_perm.mp hp).mem_iff.mp (List.mem_of_getElem? hi)
    exact List.mem_range.mp this
  have l1 : i < bs.length := by omega
  have l2 : i < ks.length := by omega
  exact paired_get' h (x := bs.getD i 0) (y := ks.getD i []) (j := i) (by simp [l1]) (by simp [l2])
theorem call_sortedK (hc : X.calm = true) : CallR X (.builtin "sorted") rSortedK := by
  intro pins s σ H xs us Q I r h
  obtain ⟨d, kvs, ks, rfl, hd, ek, hne, few, q⟩ := h
  obtain ⟨u, rfl, ru⟩ := vals1 r
  obtain rfl : u = Value.ref d := ru
  obtain ⟨lo, z, nd, es, ep, de, en⟩ := I.entT hd
  have hkl : kvs.length = ks.length := by have := congrArg List.length ek; simpa using this
  have hes := en.size
  refine sorted_by (collect_src (src_dict lo) (I.ok.hd hc) de (by omega) fun h' tk vs kp lv pv => ?_)
  obtain ⟨bs, rfl, tb⟩ : ∃ bs : List Addr, vs = bs.map Value.ref ∧ TupsAt H bs ks := by
    have : ∀ (j : Nat) v, vs[j]? = some v → ∃ b k, v = .ref b ∧ ks[j]? = some k ∧ H b = some (.tup (iv k)) := fun j v e => by
      obtain ⟨e', he, rfl⟩ := pv j v e
      obtain ⟨kv, b, w1, w2, w3, _⟩ := en.at he
      have hk : (kvs.map (·.1))[j]? = some kv.1 := by rw [List.getElem?_map, w1]; rfl
      rw [ek, List.getElem?_map, Option.map_eq_some_iff] at hk
      obtain ⟨k, hk1, hk2⟩ := hk
      exact ⟨b, k, w2, hk1, keys_inl (by rw [hk2]; exact w3)⟩
    have hvl : vs.length = ks.length := by omega
    clear pv lv hes en ek hne few q hkl nd z
    induction vs generalizing ks with
    | nil => cases ks with
      | nil => exact ⟨[], rfl, .nil⟩
      | cons k ks => simp at hvl
    | cons v vs ih =>
      cases ks with
      | nil => simp at hvl
      | cons k ks =>
        obtain ⟨b, k', rfl, e1, e2⟩ := this 0 v rfl
        simp at e1; subst e1
        obtain ⟨bs, rfl, t⟩ := ih ks (fun j v e => by simpa using this (j + 1) v (by simpa using e)) (by simpa using hvl)
        exact ⟨b :: bs, rfl, .cons e2 t⟩
  have hbl : bs.length = ks.length := Paired.length tb
  have I2 : Inv X pins σ H { s with heap := h', toks := tk } := I.kept (t' := tk) kp
  refine ⟨by simpa [hbl] using few, fun i j => lexI (ks.getD i []) (ks.getD j []), tuples' true, ordI _, fun h2 h'' kp2 => asks_ints hbl (by simpa using h2) fun j b k e1 e2 => ⟨?_, hne k (List.mem_of_getElem? e2)⟩, fun p e h'' o1 o2 kp2 at2 => ?_⟩
  · exact (I2.tupI (paired_get' tb e1 e2)).at fun o e => kp2 b o e
  · rw [List.length_map, hbl] at o1 o2
    have pw := up_pairwise o1 o2
    refine ⟨.ref h'.objs.size, _, I2.laid (t' := tk) (a := h'.objs.size) (o := .lst ((p.toList.map fun i => bs.getD i 0).map V.ref)) kp2 (Nat.le_refl _) ⟨?_, (p.toList.map fun i => bs.getD i 0).map Value.ref, e, vals_refs _, ?_⟩, rfl, q _ (p.toList.map fun i => bs.getD i 0) (p.toList.map fun i => ks.getD i []) (I2.hok.fresh (Nat.le_refl _)) (of_map o1 rfl _) ?_ (tups_out tb o1 rfl)⟩
    · simp; rw [o1.size, sizeLine_eq]; omega
    · rw [at2]
      congr 3
      unfold outOf
      rw [List.map_map]
      congr 1
      refine List.map_congr_left fun i hi => ?_
      have lt : i < ks.length := List.mem_range.mp ((Array.perm_iff_toList_perm.mp o1).mem_iff.mp hi)
      simp [hbl ▸ lt]
    · exact List.pairwise_map.mpr pw
end
end L2

set_option Elab.async false
set_option linter.all false
set_option maxRecDepth 100000
set_option maxHeartbeats 4000000
namespace L2
open PySem PySem.W PySem.Spec PyProof.Rows DI Srt
/-! ### d.items(), d.values(): views, known by their object -/
def itV (v d : Addr) : HO := .ext fun h => h.IsItemsView v d
def vaV (v d : Addr) : HO := .ext fun h => h.IsValuesView v d
section
variable {X : Cx} {o : Expr} {to : TE} {apos cpos : Pos}
def tItems (to : TE) : TE := fun σ H Q => to σ H fun x H1 => ∃ d kvs, x = .ref d ∧ Rd H1 d (.dT kvs) ∧ ∀ v, H1 v = none → Q (.ref v) (upd H1 v (itV v d))
def tValues (to : TE) : TE := fun σ H Q => to σ H fun x H1 => ∃ d kvs, x = .ref d ∧ Rd H1 d (.dT kvs) ∧ ∀ v, H1 v = none → Q (.ref v) (upd H1 v (vaV v d))
theorem pe_items (ho : PE X o to) (hbase : attributeBase o "items" X.env (eval o X.env) = eval o X.env := by rfl) (hline : (apos.endLine == cpos.line) = true := by rfl) : PE X (.Call (.Attribute o "items" apos) [] [] cpos) (tItems to) := by
  intro pins s σ H Q I h
  refine wpAny_Call_method0_late hbase hline (thn (ho pins s σ H _ I h) fun v s1 ⟨x, H1, I1, r1, d, kvs, ex, hd, q⟩ => ?_)
  subst ex
  cases r1
  obtain ⟨lo, z, nd, es, ep, de, en⟩ := I1.entT hd
  obtain ⟨ob, gb, xb, db⟩ := id de
  refine ⟨"dict", "dict.items", F.plainAttrs_dict, F.slot_dict_items, F.type_dict_items, de.ty, (fun b e => by cases e; exact ⟨ob, gb, xb.2.1⟩), Calls.callWith_builtin rfl (PySem.evalArgs_none ?_)⟩
  refine call_meetsIn F.slot_dict_items de.ty F.entry_dict_items (F.args_dict_items_1 _) (view_items lo) ⟨⟨es, ep, de⟩, .ref s1.heap.objs.size, _, I1.laid (t' := s1.toks) (o := itV s1.heap.objs.size d) (fun b u e => Heap.get?_push_of_some _ e) (Nat.le_refl _) ⟨⟨_, Heap.get?_push_size _ rfl, rfl, rfl⟩, ⟨_, Heap.get?_push_size _ rfl⟩, fun h1 h2 ⟨o, e, r⟩ k => ⟨o, k o e, r⟩⟩, rfl, q _ (I1.hok.fresh (Nat.le_refl _))⟩
theorem pe_values (ho : PE X o to) (hbase : attributeBase o "values" X.env (eval o X.env) = eval o X.env := by rfl) (hline : (apos.endLine == cpos.line) = true := by rfl) : PE X (.Call (.Attribute o "values" apos) [] [] cpos) (tValues to) := by
  intro pins s σ H Q I h
  refine wpAny_Call_method0_late hbase hline (thn (ho pins s σ H _ I h) fun v s1 ⟨x, H1, I1, r1, d, kvs, ex, hd, q⟩ => ?_)
  subst ex
  cases r1
  obtain ⟨lo, z, nd, es, ep, de, en⟩ := I1.entT hd
  obtain ⟨ob, gb, xb, db⟩ := id de
  refine ⟨"dict", "dict.values", F.plainAttrs_dict, F.slot_dict_values, F.type_dict_values, de.ty, (fun b e => by cases e; exact ⟨ob, gb, xb.2.1⟩), Calls.callWith_builtin rfl (PySem.evalArgs_none ?_)⟩
  refine call_meetsIn F.slot_dict_values de.ty F.entry_dict_values (F.args_dict_values_1 _) (view_values lo) ⟨⟨es, ep, de⟩, .ref s1.heap.objs.size, _, I1.laid (t' := s1.toks) (o := vaV s1.heap.objs.size d) (fun b u e => Heap.get?_push_of_some _ e) (Nat.le_refl _) ⟨⟨_, Heap.get?_push_size _ rfl, rfl, rfl⟩, ⟨_, Heap.get?_push_size _ rfl⟩, fun h1 h2 ⟨o, e, r⟩ k => ⟨o, k o e, r⟩⟩, rfl, q _ (I1.hok.fresh (Nat.le_refl _))⟩
end
section
variable {X : Cx}
/-- len(d) -/
theorem call_lenT : CallR X (.builtin "len") (fun xs H Q => ∃ d kvs, xs = [.ref d] ∧ Rd H d (.dT kvs) ∧ Q (.int kvs.length) H) := by
  intro pins s σ H xs us Q I r h
  obtain ⟨d, kvs, rfl, hd, q⟩ := h
  obtain ⟨u, rfl, ru⟩ := vals1 r
  obtain rfl : u = Value.ref d := ru
  obtain ⟨lo, z, nd, es, ep, de, en⟩ := I.entT hd
  obtain ⟨ob, gb, xb, db⟩ := id de
  rw [sizeLine_eq] at z
  have ml : MeetsIn X.prog X.w (Builtin.«dict.__len__» ⟨[.ref d], []⟩) (fun _ R s' => (∃ es ep, DEnt s'.heap d es ep ∧ es.size = kvs.length) ∧ R (.ok (.ret (.int kvs.length s'.toks))) { s' with toks := s'.toks + 1 }) :=
    .of_wp fun A R s' ⟨⟨es, ep, ⟨ob, gb, xb, db⟩, hz⟩, h⟩ => by
      show wpAny _ _ (dictSize d >>= _) _ _ s'
      unfold dictSize
      refine wpAny_bind (wpAny_bind (wpAny_dictEntries gb db (wpAny_pure ?_)))
      show wpAny _ _ (Builtin.Dict.pendingCount d >>= _) _ _ s'
      refine wpAny_bind (wpAny_pendingCount_other lo (wpAny_ret_mkInt ?_))
      rw [Nat.add_zero, hz]; exact h
  refine Calls.call_function_entry kind_len plain_len entry_len (args_len1 _) ?_
  unfold Builtin.«len»
  refine wpAny_bind (m := oneArg "len" _) (wpAny_pure (wpAny_bind (m := callSpecial? (.ref d) (Str.ofString "__len__")) (wpAny_callSpecial?_slot (name := Str.ofString "__len__") de.ty F.slot_dict_len (call_meetsIn F.slot_dict_len de.ty F.entry_dict_len (F.args_dict_len_1 _) ml ⟨⟨es, ep, de, en.size⟩, ?_⟩))))
  show wpAny _ _ _ _ _ { s with toks := s.toks + 1 }
  refine wpAny_bind (wpAny_holding (wpAny_pure (wpAny_bind (wpAny_letGo ?_))))
  show wpAny _ _ (if ((kvs.length : Nat) : Int) < 0 then _ else _) _ _ _
  rw [if_neg (by omega)]
  show wpAny _ _ (if ((kvs.length : Nat) : Int) ≥ 2 ^ 63 then _ else _) _ _ _
  rw [if_neg (by omega)]
  exact wpAny_bind (wpAny_mkInt (wpAny_pure ⟨_, rfl, .int kvs.length, H, I.tok _, ⟨_, rfl⟩, q⟩))
/-- sum(d.values()), ints -/
theorem preSum_list (f : Nat → Int) (ns : List Int) (h : ∀ i, i < ns.length → f i = ns.getD i 0) : PySem.preSum f ns.length = ns.sum := by
  have : ∀ m, m ≤ ns.length → PySem.preSum f m = (ns.take m).sum := by
    intro m
    induction m with
    | zero => intro _; simp [PySem.preSum]
    | succ m ih =>
      intro hm
      show PySem.preSum f m + f m = _
      have hl : m < ns.length := by omega
      rw [ih (by omega), h m hl, List.take_succ_eq_append_getElem hl, List.sum_append]
      simp [hl]
  have := this ns.length (Nat.le_refl _)
  rwa [List.take_length] at this
theorem call_sumV (hc : X.calm = true) : CallR X (.builtin "sum") (fun xs H Q => ∃ v d kvs ns, xs = [.ref v] ∧ H v = some (vaV v d) ∧ Rd H d (.dT kvs) ∧ kvs.map (·.2) = iv ns ∧ Q (.int ns.sum) H) := by
  intro pins s σ H xs us Q I r h
  obtain ⟨v, d, kvs, ns, rfl, hv, hd, en', q⟩ := h
  obtain ⟨u, rfl, ru⟩ := vals1 r
  obtain rfl : u = Value.ref v := ru
  obtain ⟨lo, z, nd, es, ep, de, en⟩ := I.entT hd
  obtain ⟨vw, _, _⟩ := (show ObjOk X.prog X.w H s.heap v (vaV v d) from I.hok v _ hv)
  have hl : kvs.length = ns.length := by have := congrArg List.length en'; simpa using this
  have hes := en.size
  refine PySem.call_sum_walkG (val_iter vw de ⟨_, _, _, _, _, _, (fun i => ns.getD i 0), rfl, walks_val (A := X.A.in1) (show X.A.in1.handled = none from I.ok.hd hc) _ d (Nat.ne_of_lt de.lt) es ep, ⟨⟨_, Heap.get?_push_size _ rfl, rfl, rfl⟩, de.at fun o e => Heap.get?_push_of_some _ e⟩, ?_, ?_, fun h' tk t' kp => ?_⟩)
  · intro b hb
    show b < (s.heap.push _).objs.size
    rw [Heap.size_push]
    simp only [List.mem_cons, List.not_mem_nil, or_false] at hb
    rcases hb with rfl | rfl
    · exact Nat.lt_succ_self _
    · exact Nat.lt_succ_of_lt de.lt
  · rintro i w' ⟨e, he, rfl⟩
    obtain ⟨kv, b, w1, w2, w3, w4⟩ := en.at he
    have hk : (kvs.map (·.2))[i]? = some kv.2 := by rw [List.getElem?_map, w1]; rfl
    rw [en', List.getElem?_map, Option.map_eq_some_iff] at hk
    obtain ⟨n, hn1, hn2⟩ := hk
    rw [← hn2] at w4
    obtain ⟨t, ht⟩ := (show ∃ t, e.val = Value.int n t from w4)
    refine ⟨t, ?_⟩
    rw [ht]; congr 1
    show n = ns.getD i 0
    rw [List.getD_eq_getElem?_getD, hn1]; rfl
  · have e : PySem.preSum (fun i => ns.getD i 0) es.size = ns.sum := by rw [hes, hl]; exact preSum_list _ ns fun i _ => rfl
    rw [e]
    refine ⟨.int ns.sum, H, I.kept (t' := tk) fun b o g => kp b o ?_ (Heap.get?_push_of_some _ g), ⟨_, rfl⟩, q⟩
    intro hm
    rw [List.mem_singleton.mp hm] at g
    exact absurd (Heap.lt_size g) (Nat.lt_irrefl _)
/-- list(d) -/
def rListK : List V → Hp → VK → Prop := fun xs H Q => ∃ (d : Addr) (kvs : List (List Key × V)) (ks : List (List Int)), xs = [.ref d] ∧ Rd H d (.dT kvs) ∧ kvs.map (·.1) = ks.map (fun k => k.map Sum.inl) ∧
  ∀ (q : Addr) (bs : List Addr), H q = none → TupsAt H bs ks → Q (.ref q) (upd H q (.lst (bs.map V.ref)))
theorem keys_at {H : Hp} {kvs : List (List Key × V)} {es : Array DictEntry} {ks : List (List Int)} (en : EntT H kvs es) (ek : kvs.map (·.1) = ks.map (fun k => k.map Sum.inl)) {vs : List Value} (lv : vs.length = es.size) (pv : ∀ (j : Nat) v, vs[j]? = some v → IsKey es j v) :
    ∃ bs : List Addr, vs = bs.map Value.ref ∧ TupsAt H bs ks := by
  have hkl : kvs.length = ks.length := by have := congrArg List.length ek; simpa using this
  have hes := en.size
  have this : ∀ (j : Nat) v, vs[j]? = some v → ∃ b k, v = .ref b ∧ ks[j]? = some k ∧ H b = some (.tup (iv k)) := fun j v e => by
    obtain ⟨e', he, rfl⟩ := pv j v e
    obtain ⟨kv, b, w1, w2, w3, _⟩ := en.at he
    have hk : (kvs.map (·.1))[j]? = some kv.1 := by rw [List.getElem?_map, w1]; rfl
    rw [ek, List.getElem?_map, Option.map_eq_some_iff] at hk
    obtain ⟨k, hk1, hk2⟩ := hk
    exact ⟨b, k, w2, hk1, keys_inl (by rw [hk2]; exact w3)⟩
  have hvl : vs.length = ks.length := by omega
  clear pv lv hes en ek hkl
  induction vs generalizing ks with
  | nil => cases ks with
    | nil => exact ⟨[], rfl, .nil⟩
    | cons k ks => simp at hvl
  | cons v vs ih =>
    cases ks with
    | nil => simp at hvl
    | cons k ks =>
      obtain ⟨b, k', rfl, e1, e2⟩ := this 0 v rfl
      simp at e1; subst e1
      obtain ⟨bs, rfl, t⟩ := ih (ks := ks) (fun j v e => by simpa using this (j + 1) v (by simpa using e)) (by simpa using hvl)
      exact ⟨b :: bs, rfl, .cons e2 t⟩
theorem call_listK (hc : X.calm = true) : CallR X (.type "list") rListK := by
  intro pins s σ H xs us Q I r h
  obtain ⟨d, kvs, ks, rfl, hd, ek, q⟩ := h
  obtain ⟨u, rfl, ru⟩ := vals1 r
  obtain rfl : u = Value.ref d := ru
  obtain ⟨lo, z, nd, es, ep, de, en⟩ := I.entT hd
  have hkl : kvs.length = ks.length := by have := congrArg List.length ek; simpa using this
  have hes := en.size
  refine kdl_call (src_dict lo) (I.ok.hd hc) de (by omega) fun h' tk acc c kp at2 it => ?_
  obtain ⟨bs, e1, tb⟩ := keys_at en ek (vs := acc.toList) (by rw [Array.length_toList]; exact it.1) fun j v e => it.2 j v (by rw [← Array.getElem?_toList]; exact e)
  have hbl : bs.length = ks.length := Paired.length tb
  refine ⟨.ref s.heap.objs.size, _, I.laid (t' := tk) (a := s.heap.objs.size) (o := .lst (bs.map V.ref)) kp (Nat.le_refl _) ⟨by simp; omega, bs.map Value.ref, c, vals_refs _, ?_⟩, rfl, q _ bs (I.hok.fresh (Nat.le_refl _)) tb⟩
  rw [at2, ← e1]
end
end L2

set_option Elab.async false
set_option linter.all false
set_option maxRecDepth 100000
set_option maxHeartbeats 4000000
namespace L2
open PySem PySem.W PySem.Spec PyProof.Rows DI Srt
section
variable {X : Cx} {pins : List (Addr × Obj)} {σ : St} {H : Hp} {s : Shared} {A : Around} {E : Value → Shared → Prop} {v d : Addr} {es : Array DictEntry} {ep : Nat} {kvs : List (List Key × V)}
theorem collect_items {Q : List Value → Shared → Prop} (hh : A.handled = none) (I : Inv X pins σ H s) (vw : s.heap.IsItemsView v d) (de : DEnt s.heap d es ep) (en : EntT H kvs es) (few : es.size ≤ sizeLine)
    (fin : ∀ (s' : Shared) H' as, Inv X pins σ H' s' → Prd H H' kvs as → as.length = kvs.length → Q (as.map Value.ref) s') : wpAny (model X.prog X.w) A (collect (.ref v)) Q E s := by
  unfold collect
  refine wpAny_bind (wpAny_runValue (codeAny_builtin PySem.F.entry_proto_collect ?_))
  rw [Around.under_plainId PySem.F.plain_proto_collect _]
  show wpAny _ A.in1 (newList [] >>= fun l => again (.builtin "list.__iadd__" ⟨[l, .ref v], []⟩)) _ _ s
  refine wpAny_bind (wpAny_newObj_type (wpAny_pure ⟨plainId_quiet PySem.F.plain_list_iadd _, codeAny_builtin PySem.F.entry_list_iadd ?_⟩))
  rw [Around.under_plainId PySem.F.plain_list_iadd _]
  show wpAny _ A.in1 (Builtin.List.listExtendWith (.ref s.heap.objs.size) (.ref v) (.ref s.heap.objs.size)) _ _ { s with heap := s.heap.push { cls := .type "list", data := .seq #[] } }
  have gS : (s.heap.push { cls := .type "list", data := .seq #[] }).get? s.heap.objs.size = some { cls := .type "list", data := .seq #[] } := Heap.get?_push_size _ rfl
  have vw1 : (s.heap.push { cls := .type "list", data := .seq #[] }).IsItemsView v d := let ⟨o, e, r⟩ := vw; ⟨o, Heap.get?_push_of_some _ e, r⟩
  have de1 : DEnt (s.heap.push { cls := .type "list", data := .seq #[] }) d es ep := de.at fun o e => Heap.get?_push_of_some _ e
  have nv : s.heap.objs.size ≠ v := let ⟨o, e, _⟩ := vw; Nat.ne_of_gt (Heap.lt_size e)
  have zS : (s.heap.push { cls := .type "list", data := .seq #[] }).objs.size = s.heap.objs.size + 1 := Heap.size_push ..
  unfold Builtin.List.listExtendWith
  refine wpAny_bind (wpAny_typeOf (T := "dict_items") (s := { s with heap := s.heap.push { cls := .type "list", data := .seq #[] } }) (Heap.IsItemsView.typeIs (s := { s with heap := s.heap.push { cls := .type "list", data := .seq #[] } }) vw1) ?_)
  simp only [show Builtin.List.listSameRef (.ref s.heap.objs.size) (.ref v) = false by simp [Builtin.List.listSameRef, nv], show (Value.type "dict_items" == Value.type "list") = false by decide, show (Value.type "dict_items" == Value.type "tuple") = false by decide, Bool.or_false, Bool.false_eq_true, if_false]
  refine wpAny_bind (item_iter (s := { s with heap := s.heap.push { cls := .type "list", data := .seq #[] } }) vw1 de1 fun h2 ii k2 => ?_)
  have k2' : ∀ b o, s.heap.get? b = some o → h2.get? b = some o := fun b o e => k2 b o (Heap.get?_push_of_some _ e)
  have gS2 := k2 _ _ gS
  refine wpAny_bind (wpAny_holding (kdx_hint (let ⟨o, e, c, _⟩ := vw1; ⟨o, k2 _ _ e, c⟩) ?_))
  have loop : ∀ (h3 : Heap) (c : Nat), (∀ b o, b ≠ s.heap.objs.size → h2.get? b = some o → h3.get? b = some o) → h3.get? s.heap.objs.size = some { cls := .type "list", data := .seq #[] c } →
      codeAny (model X.prog X.w) A (.builtin "list.extend.loop" ⟨[.ref s.heap.objs.size, .ref (s.heap.push { cls := .type "list", data := .seq #[] }).objs.size, .ref s.heap.objs.size], []⟩) (fun (x : Result) s' => match x with
        | .ok (.ret v) => wpAny (model X.prog X.w) A (match v with
          | .ref a => do
            let o ← load a
            match o.data with
            | .seq xs _ => pure xs.toList
            | _ => unsupported "internal:collect"
          | _ => unsupported "internal:collect") Q E s'
        | .ok _ => False
        | .error e => E e s') { s with heap := h3 } := by
    intro h3 c k3 g3
    have k3' : ∀ b o, s.heap.get? b = some o → h3.get? b = some o := fun b o e => k3 b o (Nat.ne_of_lt (Heap.lt_size e)) (k2' b o e)
    have I3 : Inv X pins σ H { s with heap := h3 } := I.kept (t' := s.toks) k3'
    have ii3 : ItAt h3 (s.heap.push { cls := .type "list", data := .seq #[] }).objs.size d 0 es.size ep := ⟨_, _, _, _, k3 _ _ (by rw [zS]; omega) ii, .inl rfl⟩
    refine items_loop (X := X) (pins := pins) (σ := σ) (H0 := H) (kvs := kvs) (S := s.heap.objs.size) (it := (s.heap.push { cls := .type "list", data := .seq #[] }).objs.size) hh en few (Nat.ne_of_lt (by rw [zS]; exact Nat.lt_succ_self _)) (Nat.ne_of_lt de.lt) (Nat.ne_of_lt (Nat.lt_of_lt_of_le de.lt (by rw [zS]; omega))) (fun s' H' as acc c' I' pr la ea gS' nS' => ?_)
      es.size 0 _ H [] #[] c (by omega) (Nat.zero_le _) I3 (I.fpOk (by rw [zS]; omega) (I.hok.fresh (by rw [zS]; omega))) (I.fpOk (Nat.le_refl _) (I.hok.fresh (Nat.le_refl _))) ii3 (de.at fun o e => k3' d o e) ⟨Same.refl _, List.nodup_nil, (fun a ha => nomatch ha), (fun j a e => by simp at e)⟩ rfl rfl g3
    show wpAny _ A (load s.heap.objs.size >>= _) _ _ s'
    refine wpAny_bind (wpAny_load gS' (wpAny_pure ?_))
    rw [ea]
    exact fin s' H' as I' pr la
  refine wpAny_ite_split (fun _ => ?_) (fun _ => wpAny_pure ⟨plainId_quiet PySem.F.plain_extend_loop _, loop h2 0 (fun b o _ e => e) gS2⟩)
  refine wpAny_bind (wpAny_rule (wpAny_bind ?_))
  show wpAny _ _ (updateSeq s.heap.objs.size (·.push .none) >>= fun _ => updateSeq s.heap.objs.size (·.pop)) _ _ _
  refine wpAny_bind (wpAny_updateSeq gS2 rfl ?_)
  have gS3 := Heap.get?_update_self (Obj.mapSeq (·.push Value.none)) gS2 rfl
  refine wpAny_updateSeq (hz := by seq_fits) gS3 rfl ?_
  have gS4 := Heap.get?_update_self (Obj.mapSeq (·.pop)) gS3 rfl
  refine wpAny_pure ⟨plainId_quiet PySem.F.plain_extend_loop _, loop _ _ (fun b o hb e => ?_) gS4⟩
  exact (Heap.get?_update_other _ _ (Ne.symm hb)).trans ((Heap.get?_update_other _ _ (Ne.symm hb)).trans e)
end
end L2

set_option Elab.async false
set_option linter.all false
set_option maxRecDepth 100000
set_option maxHeartbeats 4000000
namespace L2
open PySem PySem.W PySem.Spec PyProof.Rows DI Srt
/-- pairs (key, thing), by their addresses -/
abbrev PrsAt (H H' : Hp) (as : List Addr) (rs : List (List Int × V)) : Prop := Paired (fun a r => ∃ b, H b = some (.tup (iv r.1)) ∧ H a = none ∧ H' a = some (.tup [.ref b, r.2])) as rs
/-- keys that are tuples of ints -/
abbrev kI (kw : List Int × V) : List Key × V := (kw.1.map Sum.inl, kw.2)
theorem asks_pairs {prog : Program} {w : World} {A : Around} {s : Shared} {as : List Addr} {ks : List (List Int)} (hu : A.units < cLine) (hl : as.length = ks.length) (h2 : 2 ≤ as.length) (nd : ks.Nodup)
    (ht : ∀ (j : Nat) a k, as[j]? = some a → ks[j]? = some k → ∃ o b u n, s.heap.get? a = some o ∧ o.cls = .type "tuple" ∧ o.data = .seq #[.ref b, u] n ∧ TupI s.heap b k) :
    Asks prog w A (as.map Value.ref) (fun i j => lexI (ks.getD i []) (ks.getD j [])) (tuples' false) s where
  kind := fun E Q h => by
    obtain ⟨fs, hf, hi, hn⟩ : ∃ fs : List Value, KatTups s.heap (as.map Value.ref) fs ∧ (∀ v ∈ fs, ∃ b k, v = .ref b ∧ TupI s.heap b k) ∧ fs.length = as.length := by
      clear h2 h nd
      induction as generalizing ks with
      | nil => exact ⟨[], .nil, (fun v hv => nomatch hv), rfl⟩
      | cons a as ih =>
        cases ks with
        | nil => simp at hl
        | cons k ks =>
          obtain ⟨fs, h1, h2, h3⟩ := ih (ks := ks) (by simpa using hl) fun j b' k' e1 e2 => ht (j + 1) b' k' (by simpa using e1) (by simpa using e2)
          obtain ⟨o, b, u, n, e, c, d, ti⟩ := ht 0 a k rfl rfl
          refine ⟨.ref b :: fs, .cons e c d rfl h1, fun v hv => ?_, by simp [h3]⟩
          rcases List.mem_cons.mp hv with rfl | hv
          · exact ⟨_, _, rfl, ti⟩
          · exact h2 v hv
    refine kat_kind (T := .type "tuple") hf (by omega) (fun v hv => ?_) (by decide) h
    obtain ⟨b, k, rfl, o, items, n, e, c, _⟩ := hi v hv
    exact c ▸ (show Looks _ s.heap (typeOf (.ref b)) o.cls from (Looks.ld e).andThen .now)
  less := fun i j ⟨hi, hj, hne⟩ Q h => by
    rw [List.length_map] at hi hj
    have g1 : (as.map Value.ref).getD i Value.none = .ref as[i] := by simp [hi]
    have g2 : (as.map Value.ref).getD j Value.none = .ref as[j] := by simp [hj]
    have l1 : i < ks.length := by omega
    have l2 : j < ks.length := by omega
    have k1 : ks.getD i [] = ks[i] := by simp [l1]
    have k2 : ks.getD j [] = ks[j] := by simp [l2]
    rw [g1, g2]
    rw [k1, k2] at h
    obtain ⟨o1, b1, u1, n1, e1, c1, d1, t1⟩ := ht i _ _ (by simp [hi] : as[i]? = some as[i]) (by simp [l1] : ks[i]? = some ks[i])
    obtain ⟨o2, b2, u2, n2, e2, c2, d2, t2⟩ := ht j _ _ (by simp [hj] : as[j]? = some as[j]) (by simp [l2] : ks[j]? = some ks[j])
    refine less_pairs e1 d1 e2 d2 t1 t2 (fun z => hne ?_) hu h
    have pw := List.pairwise_iff_getElem.mp nd
    rcases Nat.lt_trichotomy i j with x | x | x
    · exact absurd z (pw i j l1 l2 x)
    · exact x
    · exact absurd z.symm (pw j i l2 l1 x)
/-- sorted(d.items()) -/
def rSortedI : List V → Hp → VK → Prop := fun xs H Q => ∃ (v d : Addr) (kws : List (List Int × V)), xs = [.ref v] ∧ H v = some (itV v d) ∧ Rd H d (.dT (kws.map kI)) ∧ kws.length < 64 ∧
  ∀ (H' : Hp) (q : Addr) (as : List Addr) (rs : List (List Int × V)), Same H H' → H' q = none → rs.Perm kws → Rising (rs.map (·.1)) → PrsAt H H' as rs → Q (.ref q) (upd H' q (.lst (as.map V.ref)))
section
variable {X : Cx}
theorem nodup_inl {ks : List (List Int)} (h : (ks.map fun k => k.map (Sum.inl : Int → Key)).Nodup) : ks.Nodup := by
  induction ks with
  | nil => exact List.nodup_nil
  | cons k ks ih =>
    rw [List.map_cons, List.nodup_cons] at h
    exact List.nodup_cons.mpr ⟨fun z => h.1 (List.mem_map_of_mem z), ih h.2⟩
theorem call_sortedI (hc : X.calm = true) (hu : X.A.units + 2 < cLine) : CallR X (.builtin "sorted") rSortedI := by
  intro pins s σ H xs us Q I r h
  obtain ⟨v, d, kws, rfl, hv, hd, few, q⟩ := h
  obtain ⟨u, rfl, ru⟩ := vals1 r
  obtain rfl : u = Value.ref v := ru
  obtain ⟨lo, z, nd, es, ep, de, en⟩ := I.entT hd
  obtain ⟨vw, _, _⟩ := (show ObjOk X.prog X.w H s.heap v (itV v d) from I.hok v _ hv)
  have hes := en.size
  rw [List.length_map] at hes
  refine sorted_by (collect_items (A := X.A.in1) (show X.A.in1.handled = none from I.ok.hd hc) I vw de en (by rw [hes, sizeLine_eq]; omega) fun s' H' as I' pr la => ?_)
  rw [List.length_map] at la
  have nk : (kws.map (·.1)).Nodup := by
    have e : ((kws.map kI).map (·.1)) = (kws.map (·.1)).map fun k => k.map (Sum.inl : Int → Key) := by rw [List.map_map, List.map_map]; rfl
    rw [e] at nd
    exact nodup_inl nd
  have at_ : ∀ (j : Nat) a, as[j]? = some a → ∃ r b, kws[j]? = some r ∧ H b = some (.tup (iv r.1)) ∧ H a = none ∧ H' a = some (.tup [.ref b, r.2]) := fun j a e => by
    obtain ⟨kv, b, w1, w2, w3⟩ := pr.at_ j a e
    rw [List.getElem?_map, Option.map_eq_some_iff] at w1
    obtain ⟨r, w4, w5⟩ := w1
    subst w5
    exact ⟨r, b, w4, keys_inl w2, pr.new a (List.mem_of_getElem? e), w3⟩
  have hkl : as.length = (kws.map (·.1)).length := by simp [la]
  refine ⟨by simpa [la] using few, fun i j => lexI ((kws.map (·.1)).getD i []) ((kws.map (·.1)).getD j []), tuples' false, ordI _, fun h2 h'' kp2 => asks_pairs hu hkl (by simpa using h2) nk fun j a k e1 e2 => ?_, fun p e h'' o1 o2 kp2 at2 => ?_⟩
  · obtain ⟨r, b, w1, w2, w3, w4⟩ := at_ j a e1
    rw [List.getElem?_map, w1] at e2
    cases e2
    obtain ⟨z, its, rv, o, ge, ce, n, de', _⟩ := (show ObjOk X.prog X.w H' s'.heap a (.tup [.ref b, r.2]) from I'.hok a _ w4)
    cases rv with
    | cons ra rr => cases rr with
      | cons rb rr => cases rr; cases ra; exact ⟨o, b, _, n, kp2 a o ge, ce, de', (I'.tupI (pr.same _ _ w2)).at fun o e => kp2 b o e⟩
  · rw [List.length_map, la] at o1 o2
    have pw := up_pairwise o1 o2
    have lt : ∀ i ∈ p.toList, i < kws.length := fun i hi => List.mem_range.mp ((Array.perm_iff_toList_perm.mp o1).mem_iff.mp hi)
    refine ⟨.ref s'.heap.objs.size, _, I'.laid (t' := s'.toks) (a := s'.heap.objs.size) (o := .lst ((p.toList.map fun i => as.getD i 0).map V.ref)) kp2 (Nat.le_refl _) ⟨?_, (p.toList.map fun i => as.getD i 0).map Value.ref, e, vals_refs _, ?_⟩, rfl,
      q H' _ (p.toList.map fun i => as.getD i 0) (p.toList.map fun i => kws.getD i ([], .non)) pr.same (I'.hok.fresh (Nat.le_refl _)) (of_map o1 rfl _) ?_ ?_⟩
    · simp; rw [o1.size, sizeLine_eq]; omega
    · rw [at2]
      congr 3
      unfold outOf
      rw [List.map_map]
      congr 1
      refine List.map_congr_left fun i hi => ?_
      have := lt i hi
      have : i < as.length := by omega
      simp [this]
    · unfold Rising
      rw [List.map_map]
      refine List.pairwise_map.mpr (pw.imp_of_mem fun {i j} hi hj h => ?_)
      have l1 := lt i hi
      have l2 := lt j hj
      simpa [l1, l2] using h
    · refine paired_at (by simp) fun j x y e1 e2 => ?_
      rw [List.getElem?_map, Option.map_eq_some_iff] at e1 e2
      obtain ⟨i, hi, rfl⟩ := e1
      obtain ⟨i', hi', rfl⟩ := e2
      rw [hi] at hi'; cases hi'
      have l1 := lt i (List.mem_of_getElem? hi)
      have l2 : i < as.length := by omega
      obtain ⟨r, b, w1, w2, w3, w4⟩ := at_ i (as.getD i 0) (by simp [l2])
      have : kws.getD i ([], .non) = r := by rw [List.getD_eq_getElem?_getD, w1]; rfl
      rw [this]
      exact ⟨b, w2, w3, w4⟩
end
end L2

set_option Elab.async false
set_option linter.all false
set_option maxRecDepth 100000
set_option maxHeartbeats 4000000
namespace L2
open PySem PySem.W PySem.Spec PyProof.Rows DI Srt
/-! ### walks whose yields are known: one set of readings for all iterators -/
structure Yields (J : It) (n : Nat) (f : Nat → Hp → V → Hp → Prop) (ok : Hp → Prop) : Prop where
  go : ∀ i H, i < n → ok H → J.go i H
  yld : ∀ i H x H', i < n → ok H → J.yld i H x H' → f i H x H'
  stop : ∀ H, ok H → J.stop n H
section
variable {J : It} {n : Nat} {f : Nat → Hp → V → Hp → Prop} {ok : Hp → Prop}
theorem for_Y (Y : Yields J n f ok) {g : TG} {tb : TS} {D : Ends} {σ : St} {H : Hp} (Pv : Nat → St → Hp → Prop) (h0 : Pv 0 σ H) (hok : ∀ i σ H, Pv i σ H → ok H)
    (hs : ∀ i x σ H H', i < n → Pv i σ H → f i H x H' → g x σ H' fun σ2 H2 => tb { D with nx := Pv (i + 1), ct := Pv (i + 1), bk := D.nx } σ2 H2) (hd : ∀ σ H, Pv n σ H → D.nx σ H) :
    ∃ W : Nat → Nat → St → Hp → Prop, (∃ m, W 0 m σ H) ∧ ∀ i m σ H, W i m σ H →
      (J.stop i H ∧ D.nx σ H) ∨ (J.go i H ∧ ∃ N : St → Hp → Prop, (∀ σ' H', N σ' H' → ∃ m', m' < m ∧ W (i + 1) m' σ' H') ∧ ∀ x H', J.yld i H x H' → g x σ H' fun σ2 H2 => tb { D with nx := N, ct := N, bk := D.nx } σ2 H2) := by
  refine ⟨fun i m σ H => m = n - i ∧ i ≤ n ∧ Pv i σ H, ⟨n, by simp, Nat.zero_le _, h0⟩, ?_⟩
  rintro i m σ H ⟨rfl, hi, p⟩
  have o := hok i σ H p
  by_cases hlt : i < n
  · exact .inr ⟨Y.go i H hlt o, Pv (i + 1), fun σ' H' p' => ⟨n - (i + 1), by omega, rfl, hlt, p'⟩, fun x H' y => hs i x σ H H' hlt p (Y.yld i H x H' hlt o y)⟩
  · have e : i = n := by omega
    subst e
    exact .inl ⟨Y.stop H o, hd σ H p⟩
theorem loopW_Y (Y : Yields J n f ok) {g : TG} {tc : TT} {tb : TB} {σ : St} {H : Hp} {Q : St → Hp → Prop} (Pv : Nat → St → Hp → Prop) (h0 : Pv 0 σ H) (hok : ∀ i σ H, Pv i σ H → ok H)
    (hs : ∀ i x σ' H' H'', i < n → Pv i σ' H' → f i H' x H'' → ∀ R : St → Hp → Prop, (∀ a b, Pv (i + 1) a b → R a b) → g x σ' H'' fun σ2 H3 => tc σ2 H3 fun b H4 => if b = true then tb σ2 H4 R else R σ2 H4) (hd : ∀ σ' H', Pv n σ' H' → Q σ' H') : LoopW J g tc tb σ H Q := by
  refine ⟨fun i m σ' H' => m = n - i ∧ i ≤ n ∧ Pv i σ' H', ⟨n, by simp, Nat.zero_le _, h0⟩, ?_⟩
  rintro i m σ' H' ⟨rfl, hi, p⟩
  have o := hok i σ' H' p
  by_cases hlt : i < n
  · exact .inr ⟨Y.go i H' hlt o, fun x H2 y => hs i x σ' H' H2 hlt p (Y.yld i H' x H2 hlt o y) _ fun a b pv => ⟨n - (i + 1), by omega, rfl, hlt, pv⟩⟩
  · have e : i = n := by omega
    subst e
    exact .inl ⟨Y.stop H' o, hd σ' H' p⟩
/-- [e for x in ..] and [e for x in .. if c] -/
theorem comp_Y (Y : Yields J n f ok) {g : TG} {tc : TT} {te : TE} {H : Hp} {R : Addr → Hp → Prop} {σ1 : St} (Pv : Addr → Nat → List V → St → Hp → Prop) (hn : n ≤ 100000) (hp0 : ∀ p, H p = none → Pv p 0 [] σ1 (upd H p (.lst [])))
    (hok : ∀ p i ys σ' H', H p = none → Pv p i ys σ' H' → ok H')
    (hs : ∀ p i ys σ' H' x H'', H p = none → i < n → ys.length ≤ i → Pv p i ys σ' H' → H' p = some (.lst ys) → f i H' x H'' → ∀ (Q1 : V → St → Hp → Prop) (Q2 : St → Hp → Prop), (∀ v σ2 H5, H5 p = some (.lst ys) → Pv p (i + 1) (ys ++ [v]) σ2 (upd H5 p (.lst (ys ++ [v]))) → Q1 v σ2 H5) → (∀ σ2 H4, H4 p = some (.lst ys) → Pv p (i + 1) ys σ2 H4 → Q2 σ2 H4) →
      g x σ' H'' fun σ2 H3 => tc σ2 H3 fun b H4 => if b = true then te σ2 H4 fun v H5 => Q1 v σ2 H5 else Q2 σ2 H4)
    (q : ∀ p ys σ' H', H p = none → Pv p n ys σ' H' → H' p = some (.lst ys) → ys.length ≤ n → R p H') :
    ∀ p, H p = none → ∃ W : Nat → Nat → List V → St → Hp → Prop, (∃ m, W 0 m [] σ1 (upd H p (.lst []))) ∧ ∀ i m ys σ' H', W i m ys σ' H' →
      (J.stop i H' ∧ R p H') ∨ (J.go i H' ∧ ∀ x H2, J.yld i H' x H2 → g x σ' H2 fun σ2 H3 => tc σ2 H3 fun b H4 => if b = true then te σ2 H4 fun v H5 => ys.length < sizeLine ∧ H5 p = some (.lst ys) ∧ (∃ m', m' < m ∧ W (i + 1) m' (ys ++ [v]) σ2 (upd H5 p (.lst (ys ++ [v]))))
        else ∃ m', m' < m ∧ W (i + 1) m' ys σ2 H4) := by
  intro p hp
  refine ⟨fun i m ys σ' H' => m = n - i ∧ i ≤ n ∧ ys.length ≤ i ∧ Pv p i ys σ' H' ∧ H' p = some (.lst ys), ⟨n, by simp, Nat.zero_le _, Nat.zero_le _, hp0 p hp, upd_same⟩, ?_⟩
  rintro i m ys σ' H' ⟨rfl, hi, hl, pv, hp'⟩
  have o := hok p i ys σ' H' hp pv
  by_cases hlt : i < n
  · refine .inr ⟨Y.go i H' hlt o, fun x H2 y => hs p i ys σ' H' x H2 hp hlt hl pv hp' (Y.yld i H' x H2 hlt o y) _ _ (fun v σ2 H5 h5 pv5 => ⟨by rw [sizeLine_eq]; omega, h5, n - (i + 1), by omega, rfl, hlt, by simp; omega, pv5, upd_same⟩) fun σ2 H4 h4 pv4 => ⟨n - (i + 1), by omega, rfl, hlt, by omega, pv4, h4⟩⟩
  · have e : i = n := by omega
    subst e
    exact .inl ⟨Y.stop H' o, q p ys σ' H' hp pv hp' hl⟩
end
theorem yields_lst {K : PySem.W.Frag} {a : Addr} {xs : List V} : Yields (Itl K a) xs.length (fun i H x H' => H' = H ∧ xs[i]? = some x) (fun H => H a = some (.lst xs)) :=
  ⟨fun i H hi o => ⟨xs, xs[i], SqL.of o, by simp [hi]⟩, fun i H x H' hi o ⟨e, y⟩ => ⟨e, y xs (SqL.of o)⟩, fun H o => ⟨xs, SqL.of o, Nat.le_refl _⟩⟩
/-! ### a dict with tuples as keys, walked -/
theorem Inv.freezeT {X : Cx} {pins : List (Addr × Obj)} {σ : St} {H : Hp} {s : Shared} {d : Addr} {kvs : List (List Key × V)} (I : Inv X pins σ H s) (h : H d = some (.dT kvs)) : ∃ o, Inv X pins σ (upd H d (.frz o (.dT kvs))) s := by
  obtain ⟨z, y, xs, r, o, es, ep, h1, h2⟩ := (show ObjOk X.prog X.w H s.heap d (.dT kvs) from I.hok d _ h)
  refine ⟨o, d_write (t' := s.toks) I (by rw [h]; exact True.intro) ⟨rfl, fun _ _ => rfl⟩ ⟨o, h1⟩ ⟨h1, z, y, xs, KT.keeps r fun b ys e => ?_, o, es, ep, h1, h2⟩⟩
  rw [upd_ne (ne_of e h (fun z => nomatch z))]; exact e
theorem Inv.thawT {X : Cx} {pins : List (Addr × Obj)} {σ : St} {H : Hp} {s : Shared} {d : Addr} {o : Obj} {kvs : List (List Key × V)} (I : Inv X pins σ H s) (h : H d = some (.frz o (.dT kvs))) (hn : ∀ o u, X.H₀ d ≠ some (.frz o u)) : Inv X pins σ (upd H d (.dT kvs)) s := by
  have ne : ∀ {b : Addr} {u : HO}, H b = some u → u ≠ .frz o (.dT kvs) → b ≠ d := fun e z => ne_of e h z
  have nd : ∀ {b : Addr}, H b = none → b ≠ d := fun {b} e z => by subst z; rw [h] at e; cases e
  have B := I.base
  refine ⟨I.ok, I.os, I.bare, ⟨B.keep, B.slot, fun b o' e n hx => ?_, B.there, fun b xs e => ?_, fun b o' u e => ?_, fun b ps e => ?_⟩, I.loc, I.cell, ?_, fun x c e => ?_, fun p hp => ?_, fun b u e => ?_, I.len⟩
  · have := B.free b o' e n hx; rw [upd_ne (nd this)]; exact this
  · have := B.tups b xs e; rw [upd_ne (ne this (fun z => nomatch z))]; exact this
  · have := B.frzs b o' u e
    rw [upd_ne (fun z => by subst z; exact hn o' u e)]; exact this
  · obtain ⟨m, q⟩ := B.tbls b ps e
    exact ⟨m, by rw [upd_ne (ne q (fun z => nomatch z))]; exact q⟩
  · rw [upd_ne (nd I.free)]; exact I.free
  · have := I.freeC x c e; rw [upd_ne (nd this)]; exact this
  · obtain ⟨p1, p2, p3⟩ := I.pin p hp
    exact ⟨p1, by rw [upd_ne (nd p2)]; exact p2, p3⟩
  · have st : ∀ {b : Addr} {u : HO}, ObjOk X.prog X.w H s.heap b u → ObjOk X.prog X.w (upd H d (.dT kvs)) s.heap b u := fun x =>
      x.stay (fun _ _ _ q => q) (fun c q => by rw [upd_ne (ne q (fun z => nomatch z))]; exact q) (fun c xs q => by rw [upd_ne (ne q (fun z => nomatch z))]; exact q) fun c ob q => by rw [upd_ne (ne q (fun z => by cases z))]; exact q
    by_cases hb : b = d
    · subst hb; rw [upd_same] at e; cases e
      exact st (I.hok b _ h).2
    · rw [upd_ne hb] at e; exact st (I.hok b u e)
theorem Inv.notFrz {X : Cx} {pins : List (Addr × Obj)} {σ : St} {H : Hp} {s : Shared} {d : Addr} {kvs : List (List Key × V)} (I : Inv X pins σ H s) (h : H d = some (.dT kvs)) : ∀ o u, X.H₀ d ≠ some (.frz o u) := fun o u e => by
  have := I.base.frzs d o u e
  rw [h] at this; cases this
/-- a statement that walks the dict at d, an expression that does: behind it the dict is as ahead of it -/
def sThaw (ts : TS) : TS := fun D σ H => ∃ d kvs, H d = some (.dT kvs) ∧ ts { D with nx := fun σ' H' => ∃ o kvs', H' d = some (.frz o (.dT kvs')) ∧ D.nx σ' (upd H' d (.dT kvs')) } σ H
theorem ps_thaw {X : Cx} {st : Stmt} {ts : TS} (h : PS X st ts) : PS X st (sThaw ts) := by
  intro pins s σ H D I ⟨d, kvs, hd, q⟩
  have nf := I.notFrz hd
  refine thn (h pins s σ H _ I q) fun f s1 q1 => ?_
  cases f with
  | next =>
    obtain ⟨σ1, H1, I1, o, kvs', hz, q2⟩ := q1
    exact ⟨σ1, _, I1.thawT hz nf, q2⟩
  | cont => exact q1
  | brk => exact q1
  | ret v => exact q1
def tThaw (te : TE) : TE := fun σ H Q => ∃ d kvs, H d = some (.dT kvs) ∧ te σ H fun v H' => ∃ o kvs', H' d = some (.frz o (.dT kvs')) ∧ Q v (upd H' d (.dT kvs'))
theorem pe_thaw {X : Cx} {e : Expr} {te : TE} (h : PE X e te) : PE X e (tThaw te) := by
  intro pins s σ H Q I ⟨d, kvs, hd, q⟩
  have nf := I.notFrz hd
  refine thn (h pins s σ H _ I q) fun u s1 ⟨v, H1, I1, r1, o, kvs', hz, q2⟩ => ?_
  exact ⟨v, _, I1.thawT hz nf, r1, q2⟩
def ItkT (d : Addr) (o : Obj) : It :=
  ⟨fun i H => ∃ kvs kv, H d = some (.frz o (.dT kvs)) ∧ kvs[i]? = some kv, fun i H v H' => H' = H ∧ ∃ b kv, v = .ref b ∧ H b = some (.tup (kv.1.map kV)) ∧ ∀ kvs, H d = some (.frz o (.dT kvs)) → kvs[i]? = some kv, fun i H => ∃ kvs, H d = some (.frz o (.dT kvs)) ∧ kvs.length ≤ i⟩
def ItiT (d : Addr) (o : Obj) : It :=
  ⟨fun i H => ∃ kvs kv, H d = some (.frz o (.dT kvs)) ∧ kvs[i]? = some kv, fun i H v H' => ∃ p b kv, v = .ref p ∧ H p = none ∧ H b = some (.tup (kv.1.map kV)) ∧ H' = upd H p (.tup [.ref b, kv.2]) ∧ ∀ kvs, H d = some (.frz o (.dT kvs)) → kvs[i]? = some kv, fun i H => ∃ kvs, H d = some (.frz o (.dT kvs)) ∧ kvs.length ≤ i⟩
/-- the frozen dict's entries -/
theorem Inv.entZ {X : Cx} {pins : List (Addr × Obj)} {σ : St} {H : Hp} {s : Shared} {d : Addr} {o : Obj} {kvs : List (List Key × V)} {es : Array DictEntry} {ep : Nat} (I : Inv X pins σ H s) (h : H d = some (.frz o (.dT kvs))) (ho : o.data = .dict es ep) : DEnt s.heap d es ep ∧ EntT H kvs es := by
  obtain ⟨g, z, y, xs, r, o', es', ep', h1, h2, h3, h4, h5⟩ := I.hok d _ h
  rw [g] at h1; cases h1
  rw [ho] at h3; cases h3
  refine ⟨⟨o, g, h2, ho⟩, ?_⟩
  unfold EntT
  rw [h4]
  clear h4 h5 z h
  induction r with
  | nil => exact .nil
  | @cons p q ps qs hq t ih => exact .cons ⟨q.2.1, rfl, hq.2.1, hq.2.2⟩ ih
theorem turn_keysT {P : Program} {w : World} {K : PySem.W.Frag} {tg : Expr} {it d : Addr} {o : Obj} {es : Array DictEntry} {ep : Nat} (hod : o.data = .dict es ep) : Turn P w K tg (ItkT d o) [it] it (fun i h => h.IsKeyIter it d i es.size ep) where
  mem := by simp
  obj := fun i h st b hb => by
    obtain ⟨o, e, c, d⟩ := st
    rw [List.mem_singleton.mp hb]
    exact ⟨o, e, fun v z => by rw [d] at z; cases z⟩
  keep := fun i h h' st k => st.at fun o e => k it (by simp) o e
  item := by
    intro X hP hw hK hc i pins s σ H E I hf st hg
    subst hP hw hK
    obtain ⟨kvs, kv, hH, hx⟩ := hg
    obtain ⟨de, en⟩ := I.entZ hH hod
    have li : i < es.size := by rw [en.size]; exact (List.getElem?_eq_some_iff.mp hx).1
    obtain ⟨kv', b, w1, w2, w3, w4⟩ := en.at (Array.getElem?_eq_getElem li)
    rw [hx] at w1; cases w1
    obtain ⟨f0, f1, f2, f3, f4, f5⟩ := hf it (by simp)
    refine key_next st de li fun h' st' sb => ⟨_, rfl, ?_⟩
    have I1 : Inv X pins σ H { s with heap := h' } := I.turned (t' := s.toks) (fun b o hb e => (sb.2 b hb).trans e) f0 f1 f3 f4 f5
    obtain ⟨oi, e, c, dd⟩ := id st'
    exact go_of (s := { s with heap := h' }) e c dd (by decide) ⟨.ref b, H, I1, by rw [w2]; rfl, ⟨rfl, b, kv, rfl, w3, fun ks hk => by rw [hH] at hk; cases hk; exact hx⟩, st', fun b hb => (hf b hb).1⟩
  done := by
    intro X hP hw hK hc i pins s σ H E I hf st hg
    subst hP hw hK
    obtain ⟨kvs, hH, hx⟩ := hg
    obtain ⟨de, en⟩ := I.entZ hH hod
    obtain ⟨f0, f1, f2, f3, f4, f5⟩ := hf it (by simp)
    exact key_end (I.ok.hd hc) st de (by rw [en.size]; exact hx) fun h' eb => ⟨rfl, I.turned (t' := s.toks) (fun b o hb e => eb b o hb e) f0 f1 f3 f4 f5⟩
  self := fun A i s Q E st h => wpAny_pyIter_keyiter st h
theorem turn_itemsT {P : Program} {w : World} {K : PySem.W.Frag} {elts : List Expr} {c : Nat} {pos : Pos} {it d : Addr} {o : Obj} {es : Array DictEntry} {ep : Nat} (hod : o.data = .dict es ep) : Turn P w K (.Tuple elts c pos) (ItiT d o) [it] it (fun i h => ItAt h it d i es.size ep) where
  mem := by simp
  obj := fun i h st b hb => by
    obtain ⟨_, _, _, _, e, _⟩ := st
    rw [List.mem_singleton.mp hb]
    exact ⟨_, e, fun v z => by cases z⟩
  keep := fun i h h' st k => st.at fun o e => k it (by simp) o e
  item := by
    intro X hP hw hK hc i pins s σ H E I hf st hg
    subst hP hw hK
    obtain ⟨kvs, kv, hH, hx⟩ := hg
    obtain ⟨de, en⟩ := I.entZ hH hod
    have li : i < es.size := by rw [en.size]; exact (List.getElem?_eq_some_iff.mp hx).1
    obtain ⟨kv', b, w1, w2, w3, w4⟩ := en.at (Array.getElem?_eq_getElem li)
    rw [hx] at w1; cases w1
    have lt : s.heap.objs.size ≠ it := let ⟨_, _, _, _, e, _⟩ := st; Nat.ne_of_gt (Heap.lt_size e)
    refine item_next st de li fun h' st' T1 sz k1 => ⟨_, rfl, ?_⟩
    refine item_go (s := { s with heap := h' }) st' fun h2 st2 sb => ?_
    have T2 := (sb.2 _ lt).trans T1
    refine ⟨.ref s.heap.objs.size, upd H s.heap.objs.size (.tup [.ref b, kv.2]), I.turnedNew (t' := s.toks) hf (fun b u hb e => (sb.2 _ (by simpa using hb)).trans (k1 b u (by simpa using hb) e)) (Nat.le_refl _) ⟨by show 2 ≤ _; decide, [es[i].key, es[i].val], .cons (by rw [w2]; rfl) (.cons w4 .nil), _, T2, rfl, _, rfl, rfl⟩, rfl, ⟨_, b, kv, rfl, I.hok.fresh (Nat.le_refl _), w3, rfl, fun ks hk => by rw [hH] at hk; cases hk; exact hx⟩, st2, fun b hb => ?_⟩
    rw [List.mem_singleton.mp hb, upd_ne (Ne.symm lt)]
    exact (hf it (by simp)).1
  done := by
    intro X hP hw hK hc i pins s σ H E I hf st hg
    subst hP hw hK
    obtain ⟨kvs, hH, hx⟩ := hg
    obtain ⟨de, en⟩ := I.entZ hH hod
    exact item_end (I.ok.hd hc) st de (by rw [en.size]; exact hx) fun h' eb => ⟨rfl, I.turnedL (t' := s.toks) hf fun c o hc' q => eb c o (by simpa using hc') q⟩
  self := fun A i s Q E st h => by
    obtain ⟨f0, f1, ok, ov, e, _⟩ := st
    have hT : s.TypeIs (.ref it) "dict_itemiterator" := ⟨_, e, rfl⟩
    refine wpAny_pyIter_slot hT F.slot_dict_itemiterator_iter (wpAny_call_entry F.slot_dict_itemiterator_iter hT entry_itemiter_iter ?_ (F.args_dict_itemiterator_iter_1 _))
    show wpAny _ _ (ret (.ref it)) _ _ s
    exact wpAny_pure ⟨_, rfl, "dict_itemiterator", _, hT, F.slot_dict_itemiterator_next.lookup, h⟩
def iKeysT (to : TE) : TI := fun σ H R => to σ H fun x H1 => ∃ d kvs, x = .ref d ∧ ((H1 d = some (.dT kvs) ∧ ∀ o, R (ItkT d o) (upd H1 d (.frz o (.dT kvs)))) ∨ ∃ o, H1 d = some (.frz o (.dT kvs)) ∧ R (ItkT d o) H1)
def iItemsT (to : TE) : TI := fun σ H R => to σ H fun x H1 => ∃ d kvs, x = .ref d ∧ ((H1 d = some (.dT kvs) ∧ ∀ o, R (ItiT d o) (upd H1 d (.frz o (.dT kvs)))) ∨ ∃ o, H1 d = some (.frz o (.dT kvs)) ∧ R (ItiT d o) H1)
theorem Inv.frozenT {X : Cx} {pins : List (Addr × Obj)} {σ : St} {H : Hp} {s : Shared} {d : Addr} {kvs : List (List Key × V)} {R : Obj → Hp → Prop} (I : Inv X pins σ H s) (q : (H d = some (.dT kvs) ∧ ∀ o, R o (upd H d (.frz o (.dT kvs)))) ∨ ∃ o, H d = some (.frz o (.dT kvs)) ∧ R o H) :
    ∃ o H2, Inv X pins σ H2 s ∧ H2 d = some (.frz o (.dT kvs)) ∧ R o H2 := by
  rcases q with ⟨e, q⟩ | ⟨o, e, q⟩
  · obtain ⟨o, I2⟩ := I.freezeT e
    exact ⟨o, _, I2, upd_same, q o⟩
  · exact ⟨o, H, I, e, q⟩
theorem pi_keysT {X : Cx} {tg o : Expr} {to : TE} (ho : PE X o to) : PI X tg o (iKeysT to) := by
  intro pins s σ H R I h
  refine thn (ho pins s σ H _ I h) fun v s1 ⟨x, H1, I1, r1, d, kvs, ex, q1⟩ => ?_
  subst ex
  cases r1
  obtain ⟨ob, H2, I2, e2, q⟩ := I1.frozenT (R := fun o H => R (ItkT d o) H) q1
  obtain ⟨lo, z, nd, es, ep, ⟨ob', g1, x1, d1⟩, en⟩ := I2.entT (.inr ⟨ob, e2⟩)
  obtain ⟨g2, _⟩ := I2.hok d _ e2
  rw [g2] at g1; cases g1
  refine key_iter lo ⟨ob, g2, x1, d1⟩ ?_
  refine ⟨s1.heap.objs.size, [s1.heap.objs.size], _, _, H2, rfl, I2.kept (t' := s1.toks) fun b u e => Heap.get?_push_of_some _ e, turn_keysT d1, ⟨_, Heap.get?_push_size _ rfl, rfl, rfl⟩, fun b hb => ?_, q⟩
  rw [List.mem_singleton.mp hb]
  exact I2.fpOk (Nat.le_refl _) (I2.hok.fresh (Nat.le_refl _))
theorem pi_itemsT {X : Cx} {elts : List Expr} {c : Nat} {tpos apos cpos : Pos} {o : Expr} {to : TE} (ho : PE X o to) (hbase : attributeBase o "items" X.env (eval o X.env) = eval o X.env := by rfl) (hline : (apos.endLine == cpos.line) = true := by rfl) :
    PI X (.Tuple elts c tpos) (.Call (.Attribute o "items" apos) [] [] cpos) (iItemsT to) := by
  intro pins s σ H R I h
  refine wpAny_Call_method0_late hbase hline (thn (ho pins s σ H _ I h) fun v s1 ⟨x, H1, I1, r1, d, kvs, ex, q1⟩ => ?_)
  subst ex
  cases r1
  obtain ⟨ob, H2, I2, e2, q⟩ := I1.frozenT (R := fun o H => R (ItiT d o) H) q1
  obtain ⟨lo, z, nd, es, ep, ⟨ob', g1, x1, d1⟩, en⟩ := I2.entT (.inr ⟨ob, e2⟩)
  obtain ⟨g2, _⟩ := I2.hok d _ e2
  rw [g2] at g1; cases g1
  have de : DEnt s1.heap d es ep := ⟨ob, g2, x1, d1⟩
  refine ⟨"dict", "dict.items", F.plainAttrs_dict, F.slot_dict_items, F.type_dict_items, de.ty, (fun b e => by cases e; exact ⟨ob, g2, x1.2.1⟩), Calls.callWith_builtin rfl (PySem.evalArgs_none ?_)⟩
  refine call_meetsIn F.slot_dict_items de.ty F.entry_dict_items (F.args_dict_items_1 _) (view_items lo) ⟨⟨es, ep, de⟩, ?_⟩
  have I3 : Inv X pins σ H2 { s1 with heap := s1.heap.push { cls := .type "dict_items", data := .fields #[.ref d] } } := I2.kept (t' := s1.toks) fun b u e => Heap.get?_push_of_some _ e
  show wpAny _ _ (pyIter (.ref s1.heap.objs.size)) _ _ { s1 with heap := s1.heap.push { cls := .type "dict_items", data := .fields #[.ref d] } }
  refine item_iter (s := { s1 with heap := s1.heap.push { cls := .type "dict_items", data := .fields #[.ref d] } }) ⟨_, Heap.get?_push_size _ rfl, rfl, rfl⟩ (de.at fun o e => Heap.get?_push_of_some _ e) fun h' ii k' => ?_
  refine ⟨_, [(s1.heap.push { cls := .type "dict_items", data := .fields #[.ref d] }).objs.size], _, _, H2, rfl, I3.kept (t' := s1.toks) k', turn_itemsT d1, ⟨_, _, _, _, ii, .inl rfl⟩, fun b hb => ?_, q⟩
  rw [List.mem_singleton.mp hb]
  exact I3.fpOk (Nat.le_refl _) (I3.hok.fresh (Nat.le_refl _))
theorem yields_keysT {d : Addr} {o : Obj} {kws : List (List Int × V)} : Yields (ItkT d o) kws.length (fun i H x H' => H' = H ∧ ∃ b kw, x = .ref b ∧ H b = some (.tup (iv kw.1)) ∧ kws[i]? = some kw) (fun H => H d = some (.frz o (.dT (kws.map kI)))) :=
  ⟨fun i H hi h => ⟨_, kI kws[i], h, by simp [hi]⟩, fun i H x H' hi h ⟨e, b, kv, e1, e2, e3⟩ => by
    have := e3 _ h
    rw [List.getElem?_map, Option.map_eq_some_iff] at this
    obtain ⟨kw, h1, h2⟩ := this
    subst h2
    exact ⟨e, b, kw, e1, keys_inl e2, h1⟩, fun H h => ⟨_, h, by simp⟩⟩
theorem yields_itemsT {d : Addr} {o : Obj} {kws : List (List Int × V)} : Yields (ItiT d o) kws.length (fun i H x H' => ∃ p b kw, x = .ref p ∧ H p = none ∧ H b = some (.tup (iv kw.1)) ∧ H' = upd H p (.tup [.ref b, kw.2]) ∧ kws[i]? = some kw) (fun H => H d = some (.frz o (.dT (kws.map kI)))) :=
  ⟨fun i H hi h => ⟨_, kI kws[i], h, by simp [hi]⟩, fun i H x H' hi h ⟨p, b, kv, e1, e2, e3, e4, e5⟩ => by
    have := e5 _ h
    rw [List.getElem?_map, Option.map_eq_some_iff] at this
    obtain ⟨kw, h1, h2⟩ := this
    subst h2
    exact ⟨p, b, kw, e1, e2, keys_inl e3, e4, h1⟩, fun H h => ⟨_, h, by simp⟩⟩
end L2

set_option Elab.async false
set_option linter.all false
set_option maxRecDepth 100000
set_option maxHeartbeats 4000000
namespace L2
open PySem PySem.Spec PyProof.Rows
/-! ### dict comprehensions with tuples as keys -/
def tEmitT (p : Addr) (tk tv : TE) : TB := fun σ H Q => tk σ H fun k H1 => tv σ H1 fun v H2 => ∃ (b : Addr) (key : List Key) (kvs : List (List Key × V)), k = .ref b ∧ H2 b = some (.tup (key.map kV)) ∧ H2 p = some (.dT kvs) ∧ kvs.length ≤ 100000 ∧ Q σ (upd H2 p (.dT (putK kvs key v)))
theorem pb_emitT {X : Cx} {p : Addr} {kx vx : Expr} {tk tv : TE} (hu : X.A.units + 1 < cLine) (hk : PE X kx tk) (hv : PE X vx tv) : PB X p (emitD kx vx) (tEmitT p tk tv) := by
  intro pins s σ H Q I h
  show wpAny _ _ (do let kv ← eval kx X.env; let vv ← holding [kv] (eval vx X.env); standAt { kx.pos with endLine := vx.pos.endLine, endCol := vx.pos.endCol }; holding [kv, vv] (dictSet p kv vv)) _ _ s
  refine wpAny_bind (thn (hk pins s σ H _ I h) fun u s1 ⟨k, H1, I1, r1, h1⟩ => ?_)
  refine wpAny_bind (wpAny_holding (thn (hv pins s1 σ H1 _ I1 h1) fun u' s2 ⟨v, H2, I2, r2, b, key, kvs, ek, eb, hH, hz, q⟩ => ?_))
  subst ek
  cases r1
  refine wpAny_bind (wpAny_standAt (wpAny_holding ?_))
  obtain ⟨z, hd, xs, rel, dd⟩ := dt_of I2.hok hH
  have hvl : kvs.length = xs.length := Paired.length rel
  refine wpAny_dictSet_heap (knd := tupleKind (mixKind X.prog X.w)) (by show X.A.units < cLine; omega) (key_of I2.hok eb) dd (fun h' dd' hs => ?_) (by rw [sizeLine_eq]; omega)
  obtain ⟨qo, es, ep, hq, h2, h3, h4, _, h5⟩ := dd'
  refine ⟨σ, _, d_write (ob := .dT (putK kvs key v)) I2 (by rw [hH]; exact True.intro) hs ⟨qo, hq⟩ ⟨?_, hd, _, (rel.put key eb r2).keeps fun c ys ec => ?_, qo, es, ep, hq, h2, h3, h4, h5⟩, q⟩
  · have := length_putK kvs key v
    rw [sizeLine_eq]; omega
  · rw [upd_ne (ne_of ec hH (fun z => nomatch z))]
    exact ec
def tDCompT (σ0 : St → St) (wi : TI) (g : TG) (tc : TT) (tk tv : TE) : TE := fun σ H Q => wi σ H fun J H1 => ∀ p, H1 p = none → LoopW J g tc (tEmitT p tk tv) (σ0 σ) (upd H1 p (.dT [])) fun _ H' => Q (.ref p) H'
theorem comp_coreT {X : Cx} {kx vx tg iter : Expr} {ifs : List Expr} {scope : Scope} {pos pos2 : Pos} {wi : TI} {g : TG} {tc : TT} {tk tv : TE} {N : List Str} {σ0 : St → St} {pins : List (Addr × Obj)} {s : Shared} {σ : St} {H : Hp} {Q : VK} {use : Option (Value → Sem Unit)} {QQ : Value → Shared → Prop}
    (hu : X.A.units + 1 < cLine) (hc : X.calm = true) (hxe : ∀ e s, X.xe e s → False) (hcell : ∀ y ∈ scope.names, y.2 ≠ .cell) (hkind : scope.kind = .function) (hnames : ∀ y ∈ scope.names, y.2 = .local → scope.names.lookup y.1 = some .local)
    (hfr : ∀ y ∈ scope.names, y.2 = .free → X.env.kindOf y.1 = some .cell ∨ X.env.kindOf y.1 = some .free) (hσ : Sees X scope N σ0)
    (hi : PI X tg iter wi)
    (hg : ∀ cl C s H ex, PG (cxComp X scope N cl C s H ex) tg g) (ht : ∀ cl C s H ex, PTs (cxComp X scope N cl C s H ex) ifs tc) (hk : ∀ cl C s H ex, PE (cxComp X scope N cl C s H ex) kx tk) (hv : ∀ cl C s H ex, PE (cxComp X scope N cl C s H ex) vx tv)
    (hs : ∀ x, foldedSetIterable iter X.env x = pure x) (I : Inv X pins σ H s) (h : tDCompT σ0 wi g tc tk tv σ H Q)
    (hend : ∀ (p C : Addr) (H' : Hp) (s' : Shared) (m : Str → Option Value) (f : Flow), Inv X pins σ H' s' → FpOk X pins H' C → s'.heap.Ns C m → (∀ h', Heap.SameBut C s'.heap h' → Inv X pins σ H' { s' with heap := h' }) → Q (.ref p) H' →
      compPost (model X.prog X.w) X.A X.xe use QQ (.ref p) C (.ok f) s') :
    wpAny (model X.prog X.w) X.A (comprehension (.DictComp kx vx [⟨tg, iter, ifs, 0⟩] scope pos) scope X.env pos2 newDict false (eval iter X.env) use) QQ X.xe s := by
  obtain ⟨cl, hclos, hcl1, hcl2⟩ := closure_of (env := X.env) (scope := scope) fun y hy hf => I.ok.has y.1 (hfr y hy hf)
  refine wpAny_comprehension_free (use := use) rfl hs hclos hkind hnames (thn (hi pins s σ H _ I h) fun v s1 h1 => thn h1 fun itv s2 h2 => ?_)
  obtain ⟨it, fp, tn, J, H2, e, I2, T, st2, f2, h3⟩ := h2
  subst e
  have hpn : H2 s2.heap.objs.size = none := I2.hok.fresh (Nat.le_refl _)
  have h4 := h3 _ hpn
  refine wpAny_newDict0 ?_
  generalize hp : s2.heap.objs.size = p at *
  have I3 : Inv X pins σ (upd H2 p (.dT [])) { s2 with heap := s2.heap.push { cls := .type "dict", data := .dict #[] } } := by
    have q := dt_empty (P := X.prog) (w := X.w) (H := upd H2 s2.heap.objs.size (.dT [])) s2.heap I2.big
    rw [hp] at q
    exact I2.laid (a := p) (o := .dT []) (t' := s2.toks) (fun b u q => Heap.get?_push_of_some _ q) (Nat.le_of_eq hp) q
  have hf3 : ∀ b ∈ fp, FpOk X pins (upd H2 p (.dT [])) b := fun b hb => by
    obtain ⟨o, ho, _⟩ := T.obj _ _ st2 b hb
    have : b ≠ p := by rw [← hp]; exact Nat.ne_of_lt (Heap.lt_size ho)
    exact ⟨by rw [upd_ne this]; exact (f2 b hb).1, (f2 b hb).2⟩
  generalize hs3 : ({ s2 with heap := s2.heap.push { cls := .type "dict", data := .dict #[] } } : Shared) = s3 at *
  have st3 : tn 0 s3.heap := by rw [← hs3]; exact T.keep _ _ _ st2 fun b _ o e => Heap.get?_push_of_some _ e
  generalize hH3 : upd H2 p (.dT []) = H3 at *
  refine wpAny_newFunctionEnv hcell (by intro y hy; simp at hy) (fun h1 hns1 hsb1 => ?_) hkind
  generalize hC : s3.heap.objs.size = C at *
  have keep : ∀ b u, s3.heap.get? b = some u → h1.get? b = some u := fun b u q =>
    hsb1.extBut b u (by rw [← hC]; exact Nat.ne_of_lt (Heap.lt_size q)) (Heap.get?_push_of_some _ q)
  have fpC : ∀ b ∈ fp, b ≠ C := fun b hb => by
    obtain ⟨o, ho, _⟩ := T.obj _ _ st3 b hb
    rw [← hC]; exact Nat.ne_of_lt (Heap.lt_size ho)
  have hCn : H3 C = none := I3.hok.fresh (Nat.le_of_eq hC)
  -- the block's own invariant, at its entry
  have ok' : (cxComp X scope N cl C s3 H3 fp).Ok := by
    refine ⟨I3.mod, hkind, I3.ok.glob, I3.ok.blt, Nat.le_of_eq hC, fun x y c a b => I3.ok.inj x y c (hcl1 x c a) (hcl1 y c b), fun x hx => ?_, fun _ _ z => Bool.noConfusion (show false = true from z), I3.ok.hd, I3.ok.frames, .inl rfl, fun b hb => ⟨fpC b hb, fun x c q => (hf3 b hb).2.2.2.2.1 x c (hcl1 x c q)⟩,
      I3.bs, Nat.le_trans I3.ok.bsz I3.sz, fun b o e hb => ?_, fun b hb z => ?_, I3.stack, I3.stkFree⟩
    · have hx' : (relabel scope X.env).names.lookup x = some .cell ∨ (relabel scope X.env).names.lookup x = some .free := hx
      rcases hx' with z | z
      · rcases lookup_relabel_mem z with y | ⟨_, y⟩
        · exact absurd rfl (hcell _ y)
        · exact hcl2 x y
      · rcases lookup_relabel_mem z with y | ⟨y, _⟩
        · exact hcl2 x y
        · cases y
    · rcases (hf3 b hb).2.2.2.1 with z | z
      · exact I3.ok.noex b o e z
      · exact absurd (Nat.lt_of_lt_of_le (Heap.lt_size e) (Nat.le_trans I3.ok.bsz z)) (Nat.lt_irrefl _)
    · rcases List.mem_cons.mp (I3.stkSub b z) with q | q
      · exact (hf3 b hb).2.1 q
      · exact (hf3 b hb).2.2.1 q
  have J0 : Inv (cxComp X scope N cl C s3 H3 fp) [] (σ0 σ) H3 { s3 with heap := h1, toks := s3.toks + ([] : List (Str × Value)).length } := by
    refine ⟨ok', rfl, I3.bare, Un.kept keep, ⟨_, hns1, fun i x v a b c => ?_⟩, fun x c q => ?_, hCn, fun x c q => I3.freeC x c (hcl1 x c q), fun q hq => absurd (show q ∈ ([] : List (Addr × Obj)) from hq) (by simp), I3.hok.kept keep, (hσ σ).1⟩
    · obtain ⟨hf, j, hj, hv⟩ := (hσ σ).2 i x v a b
      have hm := mem_of_lookupF hf
      obtain ⟨m, hn, hl⟩ := id I3.loc
      have hk := hfr _ hm rfl
      have hvis : Vis X.env.scope x := hk.elim (fun z => .inr (.inl z)) fun z => .inr (.inr z)
      obtain ⟨u, r, lk⟩ := hl j x v hj hv hvis
      refine ⟨u, r, .inr ⟨lookup_relabel_free hf, ?_⟩⟩
      obtain ⟨c', hc'⟩ := hcl2 x hm
      refine ⟨c', hc', ?_⟩
      have hx := hcl1 x c' hc'
      rcases lk with ⟨kl, _⟩ | ⟨_, c2, e2, o2, ho2, hd2⟩
      · rcases hk with z | z <;> rw [kl] at z <;> cases z
      · rw [hx] at e2
        cases e2
        exact ⟨o2, keep _ _ ho2, hd2⟩
    · obtain ⟨v, o, ho, hd⟩ := I3.cell x c (hcl1 x c q)
      exact ⟨v, o, keep _ _ ho, hd⟩
  have st4 : tn 0 h1 := T.keep _ _ _ st3 fun b _ o e => keep b o e
  have stat : ∀ {H' : Hp}, (∀ b ∈ fp, H' b = none) → ∀ b ∈ fp, FpOk (cxComp X scope N cl C s3 H3 fp) [] H' b := fun hn b hb =>
    ⟨hn b hb, fpC b hb, fun z => ok'.exfs b hb z, .inl hb, fun x c q => (hf3 b hb).2.2.2.2.1 x c (hcl1 x c q), fun q hq => absurd (show q ∈ ([] : List (Addr × Obj)) from hq) (by simp)⟩
  -- back to the def
  have back : ∀ {σ' : St} {H' : Hp} {s' : Shared} {pl : List (Addr × Obj)}, Inv (cxComp X scope N cl C s3 H3 fp) pl σ' H' s' → ∀ h', Heap.SameBut C s'.heap h' → Inv X pins σ H' { s' with heap := h' } := fun {σ' H' s' pl} J h' hsb => by
    have I5 : Inv X pins σ H' s' := Inv.call' (ch := fp) I3 J.os J.base J.hok J.bare fun b hb => ⟨(hf3 b hb).2.2.2.1, (hf3 b hb).2.1, (hf3 b hb).2.2.2.2.1, (hf3 b hb).2.2.2.2.2⟩
    refine Inv.turned (it := C) (t' := s'.toks) I5 (fun b o hb e => hsb.extBut b o hb e) J.free (fun z => ?_) (.inr ?_) (fun x c q z => ?_) fun q hq z => ?_
    · exact absurd (show X.env.locals < C by rw [← hC]; exact I3.lt) (by rw [z]; exact Nat.lt_irrefl _)
    · rw [← hC]; exact I3.sz
    · obtain ⟨v, o, ho, _⟩ := I3.cell x c q
      have := Heap.lt_size ho
      rw [z, hC] at this
      exact Nat.lt_irrefl _ this
    · have := Heap.lt_size (I3.pin q hq).1
      rw [z, hC] at this
      exact Nat.lt_irrefl _ this
  have ff : ∀ b ∈ fp, FpOk (cxComp X scope N cl C s3 H3 fp) [] H3 b := stat fun b hb => (hf3 b hb).1
  have loop : codeAny (model X.prog X.w) X.A (.compLoop (.DictComp kx vx [⟨tg, iter, ifs, 0⟩] scope pos) 0 (.ref it) (.ref p) (compEnvC scope cl C X.env)) (compPost (model X.prog X.w) X.A X.xe use QQ (.ref p) C) { s3 with heap := h1, toks := s3.toks + ([] : List (Str × Value)).length } := by
    refine loop_ofD (X := cxComp X scope N cl C s3 H3 fp) (Q := fun _ H' => Q (.ref p) H') (turn_d _ _ _ _ _ _ _ _ _ _) hc hxe T (hg cl C s3 H3 fp) (ht cl C s3 H3 fp) (pb_emitT hu (hk cl C s3 H3 fp) (hv cl C s3 H3 fp)) J0 st4 ff h4 ?_
    intro s4 σ' H' I4 q
    obtain ⟨m, hn, _⟩ := id I4.loc
    have I5 : Inv X pins σ H' s4 := Inv.call' (ch := fp) I3 I4.os I4.base I4.hok I4.bare fun b hb => ⟨(hf3 b hb).2.2.2.1, (hf3 b hb).2.1, (hf3 b hb).2.2.2.2.1, (hf3 b hb).2.2.2.2.2⟩
    exact hend p C H' s4 m _ I5 (I3.fpOk (Nat.le_of_eq hC) I4.free) hn (fun h' hsb => back I4 h' hsb) q
  exact codeAny_compStart_dict loop (T.self X.A 0 _ _ _ st4 loop)
theorem pe_dcompT {X : Cx} {kx vx tg iter : Expr} {ifs : List Expr} {scope : Scope} {pos : Pos} {wi : TI} {g : TG} {tc : TT} {tk tv : TE} {N : List Str} {σ0 : St → St}
    (hu : X.A.units + 1 < cLine) (hc : X.calm = true) (hxe : ∀ e s, X.xe e s → False) (hcell : ∀ y ∈ scope.names, y.2 ≠ .cell) (hkind : scope.kind = .function) (hnames : ∀ y ∈ scope.names, y.2 = .local → scope.names.lookup y.1 = some .local)
    (hfr : ∀ y ∈ scope.names, y.2 = .free → X.env.kindOf y.1 = some .cell ∨ X.env.kindOf y.1 = some .free) (hσ : Sees X scope N σ0)
    (hi : PI X tg iter wi)
    (hg : ∀ cl C s H ex, PG (cxComp X scope N cl C s H ex) tg g) (ht : ∀ cl C s H ex, PTs (cxComp X scope N cl C s H ex) ifs tc) (hk : ∀ cl C s H ex, PE (cxComp X scope N cl C s H ex) kx tk) (hv : ∀ cl C s H ex, PE (cxComp X scope N cl C s H ex) vx tv)
    (hs : ∀ x, foldedSetIterable iter X.env x = pure x := by intro _; rfl) : PE X (.DictComp kx vx [⟨tg, iter, ifs, 0⟩] scope pos) (tDCompT σ0 wi g tc tk tv) := by
  intro pins s σ H Q I h
  show wpAny _ X.A (comprehension (.DictComp kx vx [⟨tg, iter, ifs, 0⟩] scope pos) scope X.env _ newDict false (eval iter X.env) none) _ _ s
  refine comp_coreT (use := none) (QQ := EP X pins σ Q) hu hc hxe hcell hkind hnames hfr hσ hi hg ht hk hv hs I h ?_
  intro p C H' s' m f I5 fC hn back q
  exact ⟨m, hn, fun h' hsb => ⟨.ref p, H', back h' hsb, rfl, q⟩⟩
end L2

set_option Elab.async false
set_option linter.all false
set_option maxRecDepth 100000
set_option maxHeartbeats 4000000
namespace L2
open PySem PySem.W PySem.Spec PyProof.Rows DI Srt
/-! ### dict(a list of pairs), the keys tuples -/
section
variable {X : Cx} {pins : List (Addr × Obj)} {σ : St} {A : Around} {R : Result → Shared → Prop} {it l d : Addr} {ys : List V} {kvs : List (List Key × V)} {H : Hp}
end
end L2

set_option Elab.async false
set_option linter.all false
set_option maxRecDepth 100000
set_option maxHeartbeats 1000000
namespace L2
open PySem PySem.Spec PyProof.Rows Srt
/-! ### tables: tuples of ints with ints -/
abbrev Mp := List (List Int × Int)
def kII (p : List Int × Int) : List Key × V := (p.1.map Sum.inl, .int p.2)
def dI (m : Mp) : HO := .dT (m.map kII)
def hasM (m : Mp) (k : List Int) : Bool := m.any fun p => decide (p.1 = k)
def getM (m : Mp) (k : List Int) : Int := ((m.find? fun p => decide (p.1 = k)).map (·.2)).getD 0
def putM (m : Mp) (k : List Int) (v : Int) : Mp := if hasM m k = true then m.map (fun p => if p.1 = k then (p.1, v) else p) else m ++ [(k, v)]
def keysM (m : Mp) : List (List Int) := m.map (·.1)
def addM (m : Mp) (r : List Int × Int) : Mp := putM m r.1 (getM m r.1 + r.2)
def gath (rows : Mp) : Mp := rows.foldl addM []
theorem inl_inj {a b : List Int} : a.map (Sum.inl : Int → Key) = b.map Sum.inl ↔ a = b := List.map_inj_right fun _ _ e => Sum.inl.inj e
theorem dec_inl (a b : List Int) : decide (a.map (Sum.inl : Int → Key) = b.map Sum.inl) = decide (a = b) := by
  by_cases e : a = b
  · subst e; simp
  · rw [decide_eq_false e, decide_eq_false (fun z => e (inl_inj.mp z))]
theorem any_dI (m : Mp) (k : List Int) : ((m.map kII).any fun kv => decide (kv.1 = k.map Sum.inl)) = hasM m k := by
  unfold hasM
  rw [List.any_map]
  congr 1
  funext p
  exact dec_inl p.1 k
theorem putK_dI (m : Mp) (k : List Int) (v : Int) : putK (m.map kII) (k.map Sum.inl) (.int v) = (putM m k v).map kII := by
  unfold putK putM
  rw [any_dI]
  by_cases h : hasM m k = true
  · rw [if_pos h, if_pos h, List.map_map, List.map_map]
    refine List.map_congr_left fun p _ => ?_
    by_cases e : p.1 = k
    · simp [kII, e]
    · simp [kII, e, inl_inj]
  · rw [if_neg h, if_neg h, List.map_append]; rfl
theorem valV_dI : ∀ (m : Mp) (k : List Int), valV (m.map kII) (k.map Sum.inl) = (m.find? fun p => decide (p.1 = k)).map fun p => V.int p.2
  | [], _ => rfl
  | p :: m, k => by
    rw [List.map_cons, List.find?_cons]
    by_cases e : p.1 = k
    · rw [valV_pos (by simp [kII, e]), decide_eq_true e]; rfl
    · rw [valV_neg (by simp [kII, inl_inj, e]), decide_eq_false e]; exact valV_dI m k
theorem valV_getD (m : Mp) (k : List Int) : (valV (m.map kII) (k.map Sum.inl)).getD (.int 0) = .int (getM m k) := by
  rw [valV_dI]; unfold getM
  cases m.find? fun p => decide (p.1 = k) <;> rfl
theorem hasM_iff {m : Mp} {k : List Int} : hasM m k = true ↔ k ∈ keysM m := by
  unfold hasM keysM
  rw [List.any_eq_true, List.mem_map]
  simp
theorem valV_some {m : Mp} {k : List Int} (h : k ∈ keysM m) : valV (m.map kII) (k.map Sum.inl) = some (.int (getM m k)) := by
  rw [valV_dI]; unfold getM
  cases e : m.find? fun p => decide (p.1 = k) with
  | some p => rfl
  | none =>
    obtain ⟨p, hp, rfl⟩ := List.mem_map.mp h
    have := List.find?_eq_none.mp e p hp
    simp at this
theorem getM_nil (k : List Int) : getM [] k = 0 := rfl
theorem getM_cons (p : List Int × Int) (m : Mp) (k : List Int) : getM (p :: m) k = if p.1 = k then p.2 else getM m k := by
  unfold getM
  rw [List.find?_cons]
  by_cases e : p.1 = k
  · rw [decide_eq_true e, if_pos e]; rfl
  · rw [decide_eq_false e, if_neg e]
theorem getM_absent {m : Mp} {k : List Int} (h : k ∉ keysM m) : getM m k = 0 := by
  induction m with
  | nil => rfl
  | cons p m ih =>
    rw [getM_cons, if_neg (fun e => h (by simp [keysM, e])), ih fun z => h (by simp only [keysM, List.map_cons, List.mem_cons] at *; exact .inr z)]
theorem getM_mem {m : Mp} (nd : (keysM m).Nodup) {p : List Int × Int} (h : p ∈ m) : getM m p.1 = p.2 := by
  induction m with
  | nil => cases h
  | cons q m ih =>
    rw [getM_cons]
    simp only [keysM, List.map_cons, List.nodup_cons] at nd
    rcases List.mem_cons.mp h with rfl | h
    · rw [if_pos rfl]
    · rw [if_neg (fun e => nd.1 (by rw [e]; exact List.mem_map_of_mem h)), ih nd.2 h]
theorem keys_put (m : Mp) (k : List Int) (v : Int) : keysM (putM m k v) = if hasM m k = true then keysM m else keysM m ++ [k] := by
  unfold putM
  by_cases h : hasM m k = true
  · rw [if_pos h, if_pos h]
    unfold keysM
    rw [List.map_map]
    refine List.map_congr_left fun p _ => ?_
    by_cases e : p.1 = k <;> simp [e]
  · rw [if_neg h, if_neg h]; simp [keysM]
theorem keys_put_mem {m : Mp} {k j : List Int} {v : Int} : j ∈ keysM (putM m k v) ↔ j ∈ keysM m ∨ j = k := by
  rw [keys_put]
  by_cases h : hasM m k = true
  · rw [if_pos h]
    exact ⟨.inl, fun z => z.elim id fun e => by rw [e]; exact hasM_iff.mp h⟩
  · rw [if_neg h]; simp
theorem nodup_put {m : Mp} {k : List Int} {v : Int} (h : (keysM m).Nodup) : (keysM (putM m k v)).Nodup := by
  rw [keys_put]
  by_cases e : hasM m k = true
  · rw [if_pos e]; exact h
  · rw [if_neg e]
    refine List.nodup_append.mpr ⟨h, by simp, fun x hx y hy z => ?_⟩
    rw [List.mem_singleton] at hy
    subst hy z
    exact e (hasM_iff.mpr hx)
theorem getM_map_put (m : Mp) (k j : List Int) (v : Int) : getM (m.map fun p => if p.1 = k then (p.1, v) else p) j = if j = k ∧ hasM m k = true then v else getM m j := by
  induction m with
  | nil => simp [hasM, getM_nil]
  | cons p m ih =>
    rw [List.map_cons, getM_cons, getM_cons, ih]
    have hh : hasM (p :: m) k = (decide (p.1 = k) || hasM m k) := rfl
    rw [hh]
    by_cases e : p.1 = k
    · rw [if_pos e, decide_eq_true e]
      by_cases ej : p.1 = j
      · rw [if_pos ej, if_pos ⟨ej.symm.trans e, rfl⟩]
      · have : j ≠ k := fun z => ej (e.trans z.symm)
        rw [if_neg ej, if_neg (fun z => this z.1), if_neg (fun z => this z.1), if_neg ej]
    · rw [if_neg e, decide_eq_false e, Bool.false_or]
      by_cases ej : p.1 = j
      · have : j ≠ k := fun z => e (ej.trans z)
        rw [if_pos ej, if_neg (fun z => this z.1), if_pos ej]
      · rw [if_neg ej, if_neg ej]
theorem getM_snoc (m : Mp) (k j : List Int) (v : Int) (h : k ∉ keysM m) : getM (m ++ [(k, v)]) j = if j = k then v else getM m j := by
  induction m with
  | nil =>
    rw [List.nil_append, getM_cons]
    by_cases e : k = j
    · rw [if_pos e, if_pos e.symm]
    · rw [if_neg e, if_neg (fun z => e z.symm)]
  | cons p m ih =>
    rw [List.cons_append, getM_cons, getM_cons, ih fun z => h (by simp only [keysM, List.map_cons, List.mem_cons] at *; exact .inr z)]
    by_cases ej : p.1 = j
    · have : j ≠ k := fun z => h (by simp [keysM, ej.trans z])
      rw [if_pos ej, if_pos ej, if_neg this]
    · rw [if_neg ej, if_neg ej]
theorem getM_put (m : Mp) (k j : List Int) (v : Int) : getM (putM m k v) j = if j = k then v else getM m j := by
  unfold putM
  by_cases h : hasM m k = true
  · rw [if_pos h, getM_map_put]
    by_cases e : j = k <;> simp [e, h]
  · rw [if_neg h, getM_snoc _ _ _ _ fun z => h (hasM_iff.mpr z)]
/-- what the rows give to k -/
def sumAt (rows : Mp) (k : List Int) : Int := (rows.map fun r => if r.1 = k then r.2 else 0).sum
def valsM (m : Mp) : List Int := m.map (·.2)
theorem vals_put {m : Mp} (nd : (keysM m).Nodup) (k : List Int) (v : Int) : (valsM (putM m k (getM m k + v))).sum = (valsM m).sum + v := by
  unfold putM
  by_cases h : hasM m k = true
  · rw [if_pos h]
    have hk : ∀ (m : Mp), (keysM m).Nodup → k ∈ keysM m → (valsM (m.map fun p => if p.1 = k then (p.1, getM m k + v) else p)).sum = (valsM m).sum + v := by
      intro m
      have gen : ∀ (m : Mp) (g : Int), (keysM m).Nodup → (k ∈ keysM m → g = getM m k) → (valsM (m.map fun p => if p.1 = k then (p.1, g + v) else p)).sum = (valsM m).sum + if k ∈ keysM m then v else 0 := by
        intro m g
        induction m with
        | nil => intro _ _; simp [valsM, keysM]
        | cons p m ih =>
          intro nd hg
          simp only [keysM, List.map_cons, List.nodup_cons] at nd
          have hk' : k ∈ keysM (p :: m) ↔ k = p.1 ∨ k ∈ keysM m := by simp [keysM]
          by_cases e : p.1 = k
          · have hnk : k ∉ keysM m := by rw [← e]; exact nd.1
            have hgv : g = p.2 := by rw [hg (hk'.mpr (.inl e.symm)), getM_cons, if_pos e]
            have := ih nd.2 (fun z => absurd z hnk)
            rw [if_neg hnk] at this
            simp only [valsM, List.map_cons, List.sum_cons] at this ⊢
            rw [if_pos e, if_pos (hk'.mpr (.inl e.symm))]
            rw [this, hgv]; omega
          · have := ih nd.2 (fun z => by rw [hg (hk'.mpr (.inr z)), getM_cons, if_neg e])
            simp only [valsM, List.map_cons, List.sum_cons] at this ⊢
            rw [if_neg e, this]
            by_cases z : k ∈ keysM m
            · rw [if_pos z, if_pos (hk'.mpr (.inr z))]; omega
            · rw [if_neg z, if_neg (fun q => (hk'.mp q).elim (fun r => e r.symm) z)]; omega
      intro nd hm
      have := gen m (getM m k) nd fun _ => rfl
      rwa [if_pos hm] at this
    exact hk m nd (hasM_iff.mp h)
  · rw [if_neg h]
    rw [getM_absent fun z => h (hasM_iff.mpr z)]
    simp [valsM]
theorem gath_snoc (rows : Mp) (r : List Int × Int) : gath (rows ++ [r]) = addM (gath rows) r := by unfold gath; rw [List.foldl_append]; rfl
theorem sumAt_snoc (rows : Mp) (r : List Int × Int) (k : List Int) : sumAt (rows ++ [r]) k = sumAt rows k + if r.1 = k then r.2 else 0 := by unfold sumAt; simp
theorem gath_all : ∀ (n : Nat) (rows : Mp), rows.length = n → (keysM (gath rows)).Nodup ∧ (∀ k, getM (gath rows) k = sumAt rows k) ∧ (∀ k, k ∈ keysM (gath rows) ↔ k ∈ keysM rows) ∧ (valsM (gath rows)).sum = (valsM rows).sum
  | 0, rows, h => by
    have : rows = [] := List.length_eq_zero_iff.mp h
    subst this
    exact ⟨List.nodup_nil, fun _ => rfl, fun _ => Iff.rfl, rfl⟩
  | n + 1, rows, h => by
    obtain ⟨l, r, rfl⟩ : ∃ l r, rows = l ++ [r] := by
      rcases List.eq_nil_or_concat rows with e | ⟨l, r, e⟩
      · subst e; simp at h
      · exact ⟨l, r, by rw [e, List.concat_eq_append]⟩
    obtain ⟨h1, h2, h3, h4⟩ := gath_all n l (by simpa using h)
    rw [gath_snoc]
    refine ⟨nodup_put h1, fun k => ?_, fun k => ?_, ?_⟩
    · unfold addM
      rw [getM_put, sumAt_snoc, h2, h2]
      by_cases e : k = r.1
      · subst e; rw [if_pos rfl, if_pos rfl]
      · rw [if_neg e, if_neg (fun z => e z.symm)]; omega
    · unfold addM
      rw [keys_put_mem, h3]
      simp [keysM, or_comm]
    · unfold addM
      rw [vals_put h1, h4]
      simp [valsM]
theorem gath_nodup (rows : Mp) : (keysM (gath rows)).Nodup := (gath_all _ rows rfl).1
theorem gath_get (rows : Mp) (k : List Int) : getM (gath rows) k = sumAt rows k := (gath_all _ rows rfl).2.1 k
theorem gath_keys (rows : Mp) (k : List Int) : k ∈ keysM (gath rows) ↔ k ∈ keysM rows := (gath_all _ rows rfl).2.2.1 k
theorem gath_sum (rows : Mp) : (valsM (gath rows)).sum = (valsM rows).sum := (gath_all _ rows rfl).2.2.2
/-- nodup lists with the same members -/
theorem perm_of_mem {α : Type} [DecidableEq α] {a b : List α} (ha : a.Nodup) (hb : b.Nodup) (h : ∀ x, x ∈ a ↔ x ∈ b) : a.Perm b := by
  rw [List.perm_iff_count]
  intro x
  rw [ha.count, hb.count]
  by_cases hx : x ∈ a
  · rw [if_pos hx, if_pos ((h x).mp hx)]
  · rw [if_neg hx, if_neg (fun z => hx ((h x).mpr z))]
theorem sum_perm {a b : List Int} (h : a.Perm b) : a.sum = b.sum := by
  induction h with
  | nil => rfl
  | cons x _ ih => simp [ih]
  | swap x y l => simp; omega
  | trans _ _ h1 h2 => exact h1.trans h2
/-- a sum over a table's rows is one over its keys -/
def tot (m : Mp) (f : List Int → Int) : Int := (m.map fun p => p.2 * f p.1).sum
theorem tot_keys {m : Mp} (nd : (keysM m).Nodup) (f : List Int → Int) : tot m f = ((keysM m).map fun k => getM m k * f k).sum := by
  unfold tot keysM
  rw [List.map_map]
  congr 1
  refine List.map_congr_left fun p hp => ?_
  show _ = getM m p.1 * f p.1
  rw [getM_mem nd hp]
/-- two tables, the one as the other but for a factor -/
structure Like (p f : Mp) (x y : Int) : Prop where
  np : (keysM p).Nodup
  nf : (keysM f).Nodup
  keys : ∀ k, k ∈ keysM p ↔ k ∈ keysM f
  vals : ∀ k, getM p k * x = getM f k * y
theorem sum_mul (l : List Int) (c : Int) : (l.map fun a => a * c).sum = l.sum * c := by
  induction l with
  | nil => simp
  | cons a l ih => simp [ih, Int.add_mul]
theorem Like.tot {p f : Mp} {x y : Int} (L : Like p f x y) (φ : List Int → Int) : L2.tot p φ * x = L2.tot f φ * y := by
  rw [tot_keys L.np, tot_keys L.nf, ← sum_mul, ← sum_mul, List.map_map, List.map_map]
  have e : ((keysM p).map ((fun a => a * x) ∘ fun k => getM p k * φ k)) = (keysM p).map ((fun a => a * y) ∘ fun k => getM f k * φ k) := by
    refine List.map_congr_left fun k _ => ?_
    show getM p k * φ k * x = getM f k * φ k * y
    have := L.vals k
    rw [Int.mul_right_comm, this, Int.mul_right_comm]
  rw [e]
  exact sum_perm ((perm_of_mem L.np L.nf L.keys).map _)
/-- the rows that come of each entry -/
def rowsM (m : Mp) (g : List Int → Mp) : Mp := m.flatMap fun p => (g p.1).map fun q => (q.1, p.2 * q.2)
theorem sum_flatMap {α : Type} (l : List α) (f : α → List Int) : (l.flatMap f).sum = (l.map fun a => (f a).sum).sum := by
  induction l with
  | nil => rfl
  | cons a l ih => rw [List.flatMap_cons, List.sum_append, List.map_cons, List.sum_cons, ih]
theorem sumAt_rows (m : Mp) (g : List Int → Mp) (k : List Int) : sumAt (rowsM m g) k = tot m fun l => sumAt (g l) k := by
  unfold sumAt rowsM tot
  rw [List.map_flatMap, sum_flatMap]
  congr 1
  refine List.map_congr_left fun p _ => ?_
  rw [List.map_map, Int.mul_comm, ← sum_mul, List.map_map]
  congr 1
  refine List.map_congr_left fun q _ => ?_
  show (if q.1 = k then p.2 * q.2 else 0) = (if q.1 = k then q.2 else 0) * p.2
  by_cases e : q.1 = k
  · rw [if_pos e, if_pos e, Int.mul_comm]
  · rw [if_neg e, if_neg e]; omega
theorem keys_rows {m : Mp} {g : List Int → Mp} {k : List Int} : k ∈ keysM (rowsM m g) ↔ ∃ l ∈ keysM m, k ∈ keysM (g l) := by
  unfold keysM rowsM
  simp only [List.map_flatMap, List.mem_flatMap, List.map_map, List.mem_map]
  constructor
  · rintro ⟨p, hp, q, hq, rfl⟩; exact ⟨p.1, ⟨p, hp, rfl⟩, q, hq, rfl⟩
  · rintro ⟨_, ⟨p, hp, rfl⟩, q, hq, rfl⟩; exact ⟨p, hp, q, hq, rfl⟩
theorem vals_rows (m : Mp) (g : List Int → Mp) : (valsM (rowsM m g)).sum = tot m fun l => (valsM (g l)).sum := by
  unfold valsM rowsM tot
  rw [List.map_flatMap, sum_flatMap]
  congr 1
  refine List.map_congr_left fun p _ => ?_
  rw [List.map_map, Int.mul_comm, ← sum_mul, List.map_map]
  congr 1
  exact List.map_congr_left fun q _ => Int.mul_comm _ _
theorem tot_const {m : Mp} {f : List Int → Int} {c : Int} (h : ∀ k ∈ keysM m, f k = c) : tot m f = (valsM m).sum * c := by
  unfold tot valsM
  rw [← sum_mul, List.map_map]
  congr 1
  exact List.map_congr_left fun p hp => by rw [h p.1 (List.mem_map_of_mem hp)]; rfl
/-- one step of both, by gains that are as one another but for a factor -/
theorem Like.step {p f : Mp} {x y u v : Int} (L : Like p f x y) {g h : List Int → Mp} (hk : ∀ l ∈ keysM p, ∀ k, k ∈ keysM (g l) ↔ k ∈ keysM (h l)) (hv : ∀ l ∈ keysM p, ∀ k, sumAt (g l) k * u = sumAt (h l) k * v) : Like (gath (rowsM p g)) (gath (rowsM f h)) (x * u) (y * v) := by
  refine ⟨gath_nodup _, gath_nodup _, fun k => ?_, fun k => ?_⟩
  · rw [gath_keys, gath_keys, keys_rows, keys_rows]
    constructor
    · rintro ⟨l, a, b⟩; exact ⟨l, (L.keys l).mp a, (hk l a k).mp b⟩
    · rintro ⟨l, a, b⟩; have a' := (L.keys l).mpr a; exact ⟨l, a', (hk l a' k).mpr b⟩
  · rw [gath_get, gath_get, sumAt_rows, sumAt_rows]
    have e1 : (L2.tot p fun l => sumAt (g l) k) * u = (L2.tot p fun l => sumAt (h l) k) * v := by
      rw [tot_keys L.np, tot_keys L.np, ← sum_mul, ← sum_mul, List.map_map, List.map_map]
      congr 1
      refine List.map_congr_left fun l hl => ?_
      show getM p l * sumAt (g l) k * u = getM p l * sumAt (h l) k * v
      rw [Int.mul_assoc, hv l hl k, Int.mul_assoc]
    have e2 := L.tot fun l => sumAt (h l) k
    rw [Int.mul_comm x u, ← Int.mul_assoc, e1, Int.mul_right_comm, e2, Int.mul_assoc]
/-! ### in order -/
def rise (ks : List (List Int)) : List (List Int) := ks.mergeSort fun a b => !lexI b a
theorem rising_unique {a b : List (List Int)} (h : a.Perm b) (ha : Rising a) (hb : Rising b) : a = b :=
  List.Perm.eq_of_pairwise (le := fun x y => lexI y x = false) (fun x y _ _ h1 h2 => lexI_tot x y h2 h1) ha hb h
theorem rise_perm (ks : List (List Int)) : (rise ks).Perm ks := List.mergeSort_perm ks _
theorem rise_rising (ks : List (List Int)) : Rising (rise ks) := by
  have := List.pairwise_mergeSort (le := fun a b => !lexI b a) (fun a b c h1 h2 => by simp at *; exact lexI_tr _ _ _ h1 h2) (fun a b => by
    cases h : lexI b a with
    | false => simp
    | true => simp [lexI_asym _ _ h]) ks
  exact this.imp fun {a b} h => by simpa using h
theorem rise_eq {ms ks : List (List Int)} (h : ms.Perm ks) (hr : Rising ms) : ms = rise ks := rising_unique (h.trans (rise_perm ks).symm) hr (rise_rising ks)
theorem rise_congr {a b : List (List Int)} (h : a.Perm b) : rise a = rise b := rising_unique ((rise_perm a).trans (h.trans (rise_perm b).symm)) (rise_rising a) (rise_rising b)
end L2

set_option Elab.async false
set_option linter.all false
set_option maxRecDepth 100000
set_option maxHeartbeats 1000000
namespace L2
open PySem PySem.Spec PyProof.Rows Srt
theorem hu2_of {A : Around} {k : Nat} (hr : Room k A) : A.units + 2 < cLine := by have := hr.un; omega
theorem DGet.tz {H : Hp} {a b : Addr} {kvs : List (List Key × V)} {k : List Key} (e : Rd H a (.dT kvs)) (eb : H b = some (.tup (k.map kV))) : DGet H a (.ref b) (valV kvs k) := .inr ⟨kvs, k, b, e, rfl, eb, rfl⟩
/-- {k: v}, the key a tuple; the new dict stands empty while the pair is made -/
def tDisp1 (tk tv : TE) : TE := fun σ H Q => ∀ p, H p = none → tk σ (upd H p (.dT [])) fun x H1 => tv σ H1 fun y H2 => ∃ (b : Addr) (key : List Key), x = .ref b ∧ H2 b = some (.tup (key.map kV)) ∧ H2 p = some (.dT []) ∧ Q (.ref p) (upd H2 p (.dT [(key, y)]))
theorem pe_disp1T {X : Cx} {pos : Pos} {k v : Expr} {tk tv : TE} (hu : X.A.units + 1 < cLine) (hk : PE X k tk) (hv : PE X v tv) : PE X (.Dict [some k] [v] pos) (tDisp1 tk tv) := by
  intro pins s σ H Q I q
  have hn := I.hok.fresh (Nat.le_refl s.heap.objs.size)
  have I1 := I.laid (a := s.heap.objs.size) (o := .dT []) (h' := s.heap.push { cls := .type "dict", data := .dict #[] }) (t' := s.toks) (fun _ _ q => Heap.get?_push_of_some _ q) (Nat.le_refl _) (dt_empty s.heap I.big)
  rw [arm_eval_Dict, zip_pairTrees [some k] [v] X.env pos rfl rfl, dictDisplay_pairs (pairTrees [some k] [v] X.env pos) (by intro z; cases z) (by show 1 < 17; decide)]
  refine wpAny_bind (wpAny_standAt (wpAny_bind ?_))
  unfold subDict
  refine wpAny_bind (wpAny_alloc (wpAny_bind (wpAny_holding ?_)))
  rw [if_pos (show (pairTrees [some k] [v] X.env pos).length ≤ 15 from by show 1 ≤ 15; decide)]
  refine wpAny_bind (pairTrees_cons_walk (thn (hk pins _ σ _ _ I1 (q _ hn)) fun u s1 ⟨x, H1, J1, r1, h1⟩ => thn (hv pins s1 σ H1 _ J1 h1) fun u' s2 ⟨y, H2, I2, r2, b, key, ek, eb, hH, q2⟩ => pairTrees_nil_walk ?_))
  subst ek
  cases r1
  refine wpAny_holding ?_
  obtain ⟨z, hd, xs, rel, dd⟩ := dt_of I2.hok hH
  cases rel
  rw [List.forIn_cons]
  refine wpAny_bind (wpAny_bind (wpAny_bind (wpAny_dictSet_heap (knd := tupleKind (mixKind X.prog X.w)) (by show X.A.units < cLine; omega) (key_of I2.hok eb) dd (fun h' dd' hs => wpAny_pure ?_) (by simp))))
  dsimp only
  rw [List.forIn_nil]
  refine wpAny_pure (wpAny_pure (wpAny_pure (wpAny_pure ?_)))
  obtain ⟨qo, es, ep, hq, h2, h3, h4, _, h5⟩ := dd'
  exact ⟨.ref s.heap.objs.size, _, d_write (ob := .dT [(key, y)]) I2 (by rw [hH]; exact True.intro) hs ⟨qo, hq⟩ ⟨by rw [sizeLine_eq]; simp, hd, _, (KT.put .nil key eb r2).keeps fun c ys ec => by rw [upd_ne (ne_of ec hH (fun z => nomatch z))]; exact ec, qo, es, ep, hq, h2, h3, h4, h5⟩, rfl, q2⟩
end L2

set_option Elab.async false
set_option linter.all false
set_option maxRecDepth 100000
set_option maxHeartbeats 1000000
namespace L2
open PySem PySem.Spec PyProof.Rows Srt
theorem yields_zip {K : PySem.W.Frag} {a b : Addr} {xs ys : List V} (hl : xs.length = ys.length) : Yields (Itz K a b) xs.length (fun i H v H' => ∃ p x y, v = .ref p ∧ H p = none ∧ H' = upd H p (.tup [x, y]) ∧ xs[i]? = some x ∧ ys[i]? = some y) (fun H => H a = some (.lst xs) ∧ H b = some (.lst ys)) :=
  ⟨fun i H hi o => ⟨xs, ys, xs[i], ys[i], SqL.of o.1, SqL.of o.2, by simp [hi], by simp [hl ▸ hi]⟩,
   fun i H v H' hi o ⟨p, x, y, e1, e2, e3, e4⟩ => ⟨p, x, y, e1, e2, e3, e4 xs ys (SqL.of o.1) (SqL.of o.2)⟩,
   fun H o => ⟨xs, ys, SqL.of o.1, SqL.of o.2, .inl (Nat.le_refl _)⟩⟩
theorem yields_enumL {K : PySem.W.Frag} {a : Addr} {xs : List V} : Yields (ItE K true a) xs.length (fun i H v H' => ∃ p x, v = .ref p ∧ H p = none ∧ H' = upd H p (.tup [.int i, x]) ∧ xs[i]? = some x) (fun H => H a = some (.lst xs)) :=
  ⟨fun i H hi o => ⟨xs, xs[i], (SqL.of o), by simp [hi]⟩, fun i H v H' hi o ⟨p, x, e1, e2, e3, e4⟩ => ⟨p, x, e1, e2, e3, e4 xs (SqL.of o)⟩, fun H o => ⟨xs, (SqL.of o), Nat.le_refl _⟩⟩
end L2
namespace L2
open PySem PySem.Spec PyProof.Rows Srt
/-! ### walks without a K: for the second clause of a comprehension -/
structure Weak (J J' : It) : Prop where
  go : ∀ i H, J'.go i H → J.go i H
  yld : ∀ i H x H', J'.go i H → J.yld i H x H' → J'.yld i H x H'
  stop : ∀ i H, J'.stop i H → J.stop i H
theorem Turn.weak {P : Program} {w : World} {K : PySem.W.Frag} {tg : Expr} {J J' : It} {fp : List Addr} {it : Addr} {tn : Nat → Heap → Prop} (T : Turn P w K tg J fp it tn) (h : Weak J J') : Turn P w K tg J' fp it tn where
  mem := T.mem
  obj := T.obj
  keep := T.keep
  item := fun X hP hw hK hc i pins s σ H E I hf st hg => thn (T.item X hP hw hK hc i pins s σ H E I hf st (h.go i H hg)) fun r s1 ⟨u, hr, q⟩ => ⟨u, hr, thn q fun _ s2 ⟨x, H', a, b, c, d⟩ => ⟨x, H', a, b, h.yld i H x H' hg c, d⟩⟩
  done := fun X hP hw hK hc i pins s σ H E I hf st hg => T.done X hP hw hK hc i pins s σ H E I hf st (h.stop i H hg)
  self := T.self
def ItEL (a : Addr) : It :=
  ⟨fun i H => ∃ xs x, H a = some (.lst xs) ∧ xs[i]? = some x, fun i H v H' => ∃ p x, v = .ref p ∧ H p = none ∧ H' = upd H p (.tup [.int i, x]) ∧ ∀ xs, H a = some (.lst xs) → xs[i]? = some x, fun i H => ∃ xs, H a = some (.lst xs) ∧ xs.length ≤ i⟩
def iEnumL (ta : TA) : TI := fun σ H R => ta σ H fun vs H1 => ∃ a xs, vs = [.ref a] ∧ H1 a = some (.lst xs) ∧ R (ItEL a) H1
theorem weakEL (K : PySem.W.Frag) (a : Addr) : Weak (ItE K true a) (ItEL a) :=
  ⟨fun i H ⟨xs, x, h, e⟩ => ⟨xs, x, SqL.of h, e⟩, fun i H x H' _ ⟨p, y, e1, e2, e3, e4⟩ => ⟨p, y, e1, e2, e3, fun xs h => e4 xs (SqL.of h)⟩, fun i H ⟨xs, h, e⟩ => ⟨xs, SqL.of h, e⟩⟩
theorem pi_enumL {X : Cx} {elts : List Expr} {c : Nat} {tpos : Pos} {a : Expr} {ta : TA} {p pos : Pos} (hg : Gl X "enumerate") (hm : X.mg "enumerate" = none) (ha : PA X [a] ta) (hs : starEach [a] X.env = [(false, eval a X.env)] := by rfl) :
    PI X (.Tuple elts c tpos) (.Call (.Name "enumerate" p) [a] [] pos) (iEnumL ta) := by
  intro pins s σ H R I h
  refine Call_ (ld_blt I hg hm boot_enumerate (PyProof.Rows.callWith_type1 (thn (ha pos pins s σ H _ I h) fun us s1 ⟨vs, H1, I1, r1, q1⟩ => ?_) hs rfl))
  obtain ⟨a, xs, e, hq, q⟩ := q1
  subst e
  cases r1 with
  | cons r rr =>
    cases rr
    cases r
    obtain ⟨its1, rv1, p1, _⟩ := I1.seqB (b := true) (a := a) (xs := xs) (SqL.of hq)
    have la := p1.lt
    refine call_enumB p1 fun h' a1 a2 hk => wpAny_pyIter_enum a1 ?_
    refine ⟨_, _, _, _, H1, rfl, I1.kept (t' := s1.toks) hk, (turn_enumB (e := s1.heap.objs.size + 1) (it := s1.heap.objs.size) (Nat.succ_ne_self _) ?_ ?_).weak (weakEL _ _), ⟨⟨_, a1⟩, a2⟩, fun x hx => ?_, q⟩
    · exact Nat.ne_of_gt (Nat.lt_succ_of_lt la)
    · exact Nat.ne_of_lt la
    · have hx' : s1.heap.objs.size ≤ x := by
        simp only [List.mem_cons, List.not_mem_nil, or_false] at hx
        rcases hx with rfl | rfl <;> (show (_ : Nat) ≤ (_ : Nat)) <;> omega
      exact I1.fpOk hx' (I1.hok.fresh hx')
theorem yields_ELL {a : Addr} {xs : List V} : Yields (ItEL a) xs.length (fun i H v H' => ∃ p x, v = .ref p ∧ H p = none ∧ H' = upd H p (.tup [.int i, x]) ∧ xs[i]? = some x) (fun H => H a = some (.lst xs)) :=
  ⟨fun i H hi o => ⟨xs, xs[i], o, by simp [hi]⟩, fun i H v H' hi o ⟨p, x, e1, e2, e3, e4⟩ => ⟨p, x, e1, e2, e3, e4 xs o⟩, fun H o => ⟨xs, o, Nat.le_refl _⟩⟩
end L2

set_option Elab.async false
set_option linter.all false
set_option maxRecDepth 100000
set_option maxHeartbeats 4000000
namespace My
open PySem L2 MA
def top (i : Nat) : Stmt := PySem.Challenge.pw_emptierbox_k18_balls_that_come.main.body.getD i (.Pass ⟨0, 0, 0, 0⟩)
abbrev s_falling : Stmt := top 5
theorem sc_falling : FnScope ["numbers"] ["numbers"] (defScope s_falling) := ⟨rfl, rfl, rfl, by decide +kernel, rfl, by decide +kernel, by decide +kernel⟩
abbrev s_put_at : Stmt := top 6
theorem sc_put_at : FnScope ["load", "rank", "numbers"] ["load", "rank"] (defScope s_put_at) := ⟨rfl, rfl, rfl, by decide +kernel, rfl, by decide +kernel, by decide +kernel⟩
abbrev s_measure : Stmt := top 8
theorem sc_measure : FnScope ["a", "b"] ["a", "b"] (defScope s_measure) := ⟨rfl, rfl, rfl, by decide +kernel, rfl, by decide +kernel, by decide +kernel⟩
abbrev s_parted : Stmt := top 9
theorem sc_parted : FnScope ["top", "bottoms", "bottom", "number", "common"] ["top", "bottoms"] (defScope s_parted) := ⟨rfl, rfl, rfl, by decide +kernel, rfl, by decide +kernel, by decide +kernel⟩
abbrev s_weighed : Stmt := top 10
theorem sc_weighed : FnScope ["some", "bottom", "one"] ["some"] (defScope s_weighed) := ⟨rfl, rfl, rfl, by decide +kernel, rfl, by decide +kernel, by decide +kernel⟩
abbrev s_alone : Stmt := top 13
theorem sc_alone : FnScope ["load"] ["load"] (defScope s_alone) := ⟨rfl, rfl, rfl, by decide +kernel, rfl, by decide +kernel, by decide +kernel⟩
abbrev s_gathered : Stmt := top 14
theorem sc_gathered : FnScope ["rows", "found", "thing", "weight"] ["rows"] (defScope s_gathered) := ⟨rfl, rfl, rfl, by decide +kernel, rfl, by decide +kernel, by decide +kernel⟩
abbrev s_weights_of : Stmt := top 15
theorem sc_weights_of : FnScope ["spread", "tops", "bottom"] ["spread"] (defScope s_weights_of) := ⟨rfl, rfl, rfl, by decide +kernel, rfl, by decide +kernel, by decide +kernel⟩
abbrev s_spread_of : Stmt := top 16
theorem sc_spread_of : FnScope ["weights", "bottoms"] ["weights", "bottoms"] (defScope s_spread_of) := ⟨rfl, rfl, rfl, by decide +kernel, rfl, by decide +kernel, by decide +kernel⟩
abbrev s_come : Stmt := top 17
theorem sc_come : FnScope ["chances", "weights"] ["chances", "weights"] (defScope s_come) := ⟨rfl, rfl, rfl, by decide +kernel, rfl, by decide +kernel, by decide +kernel⟩
abbrev s_ask_boxes : Stmt := top 18
theorem sc_ask_boxes : FnScope ["ranks", "load"] ["ranks", "load"] (defScope s_ask_boxes) := ⟨rfl, rfl, rfl, by decide +kernel, rfl, by decide +kernel, by decide +kernel⟩
abbrev s_after : Stmt := top 19
theorem sc_after : FnScope ["rule", "spread", "many", "ball", "chances", "ball_bottom", "weights", "bottom"] ["rule", "spread", "many"] (defScope s_after) := ⟨rfl, rfl, rfl, by decide +kernel, rfl, by decide +kernel, by decide +kernel⟩
abbrev s_put : Stmt := top 20
theorem sc_put : FnScope ["rule", "spread"] ["rule", "spread"] (defScope s_put) := ⟨rfl, rfl, rfl, by decide +kernel, rfl, by decide +kernel, by decide +kernel⟩
abbrev s_l_pen : Stmt := top 22
theorem sc_l_pen : FnScope ["_law_script"] ["_law_script"] (defScope s_l_pen) := ⟨rfl, rfl, rfl, by decide +kernel, rfl, by decide +kernel, by decide +kernel⟩
abbrev s_l_draw : Stmt := top 23
theorem sc_l_draw : FnScope ["_law_pen_here", "_law_many", "_law_at", "_law_cell", "_law_number", "_law_digit"] ["_law_pen_here", "_law_many"] (defScope s_l_draw) := ⟨rfl, rfl, rfl, by decide +kernel, rfl, by decide +kernel, by decide +kernel⟩
abbrev s_l_measure : Stmt := top 24
theorem sc_l_measure : FnScope ["_law_a", "_law_b"] ["_law_a", "_law_b"] (defScope s_l_measure) := ⟨rfl, rfl, rfl, by decide +kernel, rfl, by decide +kernel, by decide +kernel⟩
abbrev s_l_lowest : Stmt := top 25
theorem sc_l_lowest : FnScope ["_law_top", "_law_bottom", "_law_by"] ["_law_top", "_law_bottom"] (defScope s_l_lowest) := ⟨rfl, rfl, rfl, by decide +kernel, rfl, by decide +kernel, by decide +kernel⟩
abbrev s_l_weights : Stmt := top 26
theorem sc_l_weights : FnScope ["_law_pen_here", "_law_n", "_law_way", "_law_some", "_law_at"] ["_law_pen_here", "_law_n"] (defScope s_l_weights) := ⟨rfl, rfl, rfl, by decide +kernel, rfl, by decide +kernel, by decide +kernel⟩
abbrev s_l_rule : Stmt := top 27
theorem sc_l_rule : FnScope ["_law_weights_here"] ["_law_weights_here"] (defScope s_l_rule) := ⟨rfl, rfl, rfl, by decide +kernel, rfl, by decide +kernel, by decide +kernel⟩
abbrev s_l_load : Stmt := top 28
theorem sc_l_load : FnScope ["_law_pen_here", "_law_n", "_law_balls", "_law_found", "_law_way", "_law_at", "_law_ball", "_law_box"] ["_law_pen_here", "_law_n", "_law_balls"] (defScope s_l_load) := ⟨rfl, rfl, rfl, by decide +kernel, rfl, by decide +kernel, by decide +kernel⟩
abbrev s_l_counted : Stmt := top 29
theorem sc_l_counted : FnScope ["_law_pen_here", "_law_n", "_law_balls", "_law_found", "_law_k", "_law_load_here"] ["_law_pen_here", "_law_n", "_law_balls"] (defScope s_l_counted) := ⟨rfl, rfl, rfl, by decide +kernel, rfl, by decide +kernel, by decide +kernel⟩
abbrev s_l_spread : Stmt := top 30
theorem sc_l_spread : FnScope ["_law_found", "_law_whole"] ["_law_found"] (defScope s_l_spread) := ⟨rfl, rfl, rfl, by decide +kernel, rfl, by decide +kernel, by decide +kernel⟩
abbrev s_l_come : Stmt := top 31
theorem sc_l_come : FnScope ["_law_found", "_law_weights_here", "_law_here", "_law_load_here", "_law_rank", "_law_weight", "_law_more", "_law_there"] ["_law_found", "_law_weights_here"] (defScope s_l_come) := ⟨rfl, rfl, rfl, by decide +kernel, rfl, by decide +kernel, by decide +kernel⟩
abbrev s_l_sizes : Stmt := top 32
theorem sc_l_sizes : FnScope ["_law_pen_here", "_law_way", "_law_balls", "_law_many"] ["_law_pen_here", "_law_way"] (defScope s_l_sizes) := ⟨rfl, rfl, rfl, by decide +kernel, rfl, by decide +kernel, by decide +kernel⟩
abbrev s_law : Stmt := top 33
theorem sc_law : FnScope ["_law_script", "_law_pen_here", "_law_way", "_law_found", "_law_weights_here", "_law_spread_here", "_law_rule_here", "_law_kept", "_law_k", "_law_n", "_law_balls", "_law_many", "_law_lone", "_law_due", "_law_told"] ["_law_script"] (defScope s_law) := ⟨rfl, rfl, rfl, by decide +kernel, rfl, by decide +kernel, by decide +kernel⟩

section
variable {P : Program} {w : World} {K : PySem.W.Frag} {mg : Str → Option Value} {base : Heap}
theorem ok_measure (T : Txt mg) (F : FunAt K mg "measure" ["a", "b"] s_measure) : Cal P w K mg base "measure" ["a", "b"] 1 spMeasure := by
  have S := sc_measure
  refine F.cal sc_measure (fun vs H Q E h => ?_) (fun f cdv A outer s H vs Q E hr h => ?_)
  · obtain ⟨a, b, rfl, _⟩ := h; rfl
  obtain ⟨a, b, rfl, q⟩ := h
  refine ⟨_, (@pss_cons _ _ _ _ _ (@ps_par _ _ (0) (1) _ _ _ _ _ _ _ _ _ _ _ (by rfl) (by exact S.nd) (by rfl) (by rfl) (by decide) (by rfl) (by rfl) (@pa_consN _ _ _ _ _ (@pe_callB _ _ _ _ _ _ _ _ _ call_abs (by rfl) (by exact T.z_abs) (by exact bt_abs) (@pa_consN _ _ _ _ _ (pv 0) pa_nil (by first|rfl|decide|exact .inl rfl|exact .inr rfl|(intros; rfl))) (by first|rfl|decide|exact .inl rfl|exact .inr rfl|(intros; rfl)) (by first|rfl|decide|exact .inl rfl|exact .inr rfl|(intros; rfl)) (by first|rfl|decide|exact .inl rfl|exact .inr rfl|(intros; rfl)) (by first|rfl|decide|exact .inl rfl|exact .inr rfl|(intros; rfl))) (@pa_consN _ _ _ _ _ (@pe_callB _ _ _ _ _ _ _ _ _ call_abs (by rfl) (by exact T.z_abs) (by exact bt_abs) (@pa_consN _ _ _ _ _ (pv 1) pa_nil (by first|rfl|decide|exact .inl rfl|exact .inr rfl|(intros; rfl))) (by first|rfl|decide|exact .inl rfl|exact .inr rfl|(intros; rfl)) (by first|rfl|decide|exact .inl rfl|exact .inr rfl|(intros; rfl)) (by first|rfl|decide|exact .inl rfl|exact .inr rfl|(intros; rfl)) (by first|rfl|decide|exact .inl rfl|exact .inr rfl|(intros; rfl))) pa_nil (by first|rfl|decide|exact .inl rfl|exact .inr rfl|(intros; rfl))) (by first|rfl|decide|exact .inl rfl|exact .inr rfl|(intros; rfl))) (by rfl) (by first|rfl|decide|exact .inl rfl|exact .inr rfl|(intros; rfl))) (@pss_cons _ _ _ _ _ (@ps_while _ _ _ _ _ _ (by exact PassesOwn.never) (@pt_cmpR _ _ _ _ _ _ _ _ op_ne (pv 1) pe_int (by exact (nomark _))) (@pss_one _ _ _ (@ps_par _ _ (0) (1) _ _ _ _ _ _ _ _ _ _ _ (by rfl) (by exact S.nd) (by rfl) (by rfl) (by decide) (by rfl) (by rfl) (@pa_consN _ _ _ _ _ (pv 1) (@pa_consN _ _ _ _ _ (@pe_op _ _ _ _ _ _ _ _ op_mod (pv 0) (pv 1)) pa_nil (by first|rfl|decide|exact .inl rfl|exact .inr rfl|(intros; rfl))) (by first|rfl|decide|exact .inl rfl|exact .inr rfl|(intros; rfl))) (by rfl) (by first|rfl|decide|exact .inl rfl|exact .inr rfl|(intros; rfl))))) (@pss_one _ _ _ (@ps_ret _ _ _ _ (pv 0))))), ?_⟩
  refine ⟨_, rfl, _, rfl, _, rfl, _, rfl, _, _, rfl, ?_⟩
  refine while_by (fun σ H' => H' = H ∧ ∃ x y : Int, σ = [some (.int x), some (.int y)] ∧ 0 ≤ x ∧ 0 ≤ y ∧ gI x y = gI a b) (fun σ _ => match σ with | [_, some (.int y)] => y.toNat | _ => 0) ⟨rfl, _, _, rfl, ?_, ?_, ?_⟩ ?_ ?_
  · split <;> omega
  · split <;> omega
  · exact gI_abs a b
  · rintro σ H' ⟨rfl, x, y, rfl, hx, hy, hg⟩
    refine ⟨_, rfl, rfl, _, rfl, ?_⟩
    refine ite2 (fun c => ?_) (fun c => ?_)
    · have hy0 : 0 < y := by
        have : ¬ (V.int y = V.int 0) := by simpa using c
        have : y ≠ 0 := fun e => this (by rw [e])
        omega
      refine ⟨_, rfl, _, rfl, _, rfl, _, _, rfl, rfl, hy0, _, _, rfl, ?_⟩
      have hm := Int.emod_nonneg x (show y ≠ 0 by omega)
      have hl := Int.emod_lt_of_pos x hy0
      refine ⟨⟨rfl, _, _, rfl, hy, hm, ?_⟩, ?_⟩
      · rw [gI_step hx]; exact hg
      · show (x % y).toNat < y.toNat
        omega
    · have hy0 : y = 0 := by
        have : V.int y = V.int 0 := by simpa using c
        exact V.int.inj this
      subst hy0
      refine ⟨_, rfl, ?_⟩
      rw [gI_zero hx] at hg
      rw [hg]
      exact q
  · rintro σ H' Q1 Q2 hQ ⟨v, e, h1, b1, e2, h2⟩
    exact ⟨v, e, h1, b1, e2, hQ _ _ h2⟩
theorem ok_pen (F : FunAt K mg "_law_pen" ["_law_script"] s_l_pen) : Cal P w K mg base "_law_pen" ["_law_script"] 1 (spPen K) := by
  have S := sc_l_pen
  refine F.cal sc_l_pen (fun vs H Q E h => ?_) (fun f cdv A outer s H vs Q E hr h => ?_)
  · obtain ⟨a, ns, rfl, _⟩ := h; rfl
  obtain ⟨a, ns, rfl, ha, k⟩ := h
  obtain ⟨ms, hms⟩ := cut_ints ns none (some 63)
  refine ⟨_, (@pss_one _ _ _ (@ps_ret _ _ _ _ (@pe_disp _ _ _ _ _ (@pps_cons _ _ _ _ _ _ _ _ _ pe_str (@pe_slice _ _ _ _ _ _ _ _ _ _ sl_list (pv 0) po_none (@po_some _ _ _ pe_int)) (@pps_cons _ _ _ _ _ _ _ _ _ pe_str pe_int (@pps_cons _ _ _ _ _ _ _ _ _ pe_str pe_int pps_nil))) (by rfl) (by rfl) (by simp) (by decide)))), ?_⟩
  intro p hp
  have s1 : Same H (upd H p (.dK [])) := same_new hp _
  refine ⟨_, rfl, _, rfl, a, _, rfl, s1.seq ha, fun c hc => ?_⟩
  have hpc : p ≠ c := fun e => by rw [← e, upd_same] at hc; cases hc
  refine ⟨by rw [upd_ne hpc]; exact upd_same, [(.inr "cells", .ref c), (.inr "at", .int 0), (.inr "left", .int 0)], rfl, (by show 3 ≤ 15; decide), ?_⟩
  refine k p _ (fun b o e => ?_) ⟨c, ms, 0, 0, ?_, ?_, by omega, by omega⟩
  · rw [upd_ne (ne_of_none e hp), upd_ne, upd_ne (ne_of_none e hp)]
    · exact e
    · intro z
      subst z
      rw [upd_ne (Ne.symm hpc), e] at hc
      cases hc
  · rw [upd_same]
    rfl
  · rw [upd_ne (Ne.symm hpc), upd_same, hms]
theorem ok_lmeasure (F : FunAt K mg "_law_measure" ["_law_a", "_law_b"] s_l_measure) : Cal P w K mg base "_law_measure" ["_law_a", "_law_b"] 1 spLMeasure := by
  have S := sc_l_measure
  refine F.cal sc_l_measure (fun vs H Q E h => ?_) (fun f cdv A outer s H vs Q E hr h => ?_)
  · obtain ⟨a, b, rfl, _⟩ := h; rfl
  obtain ⟨a, b, rfl, ha, hb, q⟩ := h
  refine ⟨_, (@pss_cons _ _ _ _ _ (@ps_while _ _ _ _ _ _ (by exact PassesOwn.never) (@pt_cmpR _ _ _ _ _ _ _ _ op_gt (pv 1) pe_int (by exact (nomark _))) (@pss_one _ _ _ (@ps_par _ _ (0) (1) _ _ _ _ _ _ _ _ _ _ _ (by rfl) (by exact S.nd) (by rfl) (by rfl) (by decide) (by rfl) (by rfl) (@pa_consN _ _ _ _ _ (pv 1) (@pa_consN _ _ _ _ _ (@pe_op _ _ _ _ _ _ _ _ op_mod (pv 0) (pv 1)) pa_nil (by first|rfl|decide|exact .inl rfl|exact .inr rfl|(intros; rfl))) (by first|rfl|decide|exact .inl rfl|exact .inr rfl|(intros; rfl))) (by rfl) (by first|rfl|decide|exact .inl rfl|exact .inr rfl|(intros; rfl))))) (@pss_one _ _ _ (@ps_ret _ _ _ _ (pv 0)))), ?_⟩
  refine while_by (fun σ H' => H' = H ∧ ∃ x y : Int, σ = [some (.int x), some (.int y)] ∧ 0 ≤ x ∧ 0 ≤ y ∧ gI x y = gI a b) (fun σ _ => match σ with | [_, some (.int y)] => y.toNat | _ => 0) ⟨rfl, _, _, rfl, ha, hb, rfl⟩ ?_ ?_
  · rintro σ H' ⟨rfl, x, y, rfl, hx, hy, hg⟩
    refine ⟨_, rfl, _, _, rfl, rfl, _, rfl, ?_⟩
    refine ite2 (fun c => ?_) (fun c => ?_)
    · have hy0 : 0 < y := of_decide_eq_true c
      refine ⟨_, rfl, _, rfl, _, rfl, _, _, rfl, rfl, hy0, _, _, rfl, ?_⟩
      have hm := Int.emod_nonneg x (show y ≠ 0 by omega)
      have hl := Int.emod_lt_of_pos x hy0
      refine ⟨⟨rfl, _, _, rfl, hy, hm, ?_⟩, ?_⟩
      · rw [gI_step hx]; exact hg
      · show (x % y).toNat < y.toNat
        omega
    · have hy0 : y = 0 := by
        have : ¬ 0 < y := by simpa using c
        omega
      subst hy0
      refine ⟨_, rfl, ?_⟩
      rw [gI_zero hx] at hg
      rw [hg]
      exact q
  · rintro σ H' Q1 Q2 hQ ⟨v, e, h0, b0, h1, h2, b1, e2, h3⟩
    exact ⟨v, e, h0, b0, h1, h2, b1, e2, hQ _ _ h3⟩
theorem joinI1 {C R : Int → Hp → Prop} {G : Prop} (main : (∀ a h, C a h → R a h) → G) (key : ∀ a h, C a h → R a h) : G := main key
theorem ok_draw2 (T : Txt mg) (F : FunAt K mg "_law_draw" ["_law_pen_here", "_law_many"] s_l_draw) : Cal P w K mg base "_law_draw" ["_law_pen_here", "_law_many"] 1 spDraw := by
  have S := sc_l_draw
  refine F.cal sc_l_draw (fun vs H Q E h => ?_) (fun f cdv A outer s H vs Q E hr h => ?_)
  · obtain ⟨p, m, n, rfl, _⟩ := h; rfl
  obtain ⟨p, m, n, rfl, ⟨c, ns, a, l, hp, hc, ha0, han⟩, hn, hm, hm2, k⟩ := h
  have hu := hu_of hr
  have hcp : c ≠ p := ne_of hc hp (by intro z; cases z)
  refine ⟨_, (@pss_cons _ _ _ _ _ (@ps_if _ _ _ _ _ _ _ _ (@pt_cmpR _ _ _ _ _ _ _ _ op_gt (@pe_dget _ _ _ _ _ _ (by exact hu) (pv 0) pe_str (by exact (fun _ _ => rfl))) pe_int (by exact (nomark _))) (@pss_cons _ _ _ _ _ (@ps_set _ _ (5) _ _ _ _ (by exact S.nd) (by rfl) (by first | exact Or.inl rfl | exact Or.inr rfl) (@pe_op _ _ _ _ _ _ _ _ op_mod (@pe_dget _ _ _ _ _ _ (by exact hu) (pv 0) pe_str (by exact (fun _ _ => rfl))) (pv 1)) (by first|rfl|decide|exact .inl rfl|exact .inr rfl|(intros; rfl)) (by first|rfl|decide|exact .inl rfl|exact .inr rfl|(intros; rfl))) (@pss_cons _ _ _ _ _ (@ps_dput _ _ _ _ _ _ _ _ _ (by exact hu) (pv 0) pe_str (@pe_op _ _ _ _ _ _ _ _ op_fdiv (@pe_dget _ _ _ _ _ _ (by exact hu) (pv 0) pe_str (by exact (fun _ _ => rfl))) (pv 1)) (by rfl)) (@pss_one _ _ _ (@ps_ret _ _ _ _ (pv 5))))) pss_nil) (@pss_cons _ _ _ _ _ (@ps_set _ _ (2) _ _ _ _ (by exact S.nd) (by rfl) (by first | exact Or.inl rfl | exact Or.inr rfl) (@pe_dget _ _ _ _ _ _ (by exact hu) (pv 0) pe_str (by exact (fun _ _ => rfl))) (by first|rfl|decide|exact .inl rfl|exact .inr rfl|(intros; rfl)) (by first|rfl|decide|exact .inl rfl|exact .inr rfl|(intros; rfl))) (@pss_cons _ _ _ _ _ (@ps_dput _ _ _ _ _ _ _ _ _ (by exact hu) (pv 0) pe_str (@pe_op _ _ _ _ _ _ _ _ op_add (pv 2) pe_int) (by rfl)) (@pss_cons _ _ _ _ _ (@ps_set _ _ (3) _ _ _ _ (by exact S.nd) (by rfl) (by first | exact Or.inl rfl | exact Or.inr rfl) (@pe_op _ _ _ _ _ _ _ _ op_add (@pe_op _ _ _ _ _ _ _ _ op_mul (@pe_op _ _ _ _ _ _ _ _ op_mul pe_int (pv 2)) (pv 2)) pe_int) (by first|rfl|decide|exact .inl rfl|exact .inr rfl|(intros; rfl)) (by first|rfl|decide|exact .inl rfl|exact .inr rfl|(intros; rfl))) (@pss_cons _ _ _ _ _ (@ps_if _ _ _ _ _ _ _ _ (@pt_cmpR _ _ _ _ _ _ _ _ op_gt (@pe_callB _ _ _ _ _ _ _ _ _ call_len_seq (by rfl) (by exact T.z_len) (by exact bt_len) (@pa_consN _ _ _ _ _ (@pe_dget _ _ _ _ _ _ (by exact hu) (pv 0) pe_str (by exact (fun _ _ => rfl))) pa_nil (by first|rfl|decide|exact .inl rfl|exact .inr rfl|(intros; rfl))) (by first|rfl|decide|exact .inl rfl|exact .inr rfl|(intros; rfl)) (by first|rfl|decide|exact .inl rfl|exact .inr rfl|(intros; rfl)) (by first|rfl|decide|exact .inl rfl|exact .inr rfl|(intros; rfl)) (by first|rfl|decide|exact .inl rfl|exact .inr rfl|(intros; rfl))) pe_int (by exact (nomark _))) (@pss_one _ _ _ (@ps_set _ _ (3) _ _ _ _ (by exact S.nd) (by rfl) (by first | exact Or.inl rfl | exact Or.inr rfl) (@pe_ix _ _ _ _ _ _ _ ix_list (@pe_dget _ _ _ _ _ _ (by exact hu) (pv 0) pe_str (by exact (fun _ _ => rfl))) (@pe_op _ _ _ _ _ _ _ _ op_mod (pv 2) (@pe_callB _ _ _ _ _ _ _ _ _ call_len_seq (by rfl) (by exact T.z_len) (by exact bt_len) (@pa_consN _ _ _ _ _ (@pe_dget _ _ _ _ _ _ (by exact hu) (pv 0) pe_str (by exact (fun _ _ => rfl))) pa_nil (by first|rfl|decide|exact .inl rfl|exact .inr rfl|(intros; rfl))) (by first|rfl|decide|exact .inl rfl|exact .inr rfl|(intros; rfl)) (by first|rfl|decide|exact .inl rfl|exact .inr rfl|(intros; rfl)) (by first|rfl|decide|exact .inl rfl|exact .inr rfl|(intros; rfl)) (by first|rfl|decide|exact .inl rfl|exact .inr rfl|(intros; rfl)))) (by exact (fun _ _ => rfl))) (by first|rfl|decide|exact .inl rfl|exact .inr rfl|(intros; rfl)) (by first|rfl|decide|exact .inl rfl|exact .inr rfl|(intros; rfl)))) pss_nil) (@pss_cons _ _ _ _ _ (@ps_if _ _ _ _ _ _ _ _ (@PW.pt _ _ _ (@pw_and _ _ _ _ _ _ _ (@pt_cmpR _ _ _ _ _ _ _ _ op_lt (pv 2) (@pe_callB _ _ _ _ _ _ _ _ _ call_len_seq (by rfl) (by exact T.z_len) (by exact bt_len) (@pa_consN _ _ _ _ _ (@pe_dget _ _ _ _ _ _ (by exact hu) (pv 0) pe_str (by exact (fun _ _ => rfl))) pa_nil (by first|rfl|decide|exact .inl rfl|exact .inr rfl|(intros; rfl))) (by first|rfl|decide|exact .inl rfl|exact .inr rfl|(intros; rfl)) (by first|rfl|decide|exact .inl rfl|exact .inr rfl|(intros; rfl)) (by first|rfl|decide|exact .inl rfl|exact .inr rfl|(intros; rfl)) (by first|rfl|decide|exact .inl rfl|exact .inr rfl|(intros; rfl))) (by exact (nomark _))) (@pw_and1 _ _ _ _ (@pt_cmpR _ _ _ _ _ _ _ _ op_ge (@pe_callB _ _ _ _ _ _ _ _ _ call_abs (by rfl) (by exact T.z_abs) (by exact bt_abs) (@pa_consN _ _ _ _ _ (pv 3) pa_nil (by first|rfl|decide|exact .inl rfl|exact .inr rfl|(intros; rfl))) (by first|rfl|decide|exact .inl rfl|exact .inr rfl|(intros; rfl)) (by first|rfl|decide|exact .inl rfl|exact .inr rfl|(intros; rfl)) (by first|rfl|decide|exact .inl rfl|exact .inr rfl|(intros; rfl)) (by first|rfl|decide|exact .inl rfl|exact .inr rfl|(intros; rfl))) (@pe_op _ _ _ _ _ _ _ _ op_pow pe_int pe_int) (by exact (nomark _)))))) (@pss_cons _ _ _ _ _ (@ps_dput _ _ _ _ _ _ _ _ _ (by exact hu) (pv 0) pe_str (@pe_op _ _ _ _ _ _ _ _ op_fdiv (@pe_callB _ _ _ _ _ _ _ _ _ call_abs (by rfl) (by exact T.z_abs) (by exact bt_abs) (@pa_consN _ _ _ _ _ (pv 3) pa_nil (by first|rfl|decide|exact .inl rfl|exact .inr rfl|(intros; rfl))) (by first|rfl|decide|exact .inl rfl|exact .inr rfl|(intros; rfl)) (by first|rfl|decide|exact .inl rfl|exact .inr rfl|(intros; rfl)) (by first|rfl|decide|exact .inl rfl|exact .inr rfl|(intros; rfl)) (by first|rfl|decide|exact .inl rfl|exact .inr rfl|(intros; rfl))) (pv 1)) (by rfl)) (@pss_one _ _ _ (@ps_ret _ _ _ _ (@pe_op _ _ _ _ _ _ _ _ op_mod (@pe_callB _ _ _ _ _ _ _ _ _ call_abs (by rfl) (by exact T.z_abs) (by exact bt_abs) (@pa_consN _ _ _ _ _ (pv 3) pa_nil (by first|rfl|decide|exact .inl rfl|exact .inr rfl|(intros; rfl))) (by first|rfl|decide|exact .inl rfl|exact .inr rfl|(intros; rfl)) (by first|rfl|decide|exact .inl rfl|exact .inr rfl|(intros; rfl)) (by first|rfl|decide|exact .inl rfl|exact .inr rfl|(intros; rfl)) (by first|rfl|decide|exact .inl rfl|exact .inr rfl|(intros; rfl))) (pv 1))))) pss_nil) (@pss_cons _ _ _ _ _ (@ps_set _ _ (4) _ _ _ _ (by exact S.nd) (by rfl) (by first | exact Or.inl rfl | exact Or.inr rfl) (@pe_op _ _ _ _ _ _ _ _ op_mod (@pe_op _ _ _ _ _ _ _ _ op_mul (@pe_op _ _ _ _ _ _ _ _ op_add (@pe_op _ _ _ _ _ _ _ _ op_add (@pe_op _ _ _ _ _ _ _ _ op_mod (pv 3) pe_int) (@pe_op _ _ _ _ _ _ _ _ op_mul pe_int (pv 2))) pe_int) pe_int) pe_int) (by first|rfl|decide|exact .inl rfl|exact .inr rfl|(intros; rfl)) (by first|rfl|decide|exact .inl rfl|exact .inr rfl|(intros; rfl))) (@pss_cons _ _ _ _ _ (@ps_set _ _ (4) _ _ _ _ (by exact S.nd) (by rfl) (by first | exact Or.inl rfl | exact Or.inr rfl) (@pe_op _ _ _ _ _ _ _ _ op_mod (@pe_op _ _ _ _ _ _ _ _ op_add (@pe_op _ _ _ _ _ _ _ _ op_add (@pe_op _ _ _ _ _ _ _ _ op_mul (pv 4) (pv 4)) (@pe_op _ _ _ _ _ _ _ _ op_mul pe_int (pv 4))) (pv 2)) pe_int) (by first|rfl|decide|exact .inl rfl|exact .inr rfl|(intros; rfl)) (by first|rfl|decide|exact .inl rfl|exact .inr rfl|(intros; rfl))) (@pss_cons _ _ _ _ _ (@ps_set _ _ (4) _ _ _ _ (by exact S.nd) (by rfl) (by first | exact Or.inl rfl | exact Or.inr rfl) (@pe_op _ _ _ _ _ _ _ _ op_mod (@pe_op _ _ _ _ _ _ _ _ op_mul (pv 4) (@pe_op _ _ _ _ _ _ _ _ op_add (@pe_op _ _ _ _ _ _ _ _ op_mod (pv 4) pe_int) pe_int)) pe_int) (by first|rfl|decide|exact .inl rfl|exact .inr rfl|(intros; rfl)) (by first|rfl|decide|exact .inl rfl|exact .inr rfl|(intros; rfl))) (@pss_one _ _ _ (@ps_ret _ _ _ _ (@pe_op _ _ _ _ _ _ _ _ op_mod (@pe_op _ _ _ _ _ _ _ _ op_fdiv (pv 4) pe_int) (pv 1))))))))))))), ?_⟩
  apply joinI1 (C := fun (x : Int) (H' : Hp) => Pen H' p (n + 1) ∧ SameX p H H')
  case main =>
    intro key
    have gl := get_left hp
    refine ⟨_, rfl, p, _, rfl, gl, _, _, rfl, rfl, _, rfl, ?_⟩
    refine ite2 (fun _ => ?_) (fun _ => ?_)
    · refine ⟨_, rfl, p, _, rfl, gl, _, rfl, _, _, rfl, rfl, hm, ?_⟩
      refine ⟨_, rfl, p, _, rfl, gl, _, rfl, _, _, rfl, rfl, ⟨hm, hm2⟩, _, rfl, p, _, rfl, dput_left hp, ?_⟩
      refine ⟨_, rfl, ?_⟩
      exact k _ _ (Int.emod_nonneg _ (by omega)) (Int.emod_lt_of_pos _ hm) ⟨c, ns, a, _, upd_same, by rw [upd_ne hcp]; exact hc, ha0, by omega⟩ (SameX.upd hp)
    refine ⟨_, rfl, p, _, rfl, get_at hp, ?_⟩
    refine ⟨_, rfl, _, _, rfl, rfl, _, rfl, p, _, rfl, dput_at hp, ?_⟩
    have hp1 : (upd H p (.dK (penL c (a + 1) l))) p = some (.dK (penL c (a + 1) l)) := upd_same
    have hc1 : (upd H p (.dK (penL c (a + 1) l))) c = some (.lst (ns.map V.int)) := by rw [upd_ne hcp]; exact hc
    have x1 : SameX p H (upd H p (.dK (penL c (a + 1) l))) := SameX.upd hp
    generalize upd H p (.dK (penL c (a + 1) l)) = H1 at hp1 hc1 x1
    have gc := get_cells hp1
    have pen1 : Pen H1 p (n + 1) := ⟨c, ns, a + 1, l, hp1, hc1, by omega, by omega⟩
    have ha1 : a ≤ 100000 := by omega
    have haa : 0 ≤ 11 * a ∧ 11 * a ≤ 1100000 := by omega
    refine ⟨_, rfl, _, _, rfl, rfl, .inl ⟨by decide, by decide⟩, _, rfl, _, _, rfl, rfl, .inl ⟨by omega, by omega⟩, _, _, rfl, rfl, ?_⟩
    refine ⟨_, rfl, p, _, rfl, gc, c, _, rfl, .inl (SqL.of hc1), _, _, rfl, rfl, _, rfl, ?_⟩
    refine ite2 (fun c0 => ?_) (fun c0 => ?_)
    · have hl : 0 < ns.length := by
        have : (0 : Int) < (((ns.map V.int).length : Nat) : Int) := of_decide_eq_true c0
        rw [List.length_map] at this
        omega
      obtain ⟨z, hz⟩ := cell_at (ns := ns) a hl
      refine ⟨_, rfl, p, _, rfl, gc, _, rfl, _, rfl, p, _, rfl, gc, c, _, rfl, .inl (SqL.of hc1), _, _, rfl, rfl, (by rw [List.length_map]; omega), c, _, _, _, rfl, rfl, SqL.of hc1, hz, ?_⟩
      refine ⟨_, rfl, _, rfl, p, _, rfl, gc, c, _, rfl, .inl (SqL.of hc1), _, _, rfl, rfl, _, rfl, ?_⟩
      refine ite2 (fun c1 => ?_) (fun c1 => iteF ?_)
      · refine ⟨_, rfl, _, rfl, _, _, rfl, rfl, ⟨by decide, by decide, by decide⟩, _, _, rfl, rfl, _, rfl, ?_⟩
        refine ite2 (fun c2 => ?_) (fun c2 => ?_)
        · refine ⟨_, rfl, _, rfl, _, rfl, _, _, rfl, rfl, ⟨hm, hm2⟩, _, rfl, p, _, rfl, dput_left hp1, ?_⟩
          refine ⟨_, rfl, _, rfl, _, rfl, _, _, rfl, rfl, hm, ?_⟩
          exact k _ _ (Int.emod_nonneg _ (by omega)) (Int.emod_lt_of_pos _ hm) ⟨c, ns, a + 1, _, upd_same, by rw [upd_ne hcp]; exact hc1, by omega, by omega⟩ (x1.trans (SameX.upd hp1))
        · exact key z H1 ⟨pen1, x1⟩
      · exact key z H1 ⟨pen1, x1⟩
    · refine ⟨_, rfl, _, rfl, p, _, rfl, gc, c, _, rfl, .inl (SqL.of hc1), _, _, rfl, rfl, _, rfl, ?_⟩
      refine ite2 (fun c1 => ?_) (fun c1 => iteF ?_)
      · exfalso
        have e1 : ¬ (0 : Int) < (((ns.map V.int).length : Nat) : Int) := by simpa using c0
        have e2 : a < (((ns.map V.int).length : Nat) : Int) := of_decide_eq_true c1
        omega
      · exact key (11 * a * a + 5) H1 ⟨pen1, x1⟩
  case key =>
    rintro x H' ⟨pen1, x1⟩
    have a1 : a ≤ 100000 := by omega
    have e0 := Int.emod_nonneg x (show (2147483629 : Int) ≠ 0 by decide)
    have e1 := Int.emod_lt_of_pos x (show (0 : Int) < 2147483629 by decide)
    refine ⟨_, rfl, _, _, rfl, rfl, (show (0 : Int) < 2147483629 by decide), _, rfl, _, _, rfl, rfl, .inl ⟨by decide, by decide⟩, _, _, rfl, rfl, _, _, rfl, rfl, _, _, rfl, rfl, .inr ⟨by decide, by decide⟩, _, _, rfl, rfl, (show (0 : Int) < 2147483647 by decide), ?_⟩
    have w0 := Int.emod_nonneg ((x % 2147483629 + 104729 * a + 1) * 48271) (show (2147483647 : Int) ≠ 0 by decide)
    have w1 := Int.emod_lt_of_pos ((x % 2147483629 + 104729 * a + 1) * 48271) (show (0 : Int) < 2147483647 by decide)
    generalize (x % 2147483629 + 104729 * a + 1) * 48271 % 2147483647 = y at w0 w1
    refine ⟨_, rfl, _, rfl, _, _, rfl, rfl, .inl ⟨by omega, by omega⟩, _, rfl, _, _, rfl, rfl, .inl ⟨by decide, by decide⟩, _, _, rfl, rfl, _, rfl, _, _, rfl, rfl, _, _, rfl, rfl, (show (0 : Int) < 2147483587 by decide), ?_⟩
    have u0 := Int.emod_nonneg (y * y + 69621 * y + a) (show (2147483587 : Int) ≠ 0 by decide)
    have u1 := Int.emod_lt_of_pos (y * y + 69621 * y + a) (show (0 : Int) < 2147483587 by decide)
    generalize (y * y + 69621 * y + a) % 2147483587 = z at u0 u1
    refine ⟨_, rfl, _, rfl, _, _, rfl, rfl, (show (0 : Int) < 65521 by decide), _, _, rfl, rfl, _, _, rfl, rfl, .inl ⟨by omega, by omega⟩, _, _, rfl, rfl, (show (0 : Int) < 2147483579 by decide), ?_⟩
    refine ⟨_, rfl, _, _, rfl, rfl, ⟨by decide, by decide⟩, _, rfl, _, _, rfl, rfl, hm, ?_⟩
    exact k _ _ (Int.emod_nonneg _ (by omega)) (Int.emod_lt_of_pos _ hm) pen1 x1
/-! the mirrors -/
def lowF (t b : Int) : Int × Int := (t / gI t b, b / gI t b)
def spLowest : Sp := fun vs H Q _ => ∃ t b : Int, vs = [.int t, .int b] ∧ 0 ≤ t ∧ 0 < b ∧ Bt 8000 b ∧ ∀ v H', Same H H' → PrAt H' v (lowF t b) → Q v H'
theorem ok_lowest (C_l_measure : Cal P w K mg base "_law_measure" ["_law_a", "_law_b"] 1 spLMeasure) (F : FunAt K mg "_law_lowest" ["_law_top", "_law_bottom"] s_l_lowest) : Cal P w K mg base "_law_lowest" ["_law_top", "_law_bottom"] 2 spLowest := by
  have S := sc_l_lowest
  refine F.cal sc_l_lowest (fun vs H Q E h => ?_) (fun f cdv A outer s H vs Q E hr h => ?_)
  · obtain ⟨t, b, rfl, _⟩ := h; rfl
  obtain ⟨t, b, rfl, ht, hb, bb, k⟩ := h
  refine ⟨_, (@pss_cons _ _ _ _ _ (@ps_set _ _ (2) _ _ _ _ (by exact S.nd) (by rfl) (by first | exact Or.inl rfl | exact Or.inr rfl) (@cc _ _ _ _ _ _ _ _ _ _ (by exact C_l_measure) (by exact (hr.mono (by decide))) (@pa_consN _ _ _ _ _ (pv 0) (@pa_consN _ _ _ _ _ (pv 1) pa_nil (by first|rfl|decide|exact .inl rfl|exact .inr rfl|(intros; rfl))) (by first|rfl|decide|exact .inl rfl|exact .inr rfl|(intros; rfl))) (by first|rfl|decide|exact .inl rfl|exact .inr rfl|(intros; rfl)) (by first|rfl|decide|exact .inl rfl|exact .inr rfl|(intros; rfl)) (by first|rfl|decide|exact .inl rfl|exact .inr rfl|(intros; rfl)) (by first|rfl|decide|exact .inl rfl|exact .inr rfl|(intros; rfl))) (by first|rfl|decide|exact .inl rfl|exact .inr rfl|(intros; rfl)) (by first|rfl|decide|exact .inl rfl|exact .inr rfl|(intros; rfl))) (@pss_one _ _ _ (@ps_ret _ _ _ _ (@pe_tup _ _ _ _ _ (@pa_consN _ _ _ _ _ (@pe_op _ _ _ _ _ _ _ _ op_fdivB (pv 0) (pv 2)) (@pa_consN _ _ _ _ _ (@pe_op _ _ _ _ _ _ _ _ op_fdivB (pv 1) (pv 2)) pa_nil (by first|rfl|decide|exact .inl rfl|exact .inr rfl|(intros; rfl))) (by first|rfl|decide|exact .inl rfl|exact .inr rfl|(intros; rfl))))))), ?_⟩
  have g0 := gI_pos_right (a := t) (b := b) (by omega)
  have gb : Bt 8000 (gI t b) := bb.gr (by omega)
  refine ⟨_, rfl, _, rfl, _, _, rfl, ht, by omega, ?_⟩
  refine ⟨_, rfl, _, rfl, _, _, rfl, rfl, ⟨g0, gb⟩, _, rfl, _, rfl, _, _, rfl, rfl, ⟨g0, gb⟩, lz 2 rfl, fun p hp => ?_⟩
  exact k _ _ (same_new hp _) ⟨p, rfl, upd_same⟩
theorem same_upd {H H' : Hp} {l : Addr} {o : HO} (s : Same H H') (hl : H l = none) : Same H (upd H' l o) := fun b u e => by rw [upd_ne (ne_of_none e hl)]; exact s _ _ e
theorem joinA {C R : Addr → Hp → Prop} {G : Prop} (main : (∀ a h, C a h → R a h) → G) (key : ∀ a h, C a h → R a h) : G := main key
theorem joinIA {C R : Int → Addr → Hp → Prop} {G : Prop} (main : (∀ i a h, C i a h → R i a h) → G) (key : ∀ i a h, C i a h → R i a h) : G := main key
/-- a list of small numbers, new since H -/
def WAt (H H' : Hp) (p : Addr) (m : Nat) (n : Int) (l : Addr) : Prop := Pen H' p m ∧ SameX p H H' ∧ H l = none ∧ ∃ ns : List Int, H' l = some (.lst (ns.map V.int)) ∧ ns.length = n.toNat ∧ ∀ x ∈ ns, 0 ≤ x ∧ x ≤ 100
def spWeights : Sp := fun vs H Q _ => ∃ (p : Addr) (n : Int) (m : Nat), vs = [.ref p, .int n] ∧ Pen H p m ∧ m < 70000 ∧ 1 ≤ n ∧ n ≤ 12 ∧ ∀ (l : Addr) (ns : List Int) (H' : Hp), H' l = some (.lst (ns.map V.int)) → ns.length = n.toNat → (∀ x ∈ ns, 0 ≤ x ∧ x ≤ 100) → 0 < ns.sum → Pen H' p (m + 15) → SameX p H H' → Q (.ref l) H'
theorem sum_nn : ∀ {ns : List Int}, (∀ x ∈ ns, 0 ≤ x ∧ x ≤ 100) → 0 ≤ ns.sum
  | [], _ => by simp
  | x :: ns, h => by
    have := sum_nn (ns := ns) fun y hy => h y (List.mem_cons_of_mem _ hy)
    have := h x List.mem_cons_self
    simp only [List.sum_cons]
    omega
theorem cut_mem {ns : List Int} {lo hi : Option Int} : ∃ ms : List Int, cutV (ns.map V.int) lo hi = ms.map V.int ∧ (∀ x ∈ ms, x ∈ ns) := by
  unfold cutV
  rw [← List.map_drop, ← List.map_take]
  exact ⟨_, rfl, fun x hx => List.mem_of_mem_drop (List.mem_of_mem_take hx)⟩
theorem cut_from {xs : List V} {a : Nat} (h : a ≤ xs.length) : (cutV xs (some (a : Int)) none).length = xs.length - a := by
  unfold cutV
  rw [HT.sIx_nat, HT.sIx_none, List.length_take, List.length_drop]
  omega
theorem rep0 (x : Int) : ∀ k : Nat, (List.replicate k [V.int x]).flatten = (List.replicate k x).map V.int
  | 0 => rfl
  | k + 1 => by rw [List.replicate_succ, List.flatten_cons, rep0 x k, List.replicate_succ]; rfl
theorem sum_set_pos {ns : List Int} (h : ∀ x ∈ ns, 0 ≤ x ∧ x ≤ 100) {j : Nat} (hj : j < ns.length) {v : Int} (hv : 1 ≤ v ∧ v ≤ 100) : (∀ x ∈ ns.set j v, 0 ≤ x ∧ x ≤ 100) ∧ 0 < (ns.set j v).sum := by
  have h1 : ∀ x ∈ ns.set j v, 0 ≤ x ∧ x ≤ 100 := fun x hx => by
    rcases List.mem_or_eq_of_mem_set hx with z | z
    · exact h x z
    · omega
  refine ⟨h1, ?_⟩
  have key : ∀ (ms : List Int), (∀ x ∈ ms, 0 ≤ x ∧ x ≤ 100) → v ∈ ms → v ≤ ms.sum := by
    intro ms
    induction ms with
    | nil => intro _ hm; simp at hm
    | cons y ms ih =>
      intro hall hm
      have n0 := sum_nn (ns := ms) fun z hz => hall z (List.mem_cons_of_mem _ hz)
      have y0 := hall y List.mem_cons_self
      simp only [List.sum_cons]
      rcases List.mem_cons.mp hm with rfl | hm
      · omega
      · have := ih (fun z hz => hall z (List.mem_cons_of_mem _ hz)) hm
        omega
  have := key _ h1 (List.mem_set hj v)
  omega
theorem way_at {d : Int} (h0 : 0 ≤ d) (h1 : d < 6) : ∃ z : Int, 2 ≤ z ∧ z ≤ 80 ∧ atI ([.int 10, .int 2, .int 4, .int 10, .int 10, .int 80] : List V) d = some (.int z) := by
  rcases (show d = 0 ∨ d = 1 ∨ d = 2 ∨ d = 3 ∨ d = 4 ∨ d = 5 by omega) with rfl | rfl | rfl | rfl | rfl | rfl
  · exact ⟨10, by decide, by decide, rfl⟩
  · exact ⟨2, by decide, by decide, rfl⟩
  · exact ⟨4, by decide, by decide, rfl⟩
  · exact ⟨10, by decide, by decide, rfl⟩
  · exact ⟨10, by decide, by decide, rfl⟩
  · exact ⟨80, by decide, by decide, rfl⟩
theorem ok_weights (T : Txt2 mg) (C_l_draw : Cal P w K mg base "_law_draw" ["_law_pen_here", "_law_many"] 1 spDraw) (F : FunAt K mg "_law_weights" ["_law_pen_here", "_law_n"] s_l_weights) : Cal P w K mg base "_law_weights" ["_law_pen_here", "_law_n"] 2 spWeights := by
  have S := sc_l_weights
  refine F.cal sc_l_weights (fun vs H Q E h => ?_) (fun f cdv A outer s H vs Q E hr h => ?_)
  · obtain ⟨p, n, m, rfl, _⟩ := h; rfl
  obtain ⟨p, n, m, rfl, hp, hm, n1, n2, k⟩ := h
  refine ⟨_, (@pss_cons _ _ _ _ _ (@ps_set _ _ (2) _ _ _ _ (by exact S.nd) (by rfl) (by first | exact Or.inl rfl | exact Or.inr rfl) (@cc _ _ _ _ _ _ _ _ _ _ (by exact C_l_draw) (by exact (hr.mono (by decide))) (@pa_consN _ _ _ _ _ (pv 0) (@pa_consN _ _ _ _ _ pe_int pa_nil (by first|rfl|decide|exact .inl rfl|exact .inr rfl|(intros; rfl))) (by first|rfl|decide|exact .inl rfl|exact .inr rfl|(intros; rfl))) (by first|rfl|decide|exact .inl rfl|exact .inr rfl|(intros; rfl)) (by first|rfl|decide|exact .inl rfl|exact .inr rfl|(intros; rfl)) (by first|rfl|decide|exact .inl rfl|exact .inr rfl|(intros; rfl)) (by first|rfl|decide|exact .inl rfl|exact .inr rfl|(intros; rfl))) (by first|rfl|decide|exact .inl rfl|exact .inr rfl|(intros; rfl)) (by first|rfl|decide|exact .inl rfl|exact .inr rfl|(intros; rfl))) (@pss_cons _ _ _ _ _ (@ps_comp _ _ _ _ _ _ _ _ _ _ _ _ _ _ _ (3) _ (by exact S.nd) (by rfl) (by first | exact Or.inl rfl | exact Or.inr rfl) (by rfl) (by exact (fun _ _ h => h)) (by decide +kernel) (by rfl) (by decide +kernel) (by exact hfr_of rfl) (by exact Sees.frees ["_law_rank"] [("_law_pen_here", 0), ("_law_way", 2)] (fr_cons ⟨rfl, rfl⟩ (fr_cons ⟨rfl, rfl⟩ fr_nil))) (@pi_range1 _ _ _ _ _ _ (by rfl) (by exact T.z_range) (@pa_consN _ _ _ _ _ (pv 1) pa_nil (by first|rfl|decide|exact .inl rfl|exact .inr rfl|(intros; rfl))) (by first|rfl|decide|exact .inl rfl|exact .inr rfl|(intros; rfl))) (fun _ _ _ _ _ => @pg_name _ _ (0) _ (by exact (show (["_law_rank", "_law_pen_here", "_law_way"] : List Str).Nodup by decide +kernel)) (by rfl) (by first | exact Or.inl rfl | exact Or.inr rfl) (by first|rfl|decide|exact .inl rfl|exact .inr rfl|(intros; rfl))) (fun _ _ _ _ _ => pts_nil) (fun _ _ _ _ _ => (@cc _ _ _ _ _ _ _ _ _ _ (by exact C_l_draw) (by exact (hr.mono (by decide))) (@pa_consN _ _ _ _ _ (pv 1) (@pa_consN _ _ _ _ _ (@pe_ix _ _ _ _ _ _ _ ix_list0 (@pe_lst _ _ _ _ (@pa_consN _ _ _ _ _ pe_int (@pa_consN _ _ _ _ _ pe_int (@pa_consN _ _ _ _ _ pe_int (@pa_consN _ _ _ _ _ pe_int (@pa_consN _ _ _ _ _ pe_int (@pa_consN _ _ _ _ _ pe_int pa_nil (by first|rfl|decide|exact .inl rfl|exact .inr rfl|(intros; rfl))) (by first|rfl|decide|exact .inl rfl|exact .inr rfl|(intros; rfl))) (by first|rfl|decide|exact .inl rfl|exact .inr rfl|(intros; rfl))) (by first|rfl|decide|exact .inl rfl|exact .inr rfl|(intros; rfl))) (by first|rfl|decide|exact .inl rfl|exact .inr rfl|(intros; rfl))) (by first|rfl|decide|exact .inl rfl|exact .inr rfl|(intros; rfl)))) (pv 2) (by exact (fun _ _ => rfl))) pa_nil (by first|rfl|decide|exact .inl rfl|exact .inr rfl|(intros; rfl))) (by first|rfl|decide|exact .inl rfl|exact .inr rfl|(intros; rfl))) (by first|rfl|decide|exact .inl rfl|exact .inr rfl|(intros; rfl)) (by first|rfl|decide|exact .inl rfl|exact .inr rfl|(intros; rfl)) (by first|rfl|decide|exact .inl rfl|exact .inr rfl|(intros; rfl)) (by first|rfl|decide|exact .inl rfl|exact .inr rfl|(intros; rfl)))) (by first|rfl|decide|exact .inl rfl|exact .inr rfl|(intros; rfl)) (by first|rfl|decide|exact .inl rfl|exact .inr rfl|(intros; rfl)) (by first|rfl|decide|exact .inl rfl|exact .inr rfl|(intros; rfl))) (@pss_cons _ _ _ _ _ (@ps_set _ _ (4) _ _ _ _ (by exact S.nd) (by rfl) (by first | exact Or.inl rfl | exact Or.inr rfl) (@cc _ _ _ _ _ _ _ _ _ _ (by exact C_l_draw) (by exact (hr.mono (by decide))) (@pa_consN _ _ _ _ _ (pv 0) (@pa_consN _ _ _ _ _ (pv 1) pa_nil (by first|rfl|decide|exact .inl rfl|exact .inr rfl|(intros; rfl))) (by first|rfl|decide|exact .inl rfl|exact .inr rfl|(intros; rfl))) (by first|rfl|decide|exact .inl rfl|exact .inr rfl|(intros; rfl)) (by first|rfl|decide|exact .inl rfl|exact .inr rfl|(intros; rfl)) (by first|rfl|decide|exact .inl rfl|exact .inr rfl|(intros; rfl)) (by first|rfl|decide|exact .inl rfl|exact .inr rfl|(intros; rfl))) (by first|rfl|decide|exact .inl rfl|exact .inr rfl|(intros; rfl)) (by first|rfl|decide|exact .inl rfl|exact .inr rfl|(intros; rfl))) (@pss_cons _ _ _ _ _ (@ps_if _ _ _ _ _ _ _ _ (@pt_cmpR _ _ _ _ _ _ _ _ op_eq (pv 2) pe_int (by exact (nomark _))) (@pss_one _ _ _ (@ps_comp _ _ _ _ _ _ _ _ _ _ _ _ _ _ _ (3) _ (by exact S.nd) (by rfl) (by first | exact Or.inl rfl | exact Or.inr rfl) (by rfl) (by exact (fun _ _ h => h)) (by decide +kernel) (by rfl) (by decide +kernel) (by exact hfr_of rfl) (by exact Sees.frees ["_law_rank"] [("_law_at", 4)] (fr_cons ⟨rfl, rfl⟩ fr_nil)) (@pi_range1 _ _ _ _ _ _ (by rfl) (by exact T.z_range) (@pa_consN _ _ _ _ _ (pv 1) pa_nil (by first|rfl|decide|exact .inl rfl|exact .inr rfl|(intros; rfl))) (by first|rfl|decide|exact .inl rfl|exact .inr rfl|(intros; rfl))) (fun _ _ _ _ _ => @pg_name _ _ (0) _ (by exact (show (["_law_rank", "_law_at"] : List Str).Nodup by decide +kernel)) (by rfl) (by first | exact Or.inl rfl | exact Or.inr rfl) (by first|rfl|decide|exact .inl rfl|exact .inr rfl|(intros; rfl))) (fun _ _ _ _ _ => pts_nil) (fun _ _ _ _ _ => (@pe_callTy _ _ _ _ _ _ _ _ _ call_int1 (by rfl) (by exact T.z_int) (by exact bt_int) (@pa_consN _ _ _ _ _ (@pe_cmpR _ _ _ _ _ _ _ _ op_eq (pv 0) (pv 1) (by exact (nomark _))) pa_nil (by first|rfl|decide|exact .inl rfl|exact .inr rfl|(intros; rfl))) (by first|rfl|decide|exact .inl rfl|exact .inr rfl|(intros; rfl)) (by first|rfl|decide|exact .inl rfl|exact .inr rfl|(intros; rfl)) (by first|rfl|decide|exact .inl rfl|exact .inr rfl|(intros; rfl)) (by first|rfl|decide|exact .inl rfl|exact .inr rfl|(intros; rfl)))) (by first|rfl|decide|exact .inl rfl|exact .inr rfl|(intros; rfl)) (by first|rfl|decide|exact .inl rfl|exact .inr rfl|(intros; rfl)) (by first|rfl|decide|exact .inl rfl|exact .inr rfl|(intros; rfl)))) pss_nil) (@pss_cons _ _ _ _ _ (@ps_if _ _ _ _ _ _ _ _ (@pt_cmpR _ _ _ _ _ _ _ _ op_eq (pv 2) pe_int (by exact (nomark _))) (@pss_one _ _ _ (@ps_set _ _ (3) _ _ _ _ (by exact S.nd) (by rfl) (by first | exact Or.inl rfl | exact Or.inr rfl) (@pe_op _ _ _ _ _ _ _ _ op_cat (@pe_op _ _ _ _ _ _ _ _ op_rep (@pe_lst _ _ _ _ (@pa_consN _ _ _ _ _ pe_int pa_nil (by first|rfl|decide|exact .inl rfl|exact .inr rfl|(intros; rfl)))) (pv 4)) (@pe_slice _ _ _ _ _ _ _ _ _ _ sl_list (pv 3) (@po_some _ _ _ (pv 4)) po_none)) (by first|rfl|decide|exact .inl rfl|exact .inr rfl|(intros; rfl)) (by first|rfl|decide|exact .inl rfl|exact .inr rfl|(intros; rfl)))) pss_nil) (@pss_cons _ _ _ _ _ (@ps_if _ _ _ _ _ _ _ _ (@pt_cmpR _ _ _ _ _ _ _ _ op_eq (@pe_callB _ _ _ _ _ _ _ _ _ (call_sum (by rfl)) (by rfl) (by exact T.z_sum) (by exact bt_sum) (@pa_consN _ _ _ _ _ (pv 3) pa_nil (by first|rfl|decide|exact .inl rfl|exact .inr rfl|(intros; rfl))) (by first|rfl|decide|exact .inl rfl|exact .inr rfl|(intros; rfl)) (by first|rfl|decide|exact .inl rfl|exact .inr rfl|(intros; rfl)) (by first|rfl|decide|exact .inl rfl|exact .inr rfl|(intros; rfl)) (by first|rfl|decide|exact .inl rfl|exact .inr rfl|(intros; rfl))) pe_int (by exact (nomark _))) (@pss_one _ _ _ (@ps_asg _ _ _ _ _ _ (@pe_op _ _ _ _ _ _ _ _ op_add pe_int (@cc _ _ _ _ _ _ _ _ _ _ (by exact C_l_draw) (by exact (hr.mono (by decide))) (@pa_consN _ _ _ _ _ (pv 0) (@pa_consN _ _ _ _ _ pe_int pa_nil (by first|rfl|decide|exact .inl rfl|exact .inr rfl|(intros; rfl))) (by first|rfl|decide|exact .inl rfl|exact .inr rfl|(intros; rfl))) (by first|rfl|decide|exact .inl rfl|exact .inr rfl|(intros; rfl)) (by first|rfl|decide|exact .inl rfl|exact .inr rfl|(intros; rfl)) (by first|rfl|decide|exact .inl rfl|exact .inr rfl|(intros; rfl)) (by first|rfl|decide|exact .inl rfl|exact .inr rfl|(intros; rfl)))) (@pg_sub _ _ _ _ _ _ _ (pv 3) (pv 4) set_list (by first|rfl|decide|exact .inl rfl|exact .inr rfl|(intros; rfl))) (by first|rfl|decide|exact .inl rfl|exact .inr rfl|(intros; rfl)) (by first|rfl|decide|exact .inl rfl|exact .inr rfl|(intros; rfl)) (by first|rfl|decide|exact .inl rfl|exact .inr rfl|(intros; rfl)))) pss_nil) (@pss_one _ _ _ (@ps_ret _ _ _ _ (pv 3))))))))), ?_⟩
  obtain ⟨kvs0, hdk⟩ := hp.dk
  refine ⟨_, rfl, p, _, m, rfl, hp, by omega, by decide, by decide, fun d1 H1 d10 d11 p1 x1 => ?_⟩
  obtain ⟨z, z0, z1, hz⟩ := way_at d10 d11
  obtain ⟨kvs1, hdk1⟩ := p1.dk
  apply joinIA (C := fun (at' : Int) (l : Addr) (H' : Hp) => 0 ≤ at' ∧ at' < n ∧ WAt H1 H' p (m + 14) n l)
  case main =>
    intro key
    refine ⟨_, rfl, n, rfl, by omega, by omega, comp_rng (n := n.toNat) (lo := 0) (fs := [some (.ref p), some (.int d1)]) (fun acc i ys H' => Pen H' p (m + 1 + i) ∧ SameX p H1 H' ∧ ∃ bs : List Int, ys = bs.map V.int ∧ ∀ b ∈ bs, 0 ≤ b ∧ b ≤ 100) (by omega) ?_ ?_ ?_⟩
    · intro acc hacc
      exact ⟨p1.same (same_new hacc _), (same_new hacc _).x, [], rfl, by simp⟩
    · rintro acc i ys H' hacc hi hl ⟨p', x', bs, rfl, hb⟩ hacc' Q' hQ
      refine ⟨_, rfl, lz 6 rfl, fun t ht => ?_⟩
      have st := same_new ht (.lst [.int 10, .int 2, .int 4, .int 10, .int 10, .int 80])
      refine ⟨_, rfl, t, _, _, _, rfl, rfl, upd_same, hz, p, z, _, rfl, p'.same st, by omega, by omega, by omega, fun r H2 r0 r1 p2 x2 => ?_⟩
      have hap : acc ≠ p := Ne.symm (ne_of_none hdk1 hacc)
      have xx := (x'.trans st.x).trans x2
      obtain ⟨u1, u2⟩ := penX_upd hacc p1 xx p2 (.lst (bs.map V.int ++ [.int r]))
      refine hQ _ H2 (x2.all _ _ (st _ _ hacc') hap) ⟨u1, u2, bs ++ [r], by simp, fun b hbm => ?_⟩
      rcases List.mem_append.mp hbm with q | q
      · exact hb b q
      · have : b = r := by simpa using q
        omega
    rintro l ys H2 hl2 ⟨p2, x2, bs, rfl, hb⟩ hl2' hlen
    have hbn : bs.length = n.toNat := by simpa using hlen
    refine ⟨_, rfl, _, rfl, p, n, _, rfl, p2, by omega, by omega, by omega, fun r3 H3 r30 r31 p3 x3 => ?_⟩
    have hlp : l ≠ p := Ne.symm (ne_of_none hdk1 hl2)
    have hl3 := x3.all _ _ hl2' hlp
    have x23 := x2.trans x3
    refine ⟨_, rfl, rfl, _, rfl, ?_⟩
    refine ite2 (fun c => ?_) (fun c => ?_)
    rotate_left 1
    · exact key r3 l H3 ⟨r30, r31, p3.mono (by omega), x23, hl2, bs, hl3, hbn, hb⟩
    · refine ⟨_, rfl, n, rfl, by omega, by omega, comp_rng (n := n.toNat) (lo := 0) (fs := [some (.int r3)]) (fun acc i ys H' => Same H3 H' ∧ ∃ bs : List Int, ys = bs.map V.int ∧ ∀ b ∈ bs, 0 ≤ b ∧ b ≤ 100) (by omega) ?_ ?_ ?_⟩
      · intro acc hacc
        exact ⟨same_new hacc _, [], rfl, by simp⟩
      · rintro acc i ys H' hacc hi hl ⟨s', bs', rfl, hb'⟩ hacc' Q' hQ
        refine ⟨_, rfl, _, rfl, rfl, .inr ⟨_, rfl, hQ _ H' hacc' ⟨same_upd s' hacc, bs' ++ [_], by rw [List.map_append]; rfl, fun b hbm => ?_⟩⟩⟩
        rcases List.mem_append.mp hbm with q | q
        · exact hb' b q
        · rw [List.mem_singleton.mp q]
          split <;> decide
      rintro l' ys H4 hl4 ⟨s4, bs', rfl, hb'⟩ hl4' hlen'
      have hn1 : H1 l' = none := by
        cases e : H1 l' with
        | none => rfl
        | some o =>
          exfalso
          by_cases ep : l' = p
          · subst ep
            obtain ⟨kv, hk⟩ := p3.dk
            rw [hk] at hl4; cases hl4
          · rw [x23.all _ _ e ep] at hl4; cases hl4
      exact key r3 l' H4 ⟨r30, r31, (p3.same s4).mono (by omega), x23.trans s4.x, hn1, bs', hl4', by simpa using hlen', hb'⟩
  case key =>
  intro at'
  apply joinA (C := fun (l : Addr) (H' : Hp) => 0 ≤ at' ∧ at' < n ∧ WAt H1 H' p (m + 14) n l)
  case main =>
    rintro key l H3 ⟨a0, a1, p3, x3, hl1, ns, hl3, hln, hns⟩
    refine ⟨_, rfl, rfl, _, rfl, ?_⟩
    refine ite2 (fun c => ?_) (fun c => ?_)
    rotate_left 1
    · exact key l H3 ⟨a0, a1, p3, x3, hl1, ns, hl3, hln, hns⟩
    · refine ⟨lz 1 rfl, fun t1 ht1 => ?_⟩
      have s1 := same_new ht1 (.lst [.int 0])
      refine ⟨_, rfl, t1, _, _, rfl, rfl, upd_same, by omega, by omega, ?_, fun t2 ht2 => ?_⟩
      · show 1 * at'.toNat ≤ sizeLine
        rw [sizeLine_eq]; omega
      have s2 := same_new ht2 (.lst (List.replicate at'.toNat [V.int 0]).flatten)
      refine ⟨_, rfl, _, rfl, _, rfl, l, _, rfl, SqL.of ((s1.trans s2) _ _ hl3), fun t3 ht3 => ?_⟩
      have s3 := same_new ht3 (.lst (cutV (ns.map V.int) (some at') none))
      obtain ⟨ms, em, hms⟩ := cut_mem (ns := ns) (lo := some at') (hi := none)
      have hcl : (cutV (ns.map V.int) (some at') none).length = ns.length - at'.toNat := by
        have := cut_from (xs := ns.map V.int) (a := at'.toNat) (by rw [List.length_map]; omega)
        rw [show ((at'.toNat : Nat) : Int) = at' by omega, List.length_map] at this
        exact this
      refine ⟨t2, t3, _, _, rfl, rfl, s3 _ _ upd_same, upd_same, ?_, fun t4 ht4 => ?_⟩
      · rw [rep0, List.length_map, List.length_replicate, hcl, sizeLine_eq]; omega
      have s4 := same_new ht4 (.lst ((List.replicate at'.toNat [V.int 0]).flatten ++ cutV (ns.map V.int) (some at') none))
      have ss := s1.trans (s2.trans (s3.trans s4))
      have f4 : H1 t4 = none := by
        cases e : H1 t4 with
        | none => rfl
        | some o =>
          exfalso
          by_cases ep : t4 = p
          · subst ep
            obtain ⟨kv, hk⟩ := p3.dk
            rw [(s1.trans (s2.trans s3)) _ _ hk] at ht4; cases ht4
          · rw [(s1.trans (s2.trans s3)) _ _ (x3.all _ _ e ep)] at ht4; cases ht4
      refine key t4 _ ⟨a0, a1, p3.same ss, x3.trans ss.x, f4, List.replicate at'.toNat 0 ++ ms, by rw [upd_same, rep0, em, List.map_append], ?_, fun x hx => ?_⟩
      · rw [em, List.length_map] at hcl
        rw [List.length_append, List.length_replicate, hcl]; omega
      · rcases List.mem_append.mp hx with q | q
        · rw [(List.mem_replicate.mp q).2]; decide
        · exact hns x (hms x q)
  case key =>
  rintro l H3 ⟨a0, a1, p3, x3, hl1, ns, hl3, hln, hns⟩
  refine ⟨_, rfl, l, ns, rfl, SqL.of hl3, rfl, _, rfl, ?_⟩
  have hs0 := sum_nn hns
  refine ite2 (fun c => ?_) (fun c => ?_)
  · refine ⟨_, rfl, p, _, _, rfl, p3, by omega, by decide, by decide, fun r4 H4 r40 r41 p4 x4 => ⟨_, _, rfl, rfl, ?_⟩⟩
    have hlp : l ≠ p := Ne.symm (ne_of_none hdk1 hl1)
    have hl4 := x4.all _ _ hl3 hlp
    have hj : at'.toNat < ns.length := by omega
    refine ⟨_, rfl, _, rfl, l, _, _, at'.toNat, rfl, rfl, hl4, ?_, ?_⟩
    · unfold ixN
      rw [List.length_map, if_pos a0, if_pos (by omega)]
    obtain ⟨u1, u2⟩ := penX_upd hl1 p1 (x3.trans x4) p4 (.lst ((ns.map V.int).set at'.toNat (.int (1 + r4))))
    obtain ⟨g1, g2⟩ := sum_set_pos hns hj (v := 1 + r4) (by omega)
    refine ⟨_, rfl, k l (ns.set at'.toNat (1 + r4)) _ ?_ (by simp [hln]) g1 g2 (u1.mono (by omega)) (x1.trans u2)⟩
    rw [upd_same, List.map_set]
  · have : ns.sum ≠ 0 := fun z => c (by rw [z]; rfl)
    exact ⟨_, rfl, k l ns H3 hl3 hln hns (by omega) (p3.mono (by omega)) (x1.trans x3)⟩

def ruleF (ns : List Int) : List (Int × Int) := ns.map fun c => lowF c ns.sum
def spRule : Sp := fun vs H Q _ => ∃ (l : Addr) (ns : List Int), vs = [.ref l] ∧ H l = some (.lst (ns.map V.int)) ∧ (∀ c ∈ ns, 0 ≤ c) ∧ 0 < ns.sum ∧ ns.sum < 4398046511104 ∧ ns.length ≤ 100 ∧ ∀ (p : Addr) (ys : List V) (H' : Hp), Same H H' → H' p = some (.tup ys) → Prs H' ys (ruleF ns) → Q (.ref p) H'
theorem ok_rule (T : Txt2 mg) (C_l_lowest : Cal P w K mg base "_law_lowest" ["_law_top", "_law_bottom"] 2 spLowest) (F : FunAt K mg "_law_rule" ["_law_weights_here"] s_l_rule) : Cal P w K mg base "_law_rule" ["_law_weights_here"] 3 spRule := by
  have S := sc_l_rule
  refine F.cal sc_l_rule (fun vs H Q E h => ?_) (fun f cdv A outer s H vs Q E hr h => ?_)
  · obtain ⟨l, cs, rfl, _⟩ := h; rfl
  obtain ⟨l, cs, rfl, hl, h0, hs0, hs1, hn, q⟩ := h
  refine ⟨_, (@pss_one _ _ _ (@ps_ret _ _ _ _ (@pe_callTy _ _ _ _ _ _ _ _ _ call_tuple_of (by rfl) (by exact T.z_tuple) (by exact bt_tuple) (@pa_consN _ _ _ _ _ (@pe_comp _ _ _ _ _ _ _ _ _ _ _ _ _ (by rfl) (by exact (fun _ _ h => h)) (by decide +kernel) (by rfl) (by decide +kernel) (by exact hfr_of rfl) (by exact Sees.frees ["_law_one"] [("_law_weights_here", 0)] (fr_cons ⟨rfl, rfl⟩ fr_nil)) (@pi_list _ _ _ _ (pv 0)) (fun _ _ _ _ _ => @pg_name _ _ (0) _ (by exact (show (["_law_one", "_law_weights_here"] : List Str).Nodup by decide +kernel)) (by rfl) (by first | exact Or.inl rfl | exact Or.inr rfl) (by first|rfl|decide|exact .inl rfl|exact .inr rfl|(intros; rfl))) (fun _ _ _ _ _ => pts_nil) (fun _ _ _ _ _ => (@cc _ _ _ _ _ _ _ _ _ _ (by exact C_l_lowest) (by exact (hr.mono (by decide))) (@pa_consN _ _ _ _ _ (pv 0) (@pa_consN _ _ _ _ _ (@pe_callB _ _ _ _ _ _ _ _ _ (call_sum0 (by rfl)) (by rfl) (by exact T.z_sum) (by exact bt_sum) (@pa_consN _ _ _ _ _ (pv 1) pa_nil (by first|rfl|decide|exact .inl rfl|exact .inr rfl|(intros; rfl))) (by first|rfl|decide|exact .inl rfl|exact .inr rfl|(intros; rfl)) (by first|rfl|decide|exact .inl rfl|exact .inr rfl|(intros; rfl)) (by first|rfl|decide|exact .inl rfl|exact .inr rfl|(intros; rfl)) (by first|rfl|decide|exact .inl rfl|exact .inr rfl|(intros; rfl))) pa_nil (by first|rfl|decide|exact .inl rfl|exact .inr rfl|(intros; rfl))) (by first|rfl|decide|exact .inl rfl|exact .inr rfl|(intros; rfl))) (by first|rfl|decide|exact .inl rfl|exact .inr rfl|(intros; rfl)) (by first|rfl|decide|exact .inl rfl|exact .inr rfl|(intros; rfl)) (by first|rfl|decide|exact .inl rfl|exact .inr rfl|(intros; rfl)) (by first|rfl|decide|exact .inl rfl|exact .inr rfl|(intros; rfl)))) (by first|rfl|decide|exact .inl rfl|exact .inr rfl|(intros; rfl))) pa_nil (by first|rfl|decide|exact .inl rfl|exact .inr rfl|(intros; rfl))) (by first|rfl|decide|exact .inl rfl|exact .inr rfl|(intros; rfl)) (by first|rfl|decide|exact .inl rfl|exact .inr rfl|(intros; rfl)) (by first|rfl|decide|exact .inl rfl|exact .inr rfl|(intros; rfl)) (by first|rfl|decide|exact .inl rfl|exact .inr rfl|(intros; rfl))))), ?_⟩
  refine ⟨_, rfl, l, rfl, ⟨_, SqL.of hl⟩, comp_lst (a := l) (xs := cs.map V.int) (fs := [some (.ref l)]) (fun acc i ys H' => Same H H' ∧ Prs H' ys ((cs.take i).map fun c => lowF c cs.sum)) (by rw [List.length_map]; omega) ?_ ?_ ?_ ?_⟩
  · intro acc hacc
    exact ⟨same_new hacc _, .nil⟩
  · rintro acc i ys H' hacc ⟨s', _⟩
    exact s' _ _ hl
  · rintro acc i ys H' x hacc hi hlen ⟨s', h'⟩ hH' Q' hQ
    rw [List.getElem?_map] at hi
    cases hci : cs[i]? with
    | none => rw [hci] at hi; cases hi
    | some c =>
      rw [hci] at hi
      cases hi
      have bs0 : Bt 42 cs.sum := intBits_le_iff.mpr (show cs.sum.natAbs < 2 ^ 42 by have : (2 : Nat) ^ 42 = 4398046511104 := rfl; omega)
      have bs : Bt 8000 cs.sum := Bt.mono bs0 (by decide)
      refine ⟨_, rfl, _, rfl, l, cs, rfl, s' _ _ hl, _, _, rfl, h0 c (List.mem_of_getElem? hci), hs0, bs, fun v H3 s3 h3 => ?_⟩
      have hH3 := s3 _ _ hH'
      refine hQ v H3 hH3 ⟨same_upd (s'.trans s3) hacc, ?_⟩
      rw [List.take_add_one, hci, List.map_append]
      exact Prs.snoc (h3.updL hH3) ((h'.same s3).updL hH3)
  rintro acc ys H' hacc ⟨s', h'⟩ hH' hlen
  rw [List.length_map, List.take_length] at h'
  refine ⟨acc, ys, rfl, .inl ⟨SqL.of hH', fun t ht => ?_⟩⟩
  exact q t ys _ (s'.trans (same_new ht _)) upd_same (h'.same (same_new ht _))
def spFalling : Sp := fun vs H Q _ => ∃ l ns, vs = [.ref l] ∧ H l = some (.lst (iv ns)) ∧ ns.length < 64 ∧ ∀ (a : Addr) (ms : List Int) (H' : Hp), ms.Perm ns → ms.Pairwise (· ≥ ·) → H' a = some (.tup (iv ms)) → Same H H' → Q (.ref a) H'
theorem ok_falling (T : Txt2 mg) (F : FunAt K mg "falling" ["numbers"] s_falling) : Cal P w K mg base "falling" ["numbers"] 1 spFalling := by
  have S := sc_falling
  refine F.cal sc_falling (fun vs H Q E h => ?_) (fun f cdv A outer s H vs Q E hr h => ?_)
  · obtain ⟨l, ns, rfl, _⟩ := h; rfl
  obtain ⟨l, ns, rfl, hl, h64, k⟩ := h
  refine ⟨_, (@pss_one _ _ _ (@ps_ret _ _ _ _ (@pe_callTy _ _ _ _ _ _ _ _ _ call_tuple_of (by rfl) (by exact T.z_tuple) (by exact bt_tuple) (@pa_consN _ _ _ _ _ (@pe_sortedR _ _ _ _ _ _ _ _ _ (by rfl) (by exact T.z_sorted) (@pa_consN _ _ _ _ _ (pv 0) pa_nil (by first|rfl|decide|exact .inl rfl|exact .inr rfl|(intros; rfl))) (by first|rfl|decide|exact .inl rfl|exact .inr rfl|(intros; rfl)) (by first|rfl|decide|exact .inl rfl|exact .inr rfl|(intros; rfl))) pa_nil (by first|rfl|decide|exact .inl rfl|exact .inr rfl|(intros; rfl))) (by first|rfl|decide|exact .inl rfl|exact .inr rfl|(intros; rfl)) (by first|rfl|decide|exact .inl rfl|exact .inr rfl|(intros; rfl)) (by first|rfl|decide|exact .inl rfl|exact .inr rfl|(intros; rfl)) (by first|rfl|decide|exact .inl rfl|exact .inr rfl|(intros; rfl))))), ?_⟩
  refine ⟨_, rfl, l, ns, rfl, hl, h64, fun q ms hq pm od => ?_⟩
  have s1 := same_new hq (.lst (iv ms))
  refine ⟨q, iv ms, rfl, .inl ⟨SqL.of upd_same, fun t ht => ?_⟩⟩
  exact k t ms _ pm od upd_same (s1.trans (same_new ht _))
def spPutAt : Sp := fun vs H Q _ => ∃ a ns j x, vs = [.ref a, .int ((j : Nat) : Int)] ∧ H a = some (.tup (iv ns)) ∧ ns.length ≤ 6 ∧ ns[j]? = some x ∧ ∀ (b : Addr) (ms : List Int) (H' : Hp), ms.Perm (ns.set j (x + 1)) → ms.Pairwise (· ≥ ·) → H' b = some (.tup (iv ms)) → Same H H' → Q (.ref b) H'
theorem ok_putat (T : Txt2 mg) (C_falling : Cal P w K mg base "falling" ["numbers"] 1 spFalling) (F : FunAt K mg "put_at" ["load", "rank"] s_put_at) : Cal P w K mg base "put_at" ["load", "rank"] 2 spPutAt := by
  have S := sc_put_at
  refine F.cal sc_put_at (fun vs H Q E h => ?_) (fun f cdv A outer s H vs Q E hr h => ?_)
  · obtain ⟨a, ns, j, x, rfl, _⟩ := h; rfl
  obtain ⟨a, ns, j, x, rfl, ha, h6, hx, k⟩ := h
  have hj : j < ns.length := (List.getElem?_eq_some_iff.mp hx).1
  refine ⟨_, (@pss_cons _ _ _ _ _ (@ps_set _ _ (2) _ _ _ _ (by exact S.nd) (by rfl) (by first | exact Or.inl rfl | exact Or.inr rfl) (@pe_callTy _ _ _ _ _ _ _ _ _ call_list_of (by rfl) (by exact T.z_list) (by exact bt_list) (@pa_consN _ _ _ _ _ (pv 0) pa_nil (by first|rfl|decide|exact .inl rfl|exact .inr rfl|(intros; rfl))) (by first|rfl|decide|exact .inl rfl|exact .inr rfl|(intros; rfl)) (by first|rfl|decide|exact .inl rfl|exact .inr rfl|(intros; rfl)) (by first|rfl|decide|exact .inl rfl|exact .inr rfl|(intros; rfl)) (by first|rfl|decide|exact .inl rfl|exact .inr rfl|(intros; rfl))) (by first|rfl|decide|exact .inl rfl|exact .inr rfl|(intros; rfl)) (by first|rfl|decide|exact .inl rfl|exact .inr rfl|(intros; rfl))) (@pss_cons _ _ _ _ _ (@ps_augS _ _ _ _ _ _ _ _ _ _ _ _ _ (pv 2) (pv 1) get_list pe_int ip_add set_list (by first|rfl|decide|exact .inl rfl|exact .inr rfl|(intros; rfl))) (@pss_one _ _ _ (@ps_ret _ _ _ _ (@cc _ _ _ _ _ _ _ _ _ _ (by exact C_falling) (by exact (hr.mono (by decide))) (@pa_consN _ _ _ _ _ (pv 2) pa_nil (by first|rfl|decide|exact .inl rfl|exact .inr rfl|(intros; rfl))) (by first|rfl|decide|exact .inl rfl|exact .inr rfl|(intros; rfl)) (by first|rfl|decide|exact .inl rfl|exact .inr rfl|(intros; rfl)) (by first|rfl|decide|exact .inl rfl|exact .inr rfl|(intros; rfl)) (by first|rfl|decide|exact .inl rfl|exact .inr rfl|(intros; rfl))))))), ?_⟩
  refine ⟨_, rfl, a, _, rfl, .inr (SqT.of ha), fun l hl => ?_⟩
  have s1 := same_new hl (.lst (iv ns))
  refine ⟨_, rfl, _, rfl, l, iv ns, (j : Int), .int x, rfl, rfl, by omega, upd_same, atI_iv hx, x, 1, rfl, rfl, l, iv ns, (j : Int), j, rfl, rfl, upd_same, ixN_nat (by simpa using hj), ?_⟩
  rw [iv_set, upd_upd]
  refine ⟨_, rfl, l, ns.set j (x + 1), rfl, upd_same, by simp; omega, fun b ms H' pm od hb s2 => ?_⟩
  exact k b ms H' pm od hb ((same_new hl _).trans s2)
end
end My

set_option Elab.async false
set_option linter.all false
set_option maxRecDepth 100000
set_option maxHeartbeats 4000000
namespace My
open PySem L2 MA Srt
theorem shUpdL {H : Hp} {l : Addr} {zs : List V} {o : HO} {v : V} {q : Rat} (hl : H l = some (.lst zs)) (h : ShAt H v q) : ShAt (upd H l o) v q := by
  obtain ⟨a, rfl, ha⟩ := h
  exact ⟨a, rfl, by rw [upd_ne (ne_of ha hl (by intro z; cases z))]; exact ha⟩
theorem Shs.updL {H : Hp} {l : Addr} {zs : List V} {o : HO} (hl : H l = some (.lst zs)) : ∀ {xs : List V} {qs : List Rat}, Shs H xs qs → Shs (upd H l o) xs qs
  | _, _, .nil => .nil
  | _, _, .cons r t => .cons (shUpdL hl r) (Shs.updL hl t)
theorem Shs.snoc {H : Hp} {v : V} {q : Rat} (h : ShAt H v q) : ∀ {xs : List V} {qs : List Rat}, Shs H xs qs → Shs H (xs ++ [v]) (qs ++ [q])
  | _, _, .nil => .cons h .nil
  | _, _, .cons r t => .cons r (Shs.snoc h t)
theorem Shs.length {H : Hp} {xs : List V} {qs : List Rat} (h : Shs H xs qs) : xs.length = qs.length := Paired.length h
theorem Shs.at {H : Hp} {xs : List V} {qs : List Rat} {i : Nat} {x : V} (h : Shs H xs qs) (e : xs[i]? = some x) : ∃ q, qs[i]? = some q ∧ ShAt H x q := Paired.at' h e
abbrev prq (q : Rat) : Int × Int := (q.num, (q.den : Int))
theorem shs_of : ∀ {H : Hp} {qs : List Rat} {xs : List V}, Prs H xs (qs.map prq) → Shs H xs qs
  | _, [], _, .nil => .nil
  | _, q :: qs, _, .cons r t => .cons r (shs_of t)
theorem prs_of : ∀ {H : Hp} {qs : List Rat} {xs : List V}, Shs H xs qs → Prs H xs (qs.map prq)
  | _, _, _, .nil => .nil
  | _, _, _, .cons r t => .cons r (prs_of t)
theorem low_q {t b : Int} (hb : 0 < b) : lowF t b = prq (Rat.divInt t b) := by
  have := share_pos (t := t) hb
  unfold lowF prq
  rw [this.1, this.2]
/-! the bottom that all shares have in common -/
def tpF (L : Int) (qs : List Rat) : List Int := qs.map fun q => q.num * (L / (q.den : Int))
def lqF (qs : List Rat) (b : Int) : Int := qs.foldl (fun b q => b / gI b (q.den : Int) * (q.den : Int)) b
theorem lq_step {b d : Int} (hb : 0 < b) (hd : 0 < d) : 0 < b / gI b d * d ∧ b ∣ b / gI b d * d ∧ d ∣ b / gI b d * d := by
  have g0 := gI_pos_right (a := b) (b := d) (by omega)
  have g1 := gI_dvd_left b d
  have g2 := gI_dvd_right b d
  refine ⟨?_, ?_, Int.dvd_mul_left _ _⟩
  · refine Int.mul_pos ?_ hd
    exact Int.ediv_pos_of_pos_of_dvd hb (by omega) g1
  · obtain ⟨k, hk⟩ := g2
    have e : b / gI b d * d = b * k := by
      rw [show b / gI b d * d = b / gI b d * (gI b d * k) by rw [← hk], ← Int.mul_assoc, Int.ediv_mul_cancel g1]
    rw [e]
    exact Int.dvd_mul_right _ _
theorem lq_fold : ∀ (qs : List Rat) (b : Int), 0 < b → 0 < lqF qs b ∧ b ∣ lqF qs b ∧ ∀ q ∈ qs, (q.den : Int) ∣ lqF qs b
  | [], b, h => ⟨h, Int.dvd_refl _, by simp⟩
  | q :: qs, b, h => by
    obtain ⟨p1, p2, p3⟩ := lq_step (d := (q.den : Int)) h (by have := q.den_pos; omega)
    obtain ⟨i1, i2, i3⟩ := lq_fold qs _ p1
    refine ⟨i1, Int.dvd_trans p2 i2, fun r hr => ?_⟩
    rcases List.mem_cons.mp hr with rfl | hr
    · exact Int.dvd_trans p3 i2
    · exact i3 r hr
theorem lq_bits : ∀ (qs : List Rat) (b : Int) (m : Nat), 0 < b → Bt m b → (∀ q ∈ qs, SB 50 q) → Bt (m + 50 * qs.length) (lqF qs b)
  | [], b, m, _, h, _ => h
  | q :: qs, b, m, h0, h, hq => by
    obtain ⟨p1, _, _⟩ := lq_step (d := (q.den : Int)) h0 (by have := q.den_pos; omega)
    have g0 := gI_pos_right (a := b) (b := (q.den : Int)) (by have := q.den_pos; omega)
    have := lq_bits qs _ (m + 50) p1 ((h.ediv g0).mul (hq q (by simp)).2) fun r hr => hq r (by simp [hr])
    exact this.mono (by simp; omega)
theorem lq_snoc {qs : List Rat} {i : Nat} {q : Rat} (h : qs[i]? = some q) : lqF (qs.take (i + 1)) 1 = lqF (qs.take i) 1 / gI (lqF (qs.take i) 1) (q.den : Int) * (q.den : Int) := by
  unfold lqF
  rw [List.take_add_one, h, List.foldl_append]
  rfl
theorem lq_all {qs : List Rat} (hq : ∀ q ∈ qs, SB 50 q) (hl : qs.length ≤ 24) (i : Nat) : 0 < lqF (qs.take i) 1 ∧ Bt 1201 (lqF (qs.take i) 1) := by
  refine ⟨(lq_fold _ 1 (by decide)).1, (lq_bits (qs.take i) 1 1 (by decide) (by decide) fun q h => hq q (List.mem_of_mem_take h)).mono ?_⟩
  rw [List.length_take]
  omega
def partedF (t : Int) (bs : List Int) : Int × Int := bs.foldl (fun s x => (s.1 / gI s.1 x, s.2 * (x / gI s.1 x))) (t, 1)

theorem lq_dvd : ∀ (qs : List Rat) (b S : Int), 0 < b → 0 < S → b ∣ S → (∀ q ∈ qs, (q.den : Int) ∣ S) → lqF qs b ∣ S
  | [], b, S, _, _, h, _ => h
  | q :: qs, b, S, hb, hS, h, hq => by
    obtain ⟨p1, _, _⟩ := lq_step (d := (q.den : Int)) hb (by have := q.den_pos; omega)
    refine lq_dvd qs _ S p1 hS ?_ fun r hr => hq r (by simp [hr])
    have hd := hq q (by simp)
    have d0 : (0 : Int) < (q.den : Int) := by have := q.den_pos; omega
    have g0 := gI_pos_right (a := b) (b := (q.den : Int)) (by omega)
    -- the least common multiple
    have g1 := gI_dvd_left b (q.den : Int)
    have e : b / gI b (q.den : Int) * (q.den : Int) = ((b.natAbs.lcm q.den : Nat) : Int) := by
      obtain ⟨m, rfl⟩ : ∃ m : Nat, b = (m : Int) := ⟨b.natAbs, by omega⟩
      show (m : Int) / ((m.gcd q.den : Nat) : Int) * (q.den : Int) = ((m.lcm q.den : Nat) : Int)
      rw [← Int.natCast_ediv, ← Int.natCast_mul, Nat.div_mul_right_comm (Nat.gcd_dvd_left _ _)]
      rfl
    show b / gI b (q.den : Int) * (q.den : Int) ∣ S
    rw [e]
    have hbn : b.natAbs ∣ S.natAbs := Int.natAbs_dvd_natAbs.mpr h
    have hdn : q.den ∣ S.natAbs := by have := Int.natAbs_dvd_natAbs.mpr hd; simpa using this
    have := Nat.lcm_dvd hbn hdn
    have := Int.natCast_dvd_natCast.mpr this
    rwa [Int.natAbs_of_nonneg (by omega)] at this
theorem tp_at {L : Int} {q : Rat} (hd : (q.den : Int) ∣ L) {t b : Int} (hb : 0 < b) (e : q = Rat.divInt t b) : q.num * (L / (q.den : Int)) * b = t * L := by
  obtain ⟨k, hk⟩ := hd
  have d0 : (0 : Int) < (q.den : Int) := by have := q.den_pos; omega
  rw [hk, Int.mul_ediv_cancel_left _ (by omega)]
  have h1 : q.num * b = t * (q.den : Int) := by
    have := (Rat.divInt_eq_divInt_iff (n₁ := q.num) (n₂ := t) (d₁ := (q.den : Int)) (d₂ := b) (by omega) (by omega)).mp (by rw [← e]; exact Rat.num_divInt_den q)
    exact this
  rw [show q.num * k * b = q.num * b * k by rw [Int.mul_right_comm], h1, Int.mul_assoc]
/-- over one more bottom -/
theorem part_step (q : Rat) {x : Int} (hx : 0 < x) {t b : Int} (hb : 0 < b) (e : q = Rat.divInt t b) : (q.num / gI q.num x, (q.den : Int) * (x / gI q.num x)) = prq (Rat.divInt t (b * x)) := by
  have d0 : (0 : Int) < (q.den : Int) := by have := q.den_pos; omega
  have e2 : Rat.divInt t (b * x) = Rat.divInt q.num ((q.den : Int) * x) := by
    rw [Rat.divInt_eq_divInt_iff (by have := Int.mul_pos hb hx; omega) (by have := Int.mul_pos d0 hx; omega)]
    have h1 : q.num * b = t * (q.den : Int) := by
      have := (Rat.divInt_eq_divInt_iff (n₁ := q.num) (n₂ := t) (d₁ := (q.den : Int)) (d₂ := b) (by omega) (by omega)).mp (by rw [← e]; exact Rat.num_divInt_den q)
      exact this
    rw [← Int.mul_assoc, ← h1]; rw [Int.mul_assoc]
  have sp := share_pos (t := q.num) (Int.mul_pos d0 hx)
  have eg : gI q.num ((q.den : Int) * x) = gI q.num x := by
    unfold gI
    congr 1
    show q.num.natAbs.gcd ((q.den : Int) * x).natAbs = q.num.natAbs.gcd x.natAbs
    rw [Int.natAbs_mul]
    exact Nat.Coprime.gcd_mul_left_cancel_right _ (by simpa using q.reduced.symm)
  rw [eg] at sp
  rw [e2]
  unfold prq
  rw [← sp.1, ← sp.2]
  congr 1
  exact (Int.mul_ediv_assoc _ (gI_dvd_right q.num x)).symm
theorem parted_q {t : Int} : ∀ (n : Nat) (bs : List Int), bs.length = n → (∀ b ∈ bs, 0 < b) → partedF t bs = prq (Rat.divInt t bs.prod)
  | 0, bs, h, _ => by
    have : bs = [] := List.length_eq_zero_iff.mp h
    subst this
    have := share_pos (t := t) (b := 1) (by decide)
    show (t, 1) = _
    unfold prq
    rw [List.prod_nil, ← this.1, ← this.2]
    have : gI t 1 = 1 := by unfold gI; simp
    rw [this, Int.ediv_one]; rfl
  | n + 1, bs, h, hb => by
    obtain ⟨l, x, rfl⟩ : ∃ l x, bs = l ++ [x] := by
      rcases List.eq_nil_or_concat bs with e | ⟨l, r, e⟩
      · subst e; simp at h
      · exact ⟨l, r, by rw [e, List.concat_eq_append]⟩
    have ih := parted_q (t := t) n l (by simpa using h) fun b hb' => hb b (by simp [hb'])
    have e : partedF t (l ++ [x]) = ((partedF t l).1 / gI (partedF t l).1 x, (partedF t l).2 * (x / gI (partedF t l).1 x)) := by unfold partedF; rw [List.foldl_append]; rfl
    have hp : 0 < l.prod := by
      have : ∀ (l : List Int), (∀ b ∈ l, 0 < b) → 0 < l.prod := by
        intro l
        induction l with
        | nil => intro _; simp
        | cons a l ih => intro h; rw [List.prod_cons]; exact Int.mul_pos (h a (by simp)) (ih fun b hb => h b (by simp [hb]))
      exact this l fun b hb' => hb b (by simp [hb'])
    rw [e, ih, List.prod_append, List.prod_cons, List.prod_nil, Int.mul_one]
    exact part_step _ (hb x (by simp)) hp rfl
/-! loads -/
def fallF (l : List Int) : List Int := l.mergeSort fun a b => decide (b ≤ a)
theorem fall_perm (l : List Int) : (fallF l).Perm l := List.mergeSort_perm l _
theorem fall_down (l : List Int) : (fallF l).Pairwise (· ≥ ·) := by
  have := List.pairwise_mergeSort (le := fun a b : Int => decide (b ≤ a)) (fun a b c h1 h2 => by simp at *; omega) (fun a b => by simp; omega) l
  exact this.imp fun {a b} h => by simpa using h
theorem fall_eq {ms l : List Int} (h : ms.Perm l) (d : ms.Pairwise (· ≥ ·)) : ms = fallF l :=
  List.Perm.eq_of_pairwise (le := fun x y => x ≥ y) (fun x y _ _ h1 h2 => by omega) d (fall_down l) (h.trans (fall_perm l).symm)
theorem fall_length (l : List Int) : (fallF l).length = l.length := (fall_perm l).length_eq
def putL (l : List Int) (r : Nat) : List Int := fallF (l.set r (l.getD r 0 + 1))
/-- which loads come of l, and with which weights -/
def gainF (c : List Int) (n : Nat) (l : List Int) : Mp := (List.range n).flatMap fun r => if 0 < c.getD r 0 then [(putL l r, c.getD r 0)] else []
theorem gain_succ (c : List Int) (n : Nat) (l : List Int) : gainF c (n + 1) l = gainF c n l ++ if 0 < c.getD n 0 then [(putL l n, c.getD n 0)] else [] := by
  unfold gainF; rw [List.range_succ, List.flatMap_append]; simp
theorem pos_of {a b : Int} (h : 0 < a * b) (hb : 0 < b) : 0 < a := by
  rcases Int.lt_or_le 0 a with z | z
  · exact z
  · have := Int.mul_nonpos_of_nonpos_of_nonneg z (Int.le_of_lt hb)
    omega
theorem gain_like {c w : List Int} {S b : Int} (hS : 0 < S) (hb : 0 < b) (h : ∀ r, c.getD r 0 * S = w.getD r 0 * b) (n : Nat) (l : List Int) : (∀ k, k ∈ keysM (gainF c n l) ↔ k ∈ keysM (gainF w n l)) ∧ ∀ k, sumAt (gainF c n l) k * S = sumAt (gainF w n l) k * b := by
  induction n with
  | zero => exact ⟨fun _ => Iff.rfl, fun _ => by simp [gainF, sumAt]⟩
  | succ n ih =>
    have hp : 0 < c.getD n 0 ↔ 0 < w.getD n 0 := by
      have e := h n
      constructor
      · intro z; have := Int.mul_pos z hS; rw [e] at this; exact pos_of this hb
      · intro z; have := Int.mul_pos z hb; rw [← e] at this; exact pos_of this hS
    rw [gain_succ, gain_succ]
    by_cases z : 0 < c.getD n 0
    · rw [if_pos z, if_pos (hp.mp z)]
      refine ⟨fun k => ?_, fun k => ?_⟩
      · have := ih.1 k
        simp only [keysM, List.map_append, List.mem_append] at this ⊢
        rw [this]; simp
      · rw [sumAt_snoc, sumAt_snoc, Int.add_mul, Int.add_mul, ih.2 k]
        congr 1
        by_cases e : putL l n = k
        · rw [if_pos e, if_pos e]; exact h n
        · rw [if_neg e, if_neg e]; omega
    · rw [if_neg z, if_neg (fun q => z (hp.mpr q)), List.append_nil, List.append_nil]
      exact ih
theorem gain_vals {c : List Int} (h0 : ∀ x ∈ c, 0 ≤ x) (l : List Int) : (valsM (gainF c c.length l)).sum = c.sum := by
  have : ∀ n, n ≤ c.length → (valsM (gainF c n l)).sum = (c.take n).sum := by
    intro n
    induction n with
    | zero => intro _; simp [gainF, valsM]
    | succ n ih =>
      intro hn
      have hl : n < c.length := by omega
      rw [gain_succ, List.take_succ_eq_append_getElem hl, List.sum_append]
      have e : c.getD n 0 = c[n] := by simp [hl]
      have ih' := ih (by omega)
      unfold valsM at ih' ⊢
      rw [List.map_append, List.sum_append, ih', e]
      congr 1
      by_cases z : 0 < c[n]
      · rw [if_pos z]; simp
      · rw [if_neg z]
        have := h0 c[n] (List.getElem_mem hl)
        simp; omega
  have := this c.length (Nat.le_refl _)
  rwa [List.take_length] at this
/-! spreads as they lie -/
abbrev Spd := List (List Int × Rat)
def RwAt (H : Hp) (v : V) (r : List Int × Rat) : Prop := ∃ a b v2, v = .ref a ∧ H a = some (.tup [.ref b, v2]) ∧ H b = some (.tup (iv r.1)) ∧ ShAt H v2 r.2
def SpAt (H : Hp) (l : Addr) (rs : Spd) : Prop := ∃ xs, H l = some (.lst xs) ∧ Paired (RwAt H) xs rs
theorem RwAt.imp {H H' : Hp} {v : V} {r : List Int × Rat} (k : ∀ b xs, H b = some (.tup xs) → H' b = some (.tup xs)) (h : RwAt H v r) : RwAt H' v r := by
  obtain ⟨a, b, v2, e, h1, h2, c, e2, h3⟩ := h
  exact ⟨a, b, v2, e, k _ _ h1, k _ _ h2, c, e2, k _ _ h3⟩
theorem SpAt.same {H H' : Hp} {l : Addr} {rs : Spd} (s : Same H H') (h : SpAt H l rs) : SpAt H' l rs := let ⟨xs, e, r⟩ := h; ⟨xs, s _ _ e, Paired.mapP r fun _ _ z => z.imp fun b xs e => s b _ e⟩
def dRw (r : List Int × Rat) : PyData := .tuple [.tuple (r.1.map PyData.int), .tuple [.int r.2.num, .int (r.2.den : Int)]]
def dSp (rs : Spd) : PyData := .list (rs.map dRw)
theorem rw_data {H : Hp} {v : V} {r : List Int × Rat} (h : RwAt H v r) : DataV H v (dRw r) := by
  obtain ⟨a, b, v2, rfl, h1, h2, c, rfl, h3⟩ := h
  exact .tup h1 (.cons (.tup h2 (data_ints H r.1)) (.cons (.tup h3 (.cons (.int _) (.cons (.int _) .nil))) .nil))
theorem sp_data {H : Hp} {l : Addr} {rs : Spd} (h : SpAt H l rs) : DataV H (.ref l) (dSp rs) := by
  obtain ⟨xs, e, r⟩ := h
  refine .lst e ?_
  clear e
  induction r with
  | nil => exact .nil
  | cons q t ih => exact .cons (rw_data q) ih
def sprF (m : Mp) (W : Int) : Spd := (rise (keysM m)).map fun k => (k, Rat.divInt (getM m k) W)
theorem spr_like {p f : Mp} {x y D W : Int} (L : Like p f x y) (hx : 0 < x) (hD : 0 < D) (hW : 0 < W) (e : y * W = D * x) : sprF p D = sprF f W := by
  unfold sprF
  rw [rise_congr (perm_of_mem L.np L.nf L.keys)]
  refine List.map_congr_left fun k _ => ?_
  congr 1
  rw [Rat.divInt_eq_divInt_iff (by omega) (by omega)]
  have h := L.vals k
  have : getM p k * W * x = getM f k * D * x := by
    rw [Int.mul_right_comm, h, Int.mul_assoc, e, Int.mul_assoc, Int.mul_comm D x]
  exact Int.eq_of_mul_eq_mul_right (by omega) this
section
variable {P : Program} {w : World} {K : PySem.W.Frag} {mg : Str → Option Value} {base : Heap}
def spWeighQ : Sp := fun vs H Q _ => ∃ (l : Addr) (xs : List V) (qs : List Rat), vs = [.ref l] ∧ H l = some (.lst xs) ∧ Shs H xs qs ∧ (∀ q ∈ qs, SB 50 q) ∧ qs.length ≤ 24 ∧
  ∀ (t c : Addr) (H' : Hp), Same H H' → H' t = some (.tup [.ref c, .int (lqF qs 1)]) → H' c = some (.lst (iv (tpF (lqF qs 1) qs))) → Q (.ref t) H'
theorem ok_weighQ (C_measure : Cal P w K mg base "measure" ["a", "b"] 1 spMeasure) (F : FunAt K mg "weighed" ["some"] s_weighed) : Cal P w K mg base "weighed" ["some"] 2 spWeighQ := by
  have S := sc_weighed
  refine F.cal sc_weighed (fun vs H Q E h => ?_) (fun f cdv A outer s H vs Q E hr h => ?_)
  · obtain ⟨l, xs, qs, rfl, _⟩ := h; rfl
  obtain ⟨l, xs, qs, rfl, hl, shs, bq, hn, k⟩ := h
  have xl := shs.length
  refine ⟨_, (@pss_cons _ _ _ _ _ (@ps_set _ _ (1) _ _ _ _ (by exact S.nd) (by rfl) (by first | exact Or.inl rfl | exact Or.inr rfl) pe_int (by first|rfl|decide|exact .inl rfl|exact .inr rfl|(intros; rfl)) (by first|rfl|decide|exact .inl rfl|exact .inr rfl|(intros; rfl))) (@pss_cons _ _ _ _ _ (@ps_for _ _ _ _ _ _ _ _ (by exact PassesOwn.never) (by rfl) (@pi_list _ _ _ _ (pv 0)) (@pg_name _ _ (2) _ (by exact S.nd) (by rfl) (by first | exact Or.inl rfl | exact Or.inr rfl) (by first|rfl|decide|exact .inl rfl|exact .inr rfl|(intros; rfl))) (@pss_one _ _ _ (@ps_set _ _ (1) _ _ _ _ (by exact S.nd) (by rfl) (by first | exact Or.inl rfl | exact Or.inr rfl) (@pe_op _ _ _ _ _ _ _ _ op_mulB (@pe_op _ _ _ _ _ _ _ _ op_fdivB (pv 1) (@cc _ _ _ _ _ _ _ _ _ _ (by exact C_measure) (by exact (hr.mono (by decide))) (@pa_consN _ _ _ _ _ (pv 1) (@pa_consN _ _ _ _ _ (@pe_ix _ _ _ _ _ _ _ ix_tup0 (pv 2) pe_int (by exact (fun _ _ => rfl))) pa_nil (by first|rfl|decide|exact .inl rfl|exact .inr rfl|(intros; rfl))) (by first|rfl|decide|exact .inl rfl|exact .inr rfl|(intros; rfl))) (by first|rfl|decide|exact .inl rfl|exact .inr rfl|(intros; rfl)) (by first|rfl|decide|exact .inl rfl|exact .inr rfl|(intros; rfl)) (by first|rfl|decide|exact .inl rfl|exact .inr rfl|(intros; rfl)) (by first|rfl|decide|exact .inl rfl|exact .inr rfl|(intros; rfl)))) (@pe_ix _ _ _ _ _ _ _ ix_tup0 (pv 2) pe_int (by exact (fun _ _ => rfl)))) (by first|rfl|decide|exact .inl rfl|exact .inr rfl|(intros; rfl)) (by first|rfl|decide|exact .inl rfl|exact .inr rfl|(intros; rfl)))) (by first|rfl|decide|exact .inl rfl|exact .inr rfl|(intros; rfl))) (@pss_one _ _ _ (@ps_ret _ _ _ _ (@pe_tup _ _ _ _ _ (@pa_consN _ _ _ _ _ (@pe_comp _ _ _ _ _ _ _ _ _ _ _ _ _ (by rfl) (by exact (fun _ _ h => h)) (by decide +kernel) (by rfl) (by decide +kernel) (by exact hfr_of rfl) (by exact Sees.frees ["one"] [("bottom", 1)] (fr_cons ⟨rfl, rfl⟩ fr_nil)) (@pi_list _ _ _ _ (pv 0)) (fun _ _ _ _ _ => @pg_name _ _ (0) _ (by exact (show (["one", "bottom"] : List Str).Nodup by decide +kernel)) (by rfl) (by first | exact Or.inl rfl | exact Or.inr rfl) (by first|rfl|decide|exact .inl rfl|exact .inr rfl|(intros; rfl))) (fun _ _ _ _ _ => pts_nil) (fun _ _ _ _ _ => (@pe_op _ _ _ _ _ _ _ _ op_mulB (@pe_ix _ _ _ _ _ _ _ ix_tup0 (pv 0) pe_int (by exact (fun _ _ => rfl))) (@pe_op _ _ _ _ _ _ _ _ op_fdivB (pv 1) (@pe_ix _ _ _ _ _ _ _ ix_tup0 (pv 0) pe_int (by exact (fun _ _ => rfl)))))) (by first|rfl|decide|exact .inl rfl|exact .inr rfl|(intros; rfl))) (@pa_consN _ _ _ _ _ (pv 1) pa_nil (by first|rfl|decide|exact .inl rfl|exact .inr rfl|(intros; rfl))) (by first|rfl|decide|exact .inl rfl|exact .inr rfl|(intros; rfl)))))))), ?_⟩
  refine ⟨_, rfl, l, rfl, ⟨_, SqL.of hl⟩, for_list (xs := xs) (fun i σ H' => H' = H ∧ ∃ o, σ = [some (.ref l), some (.int (lqF (qs.take i) 1)), o]) ?_ ?_ ?_ ?_⟩
  · exact ⟨rfl, _, rfl⟩
  · rintro i σ H' _ ⟨rfl, _⟩
    exact SqL.of hl
  · rintro i x σ H' hx ⟨rfl, o, rfl⟩
    obtain ⟨q, hq, ⟨a, rfl, ha⟩⟩ := shs.at hx
    obtain ⟨b0, b1⟩ := lq_all bq hn i
    have qb := bq q (List.mem_of_getElem? hq)
    have g0 := gI_pos_right (a := lqF (qs.take i) 1) (b := (q.den : Int)) (by have := q.den_pos; omega)
    have gb : Bt 8000 (gI (lqF (qs.take i) 1) (q.den : Int)) := (qb.2.gr (by have := q.den_pos; omega)).mono (by decide)
    refine ⟨_, rfl, _, rfl, _, rfl, a, _, _, _, rfl, rfl, ha, rfl, _, _, rfl, _, _, rfl, rfl, ⟨g0, gb⟩, _, rfl, a, _, _, _, rfl, rfl, ha, rfl, _, _, rfl, rfl, ⟨(b1.ediv g0).mono (by decide), qb.2.mono (by decide)⟩, ?_⟩
    exact ⟨rfl, _, by rw [lq_snoc hq]; rfl⟩
  · rintro σ H2 ⟨rfl, o, rfl⟩
    rw [xl, List.take_length]
    obtain ⟨b0, b1⟩ := lq_all bq hn qs.length
    rw [List.take_length] at b0 b1
    refine ⟨_, rfl, l, rfl, ⟨_, SqL.of hl⟩, comp_lst (xs := xs) (fs := [some (.int (lqF qs 1))]) (fun acc i ys H' => Same H2 H' ∧ ys = iv (tpF (lqF qs 1) (qs.take i))) (by omega) ?_ ?_ ?_ ?_⟩
    · intro acc hacc
      exact ⟨same_new hacc _, rfl⟩
    · rintro acc i ys H' hacc ⟨s', _⟩
      exact s' _ _ hl
    · rintro acc i ys H' x hacc hx hlen ⟨s', rfl⟩ hacc' Q' hQ
      obtain ⟨q, hq, ⟨a, rfl, ha⟩⟩ := shs.at hx
      have qb := bq q (List.mem_of_getElem? hq)
      have d0 : (0 : Int) < (q.den : Int) := by have := q.den_pos; omega
      refine ⟨_, rfl, a, _, _, _, rfl, rfl, s' _ _ ha, rfl, _, rfl, _, rfl, a, _, _, _, rfl, rfl, s' _ _ ha, rfl, _, _, rfl, rfl, ⟨d0, qb.2.mono (by decide)⟩, _, _, rfl, rfl, ⟨qb.1.mono (by decide), (b1.ediv d0).mono (by decide)⟩, hQ _ H' hacc' ⟨same_updN hacc s' _, ?_⟩⟩
      unfold tpF
      rw [List.take_add_one, hq, List.map_append]
      simp
    · rintro acc ys H' hacc ⟨s', rfl⟩ hacc' hlen
      rw [xl, List.take_length] at hacc'
      refine ⟨_, rfl, lz 2 rfl, fun t ht => ?_⟩
      have st := same_new ht (.tup [.ref acc, .int (lqF qs 1)])
      exact k t acc _ (s'.trans st) upd_same (st _ _ hacc')
def spParted : Sp := fun vs H Q _ => ∃ (t : Int) (l : Addr) (bs : List Int), vs = [.int t, .ref l] ∧ H l = some (.lst (bs.map V.int)) ∧ (∀ b ∈ bs, 0 < b ∧ b < 1000000) ∧ ∀ v H', Same H H' → PrAt H' v (partedF t bs) → Q v H'
theorem partedF_take {t : Int} {bs : List Int} {i : Nat} {b : Int} (h : bs[i]? = some b) : partedF t (bs.take (i + 1)) = ((partedF t (bs.take i)).1 / gI (partedF t (bs.take i)).1 b, (partedF t (bs.take i)).2 * (b / gI (partedF t (bs.take i)).1 b)) := by
  unfold partedF
  rw [List.take_add_one, h, List.foldl_append]
  rfl
theorem ok_parted (C_measure : Cal P w K mg base "measure" ["a", "b"] 1 spMeasure) (F : FunAt K mg "parted" ["top", "bottoms"] s_parted) : Cal P w K mg base "parted" ["top", "bottoms"] 2 spParted := by
  have S := sc_parted
  refine F.cal sc_parted (fun vs H Q E h => ?_) (fun f cdv A outer s H vs Q E hr h => ?_)
  · obtain ⟨t, l, bs, rfl, _⟩ := h; rfl
  obtain ⟨t, l, bs, rfl, hl, hb, k⟩ := h
  refine ⟨_, (@pss_cons _ _ _ _ _ (@ps_set _ _ (2) _ _ _ _ (by exact S.nd) (by rfl) (by first | exact Or.inl rfl | exact Or.inr rfl) pe_int (by first|rfl|decide|exact .inl rfl|exact .inr rfl|(intros; rfl)) (by first|rfl|decide|exact .inl rfl|exact .inr rfl|(intros; rfl))) (@pss_cons _ _ _ _ _ (@ps_for _ _ _ _ _ _ _ _ (by exact PassesOwn.never) (by rfl) (@pi_list _ _ _ _ (pv 1)) (@pg_name _ _ (3) _ (by exact S.nd) (by rfl) (by first | exact Or.inl rfl | exact Or.inr rfl) (by first|rfl|decide|exact .inl rfl|exact .inr rfl|(intros; rfl))) (@pss_cons _ _ _ _ _ (@ps_set _ _ (4) _ _ _ _ (by exact S.nd) (by rfl) (by first | exact Or.inl rfl | exact Or.inr rfl) (@cc _ _ _ _ _ _ _ _ _ _ (by exact C_measure) (by exact (hr.mono (by decide))) (@pa_consN _ _ _ _ _ (pv 0) (@pa_consN _ _ _ _ _ (pv 3) pa_nil (by first|rfl|decide|exact .inl rfl|exact .inr rfl|(intros; rfl))) (by first|rfl|decide|exact .inl rfl|exact .inr rfl|(intros; rfl))) (by first|rfl|decide|exact .inl rfl|exact .inr rfl|(intros; rfl)) (by first|rfl|decide|exact .inl rfl|exact .inr rfl|(intros; rfl)) (by first|rfl|decide|exact .inl rfl|exact .inr rfl|(intros; rfl)) (by first|rfl|decide|exact .inl rfl|exact .inr rfl|(intros; rfl))) (by first|rfl|decide|exact .inl rfl|exact .inr rfl|(intros; rfl)) (by first|rfl|decide|exact .inl rfl|exact .inr rfl|(intros; rfl))) (@pss_cons _ _ _ _ _ (@ps_set _ _ (0) _ _ _ _ (by exact S.nd) (by rfl) (by first | exact Or.inl rfl | exact Or.inr rfl) (@pe_op _ _ _ _ _ _ _ _ op_fdivB (pv 0) (pv 4)) (by first|rfl|decide|exact .inl rfl|exact .inr rfl|(intros; rfl)) (by first|rfl|decide|exact .inl rfl|exact .inr rfl|(intros; rfl))) (@pss_one _ _ _ (@ps_set _ _ (2) _ _ _ _ (by exact S.nd) (by rfl) (by first | exact Or.inl rfl | exact Or.inr rfl) (@pe_op _ _ _ _ _ _ _ _ op_mul (pv 2) (@pe_op _ _ _ _ _ _ _ _ op_fdivB (pv 3) (pv 4))) (by first|rfl|decide|exact .inl rfl|exact .inr rfl|(intros; rfl)) (by first|rfl|decide|exact .inl rfl|exact .inr rfl|(intros; rfl)))))) (by first|rfl|decide|exact .inl rfl|exact .inr rfl|(intros; rfl))) (@pss_one _ _ _ (@ps_ret _ _ _ _ (@pe_tup _ _ _ _ _ (@pa_consN _ _ _ _ _ (pv 0) (@pa_consN _ _ _ _ _ (pv 2) pa_nil (by first|rfl|decide|exact .inl rfl|exact .inr rfl|(intros; rfl))) (by first|rfl|decide|exact .inl rfl|exact .inr rfl|(intros; rfl)))))))), ?_⟩
  refine ⟨_, rfl, l, rfl, ⟨_, SqL.of hl⟩, for_list (xs := bs.map V.int) (fun i σ H' => H' = H ∧ ∃ o1 o2, σ = [some (.int (partedF t (bs.take i)).1), some (.ref l), some (.int (partedF t (bs.take i)).2), o1, o2]) ⟨rfl, _, _, rfl⟩ (fun i σ H2 _ ⟨e, _⟩ => by rw [e]; exact SqL.of hl) ?_ ?_⟩
  · rintro i y σ H' hi ⟨rfl, o1, o2, rfl⟩
    rw [List.getElem?_map] at hi
    cases hbi : bs[i]? with
    | none => rw [hbi] at hi; cases hi
    | some b =>
      rw [hbi] at hi
      cases hi
      obtain ⟨b0, b1⟩ := hb b (List.mem_of_getElem? hbi)
      have g0 := gI_pos_right (a := (partedF t (bs.take i)).1) (b := b) (by omega)
      have bb : Bt 20 b := intBits_le_iff.mpr (by show b.natAbs < 2 ^ 20; have : (2 : Nat) ^ 20 = 1048576 := rfl; omega)
      have gb : Bt 8000 (gI (partedF t (bs.take i)).1 b) := (bb.gr (by omega)).mono (by decide)
      have q0 : 0 ≤ b / gI (partedF t (bs.take i)).1 b := Int.ediv_nonneg (by omega) (by omega)
      have q1 : b / gI (partedF t (bs.take i)).1 b ≤ b := Int.ediv_le_self _ (by omega)
      refine ⟨_, rfl, _, rfl, _, _, rfl, ?_⟩
      refine ⟨_, rfl, _, rfl, _, _, rfl, rfl, ⟨g0, gb⟩, ?_⟩
      refine ⟨_, rfl, _, rfl, _, rfl, _, _, rfl, rfl, ⟨g0, gb⟩, _, _, rfl, rfl, .inr ⟨by omega, by omega⟩, rfl, some (.int b), some (.int (gI (partedF t (bs.take i)).1 b)), ?_⟩
      rw [partedF_take hbi]
      rfl
  · rintro σ H' ⟨rfl, o1, o2, rfl⟩
    rw [List.length_map, List.take_length]
    exact ⟨_, rfl, _, rfl, lz 2 rfl, fun p hp => k _ _ (same_new hp _) ⟨p, rfl, upd_same⟩⟩

end
end My

set_option Elab.async false
set_option linter.all false
set_option maxRecDepth 100000
set_option maxHeartbeats 4000000
namespace My
open PySem L2 MA Srt
/-- rows of a key and an int -/
def RwI (H : Hp) (v : V) (r : List Int × Int) : Prop := ∃ a b, v = .ref a ∧ H a = some (.tup [.ref b, .int r.2]) ∧ H b = some (.tup (iv r.1))
abbrev RowsI (H : Hp) (xs : List V) (rows : Mp) : Prop := Paired (RwI H) xs rows
theorem RwI.imp {H H' : Hp} {v : V} {r : List Int × Int} (k : ∀ b xs, H b = some (.tup xs) → H' b = some (.tup xs)) (h : RwI H v r) : RwI H' v r := let ⟨a, b, e, h1, h2⟩ := h; ⟨a, b, e, k _ _ h1, k _ _ h2⟩
theorem tup_upd {H : Hp} {d : Addr} {o : HO} (hd : H d = none) : ∀ b xs, H b = some (.tup xs) → upd H d o b = some (.tup xs) := fun b xs e => by rw [upd_ne (ne_of_none e hd)]; exact e
theorem iv_key (k : List Int) : iv k = (k.map (Sum.inl : Int → Key)).map kV := by rw [List.map_map]; rfl
theorem gath_take {rows : Mp} {i : Nat} {r : List Int × Int} (h : rows[i]? = some r) : gath (rows.take (i + 1)) = putM (gath (rows.take i)) r.1 (getM (gath (rows.take i)) r.1 + r.2) := by
  rw [List.take_add_one, h]
  show gath (rows.take i ++ [r]) = _
  rw [gath_snoc]; rfl
theorem gath_len (rows : Mp) : (gath rows).length ≤ rows.length := by
  have : ∀ (rows m : Mp), (rows.foldl addM m).length ≤ m.length + rows.length := by
    intro rows
    induction rows with
    | nil => intro m; simp
    | cons r rows ih =>
      intro m
      rw [List.foldl_cons]
      have h1 := ih (addM m r)
      have h2 : (addM m r).length ≤ m.length + 1 := by
        unfold addM putM
        split
        · simp
        · simp
      rw [List.length_cons]; omega
  have := this rows []
  simpa [gath] using this
section
variable {P : Program} {w : World} {K : PySem.W.Frag} {mg : Str → Option Value} {base : Heap}
def spGathered : Sp := fun vs H Q _ => ∃ (l : Addr) (xs : List V) (rows : Mp), vs = [.ref l] ∧ H l = some (.lst xs) ∧ RowsI H xs rows ∧ rows.length ≤ 100000 ∧ ∀ (d : Addr) (H' : Hp), Same H H' → H d = none → H' d = some (dI (gath rows)) → Q (.ref d) H'
theorem ok_gathered (F : FunAt K mg "gathered" ["rows"] s_gathered) : Cal P w K mg base "gathered" ["rows"] 1 spGathered := by
  have S := sc_gathered
  refine F.cal sc_gathered (fun vs H Q E h => ?_) (fun f cdv A outer s H vs Q E hr h => ?_)
  · obtain ⟨l, xs, rows, rfl, _⟩ := h; rfl
  obtain ⟨l, xs, rows, rfl, hl, hr', hz, k⟩ := h
  have hu1 := hu_of hr
  have xl := Paired.length hr'
  refine ⟨_, (@pss_cons _ _ _ _ _ (@ps_set _ _ (1) _ _ _ _ (by exact S.nd) (by rfl) (by first | exact Or.inl rfl | exact Or.inr rfl) pe_dnewT (by first|rfl|decide|exact .inl rfl|exact .inr rfl|(intros; rfl)) (by first|rfl|decide|exact .inl rfl|exact .inr rfl|(intros; rfl))) (@pss_cons _ _ _ _ _ (@ps_for _ _ _ _ _ _ _ _ (by exact PassesOwn.never) (by rfl) (@pi_list _ _ _ _ (pv 0)) (@pg_tup _ _ _ _ _ _ (by rfl) (@pgs_cons _ _ _ _ _ (@pg_name _ _ (2) _ (by exact S.nd) (by rfl) (by first | exact Or.inl rfl | exact Or.inr rfl) (by first|rfl|decide|exact .inl rfl|exact .inr rfl|(intros; rfl))) (@pgs_cons _ _ _ _ _ (@pg_name _ _ (3) _ (by exact S.nd) (by rfl) (by first | exact Or.inl rfl | exact Or.inr rfl) (by first|rfl|decide|exact .inl rfl|exact .inr rfl|(intros; rfl))) pgs_nil (by first|rfl|decide|exact .inl rfl|exact .inr rfl|(intros; rfl))) (by first|rfl|decide|exact .inl rfl|exact .inr rfl|(intros; rfl))) (by first|rfl|decide|exact .inl rfl|exact .inr rfl|(intros; rfl)) (by first|rfl|decide|exact .inl rfl|exact .inr rfl|(intros; rfl))) (@pss_one _ _ _ (@ps_dput _ _ _ _ _ _ _ _ _ (by exact hu1) (pv 1) (pv 2) (@pe_op _ _ _ _ _ _ _ _ op_add (@pe_dget2 _ _ _ _ _ _ _ _ _ (by exact hu1) (pv 1) (pv 2) pe_int (by exact ⟨rfl, rfl, rfl, rfl⟩)) (pv 3)) (by rfl))) (by first|rfl|decide|exact .inl rfl|exact .inr rfl|(intros; rfl))) (@pss_one _ _ _ (@ps_ret _ _ _ _ (pv 1))))), ?_⟩
  intro d hd
  refine ⟨_, rfl, l, rfl, ⟨_, SqL.of (by rw [upd_ne (ne_of_none hl hd)]; exact hl)⟩, for_list (xs := xs) (fun i σ H' => H' = upd H d (dI (gath (rows.take i))) ∧ ∃ o1 o2, σ = [some (.ref l), some (.ref d), o1, o2]) ⟨rfl, _, _, rfl⟩ ?_ ?_ ?_⟩
  · rintro i σ H' _ ⟨rfl, _⟩
    exact SqL.of (by rw [upd_ne (ne_of_none hl hd)]; exact hl)
  · rintro i x σ H' hxi ⟨rfl, o1, o2, rfl⟩
    obtain ⟨r, hri, a, b, rfl, ha, hb⟩ := paired_get hr' hxi
    have ha' := tup_upd (o := dI (gath (rows.take i))) hd _ _ ha
    have hb' := tup_upd (o := dI (gath (rows.take i))) hd _ _ hb
    rw [iv_key] at hb'
    refine ⟨a, _, rfl, SqT.of ha', rfl, _, _, rfl, _, _, rfl, rfl, ?_⟩
    refine ⟨_, rfl, d, rfl, .inr ⟨_, .inl upd_same⟩, _, rfl, _, DGet.t upd_same hb', ?_⟩
    rw [valV_getD]
    refine ⟨_, rfl, _, _, rfl, rfl, _, rfl, _, rfl, d, _, rfl, DPut.t upd_same hb' ?_, ?_⟩
    · rw [List.length_map]
      have := gath_len (rows.take i)
      rw [List.length_take] at this
      rw [sizeLine_eq]; omega
    · rw [putK_dI, upd_upd]
      exact ⟨by rw [gath_take hri]; rfl, _, _, rfl⟩
  · rintro σ H' ⟨rfl, o1, o2, rfl⟩
    rw [xl, List.take_length]
    exact ⟨_, rfl, k d _ (same_new hd _) hd upd_same⟩
end
end My

set_option Elab.async false
set_option linter.all false
set_option maxRecDepth 100000
set_option maxHeartbeats 4000000
namespace My
open PySem L2 MA Srt
def fI (p : List Int × Int) : List Int × V := (p.1, .int p.2)
theorem dI_kI (m : Mp) : HO.dT ((m.map fI).map kI) = dI m := by unfold dI; rw [List.map_map]; rfl
theorem sorted_rows {m : Mp} (nd : (keysM m).Nodup) {rs : List (List Int × V)} (h : rs.Perm (m.map fI)) (hr : Rising (rs.map (·.1))) : rs = (rise (keysM m)).map fun k => (k, V.int (getM m k)) := by
  have e1 : rs.map (·.1) = rise (keysM m) := by
    refine rise_eq ?_ hr
    have := h.map (·.1)
    rwa [List.map_map] at this
  rw [← e1, List.map_map]
  conv => lhs; rw [← List.map_id rs]
  refine List.map_congr_left fun r hr' => ?_
  obtain ⟨p, hp, rfl⟩ := List.mem_map.mp (h.mem_iff.mp hr')
  show fI p = (p.1, V.int (getM m p.1))
  rw [getM_mem nd hp]; rfl
theorem tupL {H : Hp} {p : Addr} {ys : List V} {o : HO} (h : H p = some (.lst ys)) : ∀ b xs, H b = some (.tup xs) → upd H p o b = some (.tup xs) := fun b xs e => by rw [upd_ne (ne_of e h (by intro z; cases z))]; exact e
theorem tT_ {σ : St} {H : Hp} {Q : Bool → Hp → Prop} (h : Q true H) : tTT σ H Q := h
theorem none_of {H H' : Hp} {p : Addr} (s : Same H H') (h : H' p = none) : H p = none := by
  cases e : H p with
  | none => rfl
  | some o => rw [s _ _ e] at h; cases h
theorem paired_snoc {α β : Type} {F : α → β → Prop} {xs : List α} {ys : List β} {x : α} {y : β} (h : Paired F xs ys) (r : F x y) : Paired F (xs ++ [x]) (ys ++ [y]) := Paired.snoc h r
theorem take_snoc {α : Type} {l : List α} {i : Nat} {x : α} (h : l[i]? = some x) : l.take (i + 1) = l.take i ++ [x] := by rw [List.take_add_one, h]; rfl
section
variable {P : Program} {w : World} {K : PySem.W.Frag} {mg : Str → Option Value} {base : Heap}
def spSpreadOf : Sp := fun vs H Q _ => ∃ (d lb : Addr) (m : Mp) (bs : List Int), vs = [.ref d, .ref lb] ∧ H d = some (dI m) ∧ H lb = some (.lst (iv bs)) ∧ (keysM m).Nodup ∧ m.length < 64 ∧ (∀ b ∈ bs, 0 < b ∧ b < 1000000) ∧ ∀ (l : Addr) (H' : Hp), Same H H' → H l = none → SpAt H' l (sprF m bs.prod) → Q (.ref l) H'
theorem ok_spreadof (T : Txt2 mg) (C_parted : Cal P w K mg base "parted" ["top", "bottoms"] 2 spParted) (F : FunAt K mg "spread_of" ["weights", "bottoms"] s_spread_of) : Cal P w K mg base "spread_of" ["weights", "bottoms"] 3 spSpreadOf := by
  have S := sc_spread_of
  refine F.cal sc_spread_of (fun vs H Q E h => ?_) (fun f cdv A outer s H vs Q E hr h => ?_)
  · obtain ⟨d, lb, m, bs, rfl, _⟩ := h; rfl
  obtain ⟨d, lb, m, bs, rfl, hd, hb, nd, few, hbs, k⟩ := h
  have hu2 := hu2_of hr
  refine ⟨_, (@pss_one _ _ _ (@ps_ret _ _ _ _ (@pe_comp _ _ _ _ _ _ _ _ _ _ _ _ _ (by rfl) (by exact (fun _ _ h => h)) (by decide +kernel) (by rfl) (by decide +kernel) (by exact hfr_of rfl) (by exact Sees.frees ["load", "weight"] [("bottoms", 1)] (fr_cons ⟨rfl, rfl⟩ fr_nil)) (@pi_list _ _ _ _ (@pe_callB _ _ _ _ _ _ _ _ _ (call_sortedI (by rfl) hu2) (by rfl) (by exact T.z_sorted) (by exact bt_sorted) (@pa_consN _ _ _ _ _ (@pe_items _ _ _ _ _ (pv 0) (by first|rfl|decide|exact .inl rfl|exact .inr rfl|(intros; rfl)) (by first|rfl|decide|exact .inl rfl|exact .inr rfl|(intros; rfl))) pa_nil (by first|rfl|decide|exact .inl rfl|exact .inr rfl|(intros; rfl))) (by first|rfl|decide|exact .inl rfl|exact .inr rfl|(intros; rfl)) (by first|rfl|decide|exact .inl rfl|exact .inr rfl|(intros; rfl)) (by first|rfl|decide|exact .inl rfl|exact .inr rfl|(intros; rfl)) (by first|rfl|decide|exact .inl rfl|exact .inr rfl|(intros; rfl)))) (fun _ _ _ _ _ => @pg_tup0 _ _ _ _ _ (2) (by rfl) (@pgs_cons _ _ _ _ _ (@pg_name _ _ (0) _ (by exact (show (["load", "weight", "bottoms"] : List Str).Nodup by decide +kernel)) (by rfl) (by first | exact Or.inl rfl | exact Or.inr rfl) (by first|rfl|decide|exact .inl rfl|exact .inr rfl|(intros; rfl))) (@pgs_cons _ _ _ _ _ (@pg_name _ _ (1) _ (by exact (show (["load", "weight", "bottoms"] : List Str).Nodup by decide +kernel)) (by rfl) (by first | exact Or.inl rfl | exact Or.inr rfl) (by first|rfl|decide|exact .inl rfl|exact .inr rfl|(intros; rfl))) pgs_nil (by first|rfl|decide|exact .inl rfl|exact .inr rfl|(intros; rfl))) (by first|rfl|decide|exact .inl rfl|exact .inr rfl|(intros; rfl))) (by first|rfl|decide|exact .inl rfl|exact .inr rfl|(intros; rfl)) (by first|rfl|decide|exact .inl rfl|exact .inr rfl|(intros; rfl))) (fun _ _ _ _ _ => pts_nil) (fun _ _ _ _ _ => (@pe_tup _ _ _ _ _ (@pa_consN _ _ _ _ _ (pv 0) (@pa_consN _ _ _ _ _ (@cc _ _ _ _ _ _ _ _ _ _ (by exact C_parted) (by exact (hr.mono (by decide))) (@pa_consN _ _ _ _ _ (pv 1) (@pa_consN _ _ _ _ _ (pv 2) pa_nil (by first|rfl|decide|exact .inl rfl|exact .inr rfl|(intros; rfl))) (by first|rfl|decide|exact .inl rfl|exact .inr rfl|(intros; rfl))) (by first|rfl|decide|exact .inl rfl|exact .inr rfl|(intros; rfl)) (by first|rfl|decide|exact .inl rfl|exact .inr rfl|(intros; rfl)) (by first|rfl|decide|exact .inl rfl|exact .inr rfl|(intros; rfl)) (by first|rfl|decide|exact .inl rfl|exact .inr rfl|(intros; rfl))) pa_nil (by first|rfl|decide|exact .inl rfl|exact .inr rfl|(intros; rfl))) (by first|rfl|decide|exact .inl rfl|exact .inr rfl|(intros; rfl))))) (by first|rfl|decide|exact .inl rfl|exact .inr rfl|(intros; rfl))))), ?_⟩
  refine ⟨_, rfl, d, _, rfl, .inl hd, fun v hv => ?_⟩
  have s1 := same_new hv (itV v d)
  refine ⟨v, d, m.map fI, rfl, upd_same, .inl (by rw [dI_kI]; exact s1 _ _ hd), by simpa using few, fun H2 q as rs s2 hq pm ri pr => ?_⟩
  have e := sorted_rows nd pm ri
  subst e
  have s3 := same_new hq (.lst (as.map V.ref))
  have sA := s1.trans (s2.trans s3)
  have al : as.length = (rise (keysM m)).length := by have := Paired.length pr; simpa using this
  have kl : (rise (keysM m)).length = m.length := by rw [(rise_perm _).length_eq]; simp [keysM]
  refine ⟨q, rfl, ⟨_, SqL.of upd_same⟩, comp_Y (yields_lst (xs := as.map V.ref)) (fun p i ys σ' H' => Same (upd H2 q (.lst (as.map V.ref))) H' ∧ (∃ o1 o2, σ' = [o1, o2, some (.ref lb)]) ∧ ys.length = i ∧ Paired (RwAt H') ys ((sprF m bs.prod).take i)) (by simp; omega) ?_ ?_ ?_ ?_⟩
  · intro p hp
    exact ⟨same_new hp _, ⟨_, _, rfl⟩, rfl, .nil⟩
  · rintro p i ys σ' H' hp ⟨s', _⟩
    exact s' _ _ upd_same
  · rintro p i ys σ' H' x H'' hp hi hl ⟨s', ⟨o1, o2, rfl⟩, yl, pr'⟩ hp' ⟨rfl, hx⟩ Q1 Q2 h1 h2
    rw [List.getElem?_map, Option.map_eq_some_iff] at hx
    obtain ⟨a, ha, rfl⟩ := hx
    obtain ⟨r, hri, b, hb1, hb2, hb3⟩ := paired_get pr ha
    rw [List.getElem?_map, Option.map_eq_some_iff] at hri
    obtain ⟨kk, hk1, rfl⟩ := hri
    have ha' := (s3.trans s') _ _ hb3
    have hb' := (s2.trans (s3.trans s')) _ _ hb1
    refine ⟨a, _, rfl, ha', rfl, _, _, rfl, _, _, rfl, rfl, ?_⟩
    refine tT_ (iteT ?_)
    refine ⟨_, rfl, _, rfl, _, rfl, _, lb, bs, rfl, (sA.trans s') _ _ hb, hbs, fun v2 H5 s5 pa => ?_⟩
    rw [parted_q _ bs rfl fun b hb => (hbs b hb).1] at pa
    refine ⟨lz 2 rfl, fun t ht => h1 _ _ _ ?_ ?_⟩
    · exact same_new ht _ _ _ (s5 _ _ hp')
    · have s6 := same_new ht (.tup [.ref b, v2])
      have hp6 := s6 _ _ (s5 _ _ hp')
      refine ⟨same_updN hp (s'.trans (s5.trans s6)) _, ⟨_, _, rfl⟩, by simp [yl], ?_⟩
      have hs : (sprF m bs.prod)[i]? = some (kk, Rat.divInt (getM m kk) bs.prod) := by unfold sprF; rw [List.getElem?_map, hk1]; rfl
      rw [take_snoc hs]
      refine paired_snoc (Paired.mapP pr' fun _ _ z => z.imp fun b xs e => tupL hp6 _ _ ((s5.trans s6) _ _ e)) ⟨t, b, v2, rfl, tupL hp6 _ _ upd_same, tupL hp6 _ _ ((s5.trans s6) _ _ hb'), ?_⟩
      obtain ⟨c, e2, h3⟩ := pa
      exact ⟨c, e2, tupL hp6 _ _ (s6 _ _ h3)⟩
  · rintro p ys σ' H' hp ⟨s', _, yl, pr'⟩ hp' hl
    refine k p H' (sA.trans s') ?_ ⟨ys, hp', ?_⟩
    · exact none_of sA hp
    · rw [List.length_map, al] at pr'
      have : (sprF m bs.prod).length = (rise (keysM m)).length := by simp [sprF]
      rw [← this, List.take_length] at pr'
      exact pr'
end
end My

set_option Elab.async false
set_option linter.all false
set_option maxRecDepth 100000
set_option maxHeartbeats 4000000
namespace My
open PySem L2 MA Srt
/-- the weights of a spread, over one bottom -/
def wtF (B : Int) (rs : Spd) : Mp := rs.map fun r => (r.1, r.2.num * (B / (r.2.den : Int)))
theorem wt_keys (B : Int) (rs : Spd) : keysM (wtF B rs) = rs.map (·.1) := by unfold keysM wtF; rw [List.map_map]; rfl
theorem put_new {m : Mp} {k : List Int} {v : Int} (h : k ∉ keysM m) : putM m k v = m ++ [(k, v)] := by
  unfold putM; rw [if_neg fun z => h (hasM_iff.mp z)]
section
variable {P : Program} {w : World} {K : PySem.W.Frag} {mg : Str → Option Value} {base : Heap}
def spWeightsOf : Sp := fun vs H Q _ => ∃ (l : Addr) (rs : Spd), vs = [.ref l] ∧ SpAt H l rs ∧ (rs.map (·.1)).Nodup ∧ (∀ r ∈ rs, SB 50 r.2) ∧ rs.length ≤ 24 ∧
  ∀ (t d : Addr) (H' : Hp), Same H H' → H' t = some (.tup [.ref d, .int (lqF (rs.map (·.2)) 1)]) → H d = none → H' d = some (dI (wtF (lqF (rs.map (·.2)) 1) rs)) → Q (.ref t) H'
theorem ok_weightsof (T : Txt2 mg) (C_weighed : Cal P w K mg base "weighed" ["some"] 2 spWeighQ) (F : FunAt K mg "weights_of" ["spread"] s_weights_of) : Cal P w K mg base "weights_of" ["spread"] 3 spWeightsOf := by
  have S := sc_weights_of
  refine F.cal sc_weights_of (fun vs H Q E h => ?_) (fun f cdv A outer s H vs Q E hr h => ?_)
  · obtain ⟨l, rs, rfl, _⟩ := h; rfl
  obtain ⟨l, rs, rfl, ⟨xs, hl, rws⟩, nd, sb, hz, k⟩ := h
  have hu1 := hu_of hr
  have xl := Paired.length rws
  refine ⟨_, (@pss_cons _ _ _ _ _ (@ps_asg _ _ _ _ _ _ (@cc _ _ _ _ _ _ _ _ _ _ (by exact C_weighed) (by exact (hr.mono (by decide))) (@pa_consN _ _ _ _ _ (@pe_comp _ _ _ _ _ _ _ _ _ _ _ _ _ (by rfl) (by exact (fun _ _ h => h)) (by decide +kernel) (by rfl) (by decide +kernel) (by exact hfr_of rfl) (by exact Sees.frees ["load", "part"] [] fr_nil) (@pi_list _ _ _ _ (pv 0)) (fun _ _ _ _ _ => @pg_tup0 _ _ _ _ _ (2) (by rfl) (@pgs_cons _ _ _ _ _ (@pg_name _ _ (0) _ (by exact (show (["load", "part"] : List Str).Nodup by decide +kernel)) (by rfl) (by first | exact Or.inl rfl | exact Or.inr rfl) (by first|rfl|decide|exact .inl rfl|exact .inr rfl|(intros; rfl))) (@pgs_cons _ _ _ _ _ (@pg_name _ _ (1) _ (by exact (show (["load", "part"] : List Str).Nodup by decide +kernel)) (by rfl) (by first | exact Or.inl rfl | exact Or.inr rfl) (by first|rfl|decide|exact .inl rfl|exact .inr rfl|(intros; rfl))) pgs_nil (by first|rfl|decide|exact .inl rfl|exact .inr rfl|(intros; rfl))) (by first|rfl|decide|exact .inl rfl|exact .inr rfl|(intros; rfl))) (by first|rfl|decide|exact .inl rfl|exact .inr rfl|(intros; rfl)) (by first|rfl|decide|exact .inl rfl|exact .inr rfl|(intros; rfl))) (fun _ _ _ _ _ => pts_nil) (fun _ _ _ _ _ => (pv 1)) (by first|rfl|decide|exact .inl rfl|exact .inr rfl|(intros; rfl))) pa_nil (by first|rfl|decide|exact .inl rfl|exact .inr rfl|(intros; rfl))) (by first|rfl|decide|exact .inl rfl|exact .inr rfl|(intros; rfl)) (by first|rfl|decide|exact .inl rfl|exact .inr rfl|(intros; rfl)) (by first|rfl|decide|exact .inl rfl|exact .inr rfl|(intros; rfl)) (by first|rfl|decide|exact .inl rfl|exact .inr rfl|(intros; rfl))) (@pg_tup _ _ _ _ _ _ (by rfl) (@pgs_cons _ _ _ _ _ (@pg_name _ _ (1) _ (by exact S.nd) (by rfl) (by first | exact Or.inl rfl | exact Or.inr rfl) (by first|rfl|decide|exact .inl rfl|exact .inr rfl|(intros; rfl))) (@pgs_cons _ _ _ _ _ (@pg_name _ _ (2) _ (by exact S.nd) (by rfl) (by first | exact Or.inl rfl | exact Or.inr rfl) (by first|rfl|decide|exact .inl rfl|exact .inr rfl|(intros; rfl))) pgs_nil (by first|rfl|decide|exact .inl rfl|exact .inr rfl|(intros; rfl))) (by first|rfl|decide|exact .inl rfl|exact .inr rfl|(intros; rfl))) (by first|rfl|decide|exact .inl rfl|exact .inr rfl|(intros; rfl)) (by first|rfl|decide|exact .inl rfl|exact .inr rfl|(intros; rfl))) (by first|rfl|decide|exact .inl rfl|exact .inr rfl|(intros; rfl)) (by first|rfl|decide|exact .inl rfl|exact .inr rfl|(intros; rfl)) (by first|rfl|decide|exact .inl rfl|exact .inr rfl|(intros; rfl))) (@pss_one _ _ _ (@ps_ret _ _ _ _ (@pe_tup _ _ _ _ _ (@pa_consN _ _ _ _ _ (@pe_dcompT _ _ _ _ _ _ _ _ _ _ _ _ _ _ _ (by exact hu1) (by rfl) (by exact (fun _ _ h => h)) (by decide +kernel) (by rfl) (by decide +kernel) (by exact hfr_of rfl) (by exact Sees.frees ["top", "load", "part"] [] fr_nil) (@pi_zip _ _ _ _ _ _ _ _ _ (by rfl) (by exact T.z_zip) (@pa_consN _ _ _ _ _ (pv 0) (@pa_consN _ _ _ _ _ (pv 1) pa_nil (by first|rfl|decide|exact .inl rfl|exact .inr rfl|(intros; rfl))) (by first|rfl|decide|exact .inl rfl|exact .inr rfl|(intros; rfl))) (by first|rfl|decide|exact .inl rfl|exact .inr rfl|(intros; rfl)) (by first|rfl|decide|exact .inl rfl|exact .inr rfl|(intros; rfl))) (fun _ _ _ _ _ => (@pg_tup0 _ _ _ _ _ (2) (by rfl) (@pgs_cons _ _ _ _ _ (@pg_tup0 _ _ _ _ _ (2) (by rfl) (@pgs_cons _ _ _ _ _ (@pg_name _ _ (1) _ (by exact (show (["top", "load", "part"] : List Str).Nodup by decide +kernel)) (by rfl) (by first | exact Or.inl rfl | exact Or.inr rfl) (by first|rfl|decide|exact .inl rfl|exact .inr rfl|(intros; rfl))) (@pgs_cons _ _ _ _ _ (@pg_name _ _ (2) _ (by exact (show (["top", "load", "part"] : List Str).Nodup by decide +kernel)) (by rfl) (by first | exact Or.inl rfl | exact Or.inr rfl) (by first|rfl|decide|exact .inl rfl|exact .inr rfl|(intros; rfl))) pgs_nil (by first|rfl|decide|exact .inl rfl|exact .inr rfl|(intros; rfl))) (by first|rfl|decide|exact .inl rfl|exact .inr rfl|(intros; rfl))) (by first|rfl|decide|exact .inl rfl|exact .inr rfl|(intros; rfl)) (by first|rfl|decide|exact .inl rfl|exact .inr rfl|(intros; rfl))) (@pgs_cons _ _ _ _ _ (@pg_name _ _ (0) _ (by exact (show (["top", "load", "part"] : List Str).Nodup by decide +kernel)) (by rfl) (by first | exact Or.inl rfl | exact Or.inr rfl) (by first|rfl|decide|exact .inl rfl|exact .inr rfl|(intros; rfl))) pgs_nil (by first|rfl|decide|exact .inl rfl|exact .inr rfl|(intros; rfl))) (by first|rfl|decide|exact .inl rfl|exact .inr rfl|(intros; rfl))) (by first|rfl|decide|exact .inl rfl|exact .inr rfl|(intros; rfl)) (by first|rfl|decide|exact .inl rfl|exact .inr rfl|(intros; rfl)))) (fun _ _ _ _ _ => pts_nil) (fun _ _ _ _ _ => (pv 1)) (fun _ _ _ _ _ => (pv 0)) (by first|rfl|decide|exact .inl rfl|exact .inr rfl|(intros; rfl))) (@pa_consN _ _ _ _ _ (pv 2) pa_nil (by first|rfl|decide|exact .inl rfl|exact .inr rfl|(intros; rfl))) (by first|rfl|decide|exact .inl rfl|exact .inr rfl|(intros; rfl))))))), ?_⟩
  refine ⟨_, rfl, l, rfl, ⟨_, SqL.of hl⟩, comp_Y (yields_lst (xs := xs)) (fun p i ys σ' H' => Same H H' ∧ (∃ o1 o2, σ' = [o1, o2]) ∧ ys.length = i ∧ Shs H' ys ((rs.take i).map (·.2))) (by omega) ?_ ?_ ?_ ?_⟩
  · intro p hp
    exact ⟨same_new hp _, ⟨_, _, rfl⟩, rfl, .nil⟩
  · rintro p i ys σ' H' hp ⟨s', _⟩
    exact s' _ _ hl
  · rintro p i ys σ' H' x H'' hp hi hl' ⟨s', ⟨o1, o2, rfl⟩, yl, sh⟩ hp' ⟨rfl, hx⟩ Q1 Q2 h1 h2
    obtain ⟨r, hri, a, b, v2, rfl, ha, hb, hv⟩ := paired_get rws hx
    refine ⟨a, _, rfl, s' _ _ ha, rfl, _, _, rfl, _, _, rfl, rfl, ?_⟩
    refine tT_ (iteT ⟨_, rfl, h1 _ _ _ hp' ⟨same_updN hp s' _, ⟨_, _, rfl⟩, by simp [yl], ?_⟩⟩)
    rw [take_snoc hri, List.map_append]
    exact Shs.snoc (shUpdL hp' (hv.same s')) (Shs.updL hp' sh)
  · rintro p ys σ' H' hp ⟨s', _, yl, sh⟩ hp' hl'
    rw [xl, List.take_length] at sh
    refine ⟨p, ys, rs.map (·.2), rfl, hp', sh, fun q hq => ?_, by simpa using hz, fun t c H2 s2 ht hc => ?_⟩
    · obtain ⟨r, hr', rfl⟩ := List.mem_map.mp hq
      exact sb r hr'
    refine ⟨t, _, rfl, SqT.of ht, rfl, _, _, rfl, _, _, rfl, rfl, ?_⟩
    have sA := s'.trans s2
    have tl : (iv (tpF (lqF (rs.map (·.2)) 1) (rs.map (·.2)))).length = xs.length := by simp [tpF, xl]
    generalize hB : lqF (rs.map (·.2)) 1 = B at *
    refine ⟨_, rfl, _, rfl, l, c, rfl, ⟨_, SqL.of (sA _ _ hl)⟩, ⟨_, SqL.of hc⟩, fun d hd => loopW_Y (yields_zip (xs := xs) (ys := iv (tpF B (rs.map (·.2)))) tl.symm) (fun i σ' H' => Same H2 H' ∧ (∃ o1 o2 o3, σ' = [o1, o2, o3]) ∧ H' d = some (dI (wtF B (rs.take i)))) ?_ ?_ ?_ ?_⟩
    · exact ⟨same_new hd _, ⟨_, _, _, rfl⟩, upd_same⟩
    · rintro i σ' H' ⟨s3, _⟩
      exact ⟨(sA.trans s3) _ _ hl, s3 _ _ hc⟩
    · rintro i x σ' H3 H4 hi ⟨s3, ⟨o1, o2, o3, rfl⟩, hd3⟩ ⟨q, y, z, rfl, hq, rfl, hy, hz'⟩ R hR
      obtain ⟨r, hri, a, b, v2, rfl, ha, hb, hv⟩ := paired_get rws hy
      have s4 := same_new hq (.tup [.ref a, z])
      have sB := sA.trans (s3.trans s4)
      have ez : z = .int (r.2.num * (B / (r.2.den : Int))) := by
        have : (iv (tpF B (rs.map (·.2))))[i]? = some (.int (r.2.num * (B / (r.2.den : Int)))) := by simp [tpF, hri]
        rw [this] at hz'; exact (Option.some.inj hz').symm
      subst ez
      refine ⟨q, _, rfl, upd_same, rfl, _, _, rfl, a, _, rfl, sB _ _ ha, rfl, _, _, rfl, _, _, rfl, rfl, _, _, rfl, rfl, ?_⟩
      have hb4 := sB _ _ hb
      rw [iv_key] at hb4
      refine tT_ (iteT ⟨_, rfl, _, rfl, b, _, _, rfl, hb4, s4 _ _ hd3, ?_, hR _ _ ⟨same_updN hd (s3.trans s4) _, ⟨_, _, _, rfl⟩, ?_⟩⟩)
      · simp [wtF]; omega
      · rw [upd_same, putK_dI]
        congr 2
        rw [put_new]
        · rw [take_snoc hri]; simp [wtF]
        · rw [wt_keys]
          intro zz
          have := List.nodup_append.mp (show ((rs.take i).map (·.1) ++ [r.1]).Nodup from by
            have e : (rs.take (i + 1)).map (·.1) = (rs.take i).map (·.1) ++ [r.1] := by rw [take_snoc hri, List.map_append]; rfl
            rw [← e, List.map_take]
            exact nd.sublist (List.take_sublist _ _))
          exact this.2.2 _ zz _ (by simp) rfl
    · rintro σ' H3 ⟨s3, _, hd3⟩
      rw [xl, List.take_length] at hd3
      refine ⟨_, rfl, lz 2 rfl, fun t' ht' => ?_⟩
      have s5 := same_new ht' (.tup [.ref d, .int B])
      exact k t' d _ (sA.trans (s3.trans s5)) upd_same (none_of sA hd) (s5 _ _ hd3)
end
end My

set_option Elab.async false
set_option linter.all false
set_option maxRecDepth 100000
set_option maxHeartbeats 4000000
namespace My
open PySem L2 MA Srt
/-- all but p stays -/
def SmB (p : Addr) (H H' : Hp) : Prop := ∀ b u, b ≠ p → H b = some u → H' b = some u
theorem SmB.refl (p : Addr) (H : Hp) : SmB p H H := fun _ _ _ e => e
theorem SmB.trans {p : Addr} {H H1 H2 : Hp} (a : SmB p H H1) (b : SmB p H1 H2) : SmB p H H2 := fun c u n e => b c u n (a c u n e)
theorem SmB.of {p : Addr} {H H' : Hp} (s : Same H H') : SmB p H H' := fun b u _ e => s b u e
theorem SmB.upd {p : Addr} {H H' : Hp} (s : SmB p H H') (o : HO) : SmB p H (L2.upd H' p o) := fun b u n e => by rw [upd_ne n]; exact s b u n e
theorem SmB.tup {p : Addr} {H H' : Hp} {ys : List V} (s : SmB p H H') (hp : H p = some (.lst ys)) : ∀ b xs, H b = some (.tup xs) → H' b = some (.tup xs) := fun b xs e => s b _ (ne_of e hp (by intro z; cases z)) e
/-- one ball more -/
def comeF (c : List Int) (m : Mp) : Mp := gath (rowsM m (gainF c c.length))
theorem rows_take {m : Mp} {g : List Int → Mp} {i : Nat} {p : List Int × Int} (h : m[i]? = some p) : rowsM (m.take (i + 1)) g = rowsM (m.take i) g ++ (g p.1).map fun q => (q.1, p.2 * q.2) := by
  rw [take_snoc h]; unfold rowsM; rw [List.flatMap_append]; simp
theorem gain_len (c : List Int) (n : Nat) (l : List Int) : (gainF c n l).length ≤ n := by
  induction n with
  | zero => simp [gainF]
  | succ n ih =>
    rw [gain_succ, List.length_append]
    split <;> simp <;> omega
theorem rows_len (m : Mp) (g : List Int → Mp) (n : Nat) (h : ∀ l, (g l).length ≤ n) : (rowsM m g).length ≤ m.length * n := by
  induction m with
  | nil => simp [rowsM]
  | cons p m ih =>
    have e : rowsM (p :: m) g = (g p.1).map (fun q => (q.1, p.2 * q.2)) ++ rowsM m g := by unfold rowsM; rw [List.flatMap_cons]
    rw [e, List.length_append, List.length_map, List.length_cons, Nat.add_mul]
    have := h p.1
    omega
section
variable {P : Program} {w : World} {K : PySem.W.Frag} {mg : Str → Option Value} {base : Heap}
def spCome : Sp := fun vs H Q _ => ∃ (lc d : Addr) (c : List Int) (m : Mp), vs = [.ref lc, .ref d] ∧ H lc = some (.lst (iv c)) ∧ H d = some (dI m) ∧ m.length ≤ 100 ∧ (∀ k ∈ keysM m, k.length = c.length) ∧ c.length ≤ 6 ∧ (∀ x ∈ c, Bt 8000 x) ∧ (∀ x ∈ valsM m, Bt 8000 x) ∧
  ∀ (e : Addr) (H' : Hp), Same H H' → H e = none → H' e = some (dI (comeF c m)) → Q (.ref e) H'
theorem ok_come (T : Txt2 mg) (C_put_at : Cal P w K mg base "put_at" ["load", "rank"] 2 spPutAt) (C_gathered : Cal P w K mg base "gathered" ["rows"] 1 spGathered) (F : FunAt K mg "come" ["chances", "weights"] s_come) : Cal P w K mg base "come" ["chances", "weights"] 3 spCome := by
  have S := sc_come
  refine F.cal sc_come (fun vs H Q E h => ?_) (fun f cdv A outer s H vs Q E hr h => ?_)
  · obtain ⟨lc, d, c, m, rfl, _⟩ := h; rfl
  obtain ⟨lc, d, c, m, rfl, hc, hd, hm, hk, hcl, hcb, hmb, k⟩ := h
  refine ⟨_, (@pss_one _ _ _ (@ps_ret _ _ _ _ (@cc _ _ _ _ _ _ _ _ _ _ (by exact C_gathered) (by exact (hr.mono (by decide))) (@pa_consN _ _ _ _ _ (@pe_thaw _ _ _ (@pe_comp2 _ _ _ _ _ _ _ _ _ _ _ _ _ _ _ _ _ _ _ (by rfl) (by exact (fun _ _ h => h)) (by decide +kernel) (by rfl) (by decide +kernel) (by exact hfr_of rfl) (by exact Sees.frees ["load", "weight", "rank", "chance"] [("chances", 0)] (fr_cons ⟨rfl, rfl⟩ fr_nil)) (@pi_itemsT _ _ _ _ _ _ _ _ (pv 1) (by first|rfl|decide|exact .inl rfl|exact .inr rfl|(intros; rfl)) (by first|rfl|decide|exact .inl rfl|exact .inr rfl|(intros; rfl))) (fun _ _ _ _ _ => (@pg_tup0 _ _ _ _ _ (2) (by rfl) (@pgs_cons _ _ _ _ _ (@pg_name _ _ (0) _ (by exact (show (["load", "weight", "rank", "chance", "chances"] : List Str).Nodup by decide +kernel)) (by rfl) (by first | exact Or.inl rfl | exact Or.inr rfl) (by first|rfl|decide|exact .inl rfl|exact .inr rfl|(intros; rfl))) (@pgs_cons _ _ _ _ _ (@pg_name _ _ (1) _ (by exact (show (["load", "weight", "rank", "chance", "chances"] : List Str).Nodup by decide +kernel)) (by rfl) (by first | exact Or.inl rfl | exact Or.inr rfl) (by first|rfl|decide|exact .inl rfl|exact .inr rfl|(intros; rfl))) pgs_nil (by first|rfl|decide|exact .inl rfl|exact .inr rfl|(intros; rfl))) (by first|rfl|decide|exact .inl rfl|exact .inr rfl|(intros; rfl))) (by first|rfl|decide|exact .inl rfl|exact .inr rfl|(intros; rfl)) (by first|rfl|decide|exact .inl rfl|exact .inr rfl|(intros; rfl)))) (fun _ _ _ _ _ => pts_nil) (fun _ _ _ _ _ => (@pi_enumL _ _ _ _ _ _ _ _ (by rfl) (by exact T.z_enumerate) (@pa_consN _ _ _ _ _ (pv 4) pa_nil (by first|rfl|decide|exact .inl rfl|exact .inr rfl|(intros; rfl))) (by first|rfl|decide|exact .inl rfl|exact .inr rfl|(intros; rfl)))) (fun _ _ _ _ _ => (@pg_tup0 _ _ _ _ _ (2) (by rfl) (@pgs_cons _ _ _ _ _ (@pg_name _ _ (2) _ (by exact (show (["load", "weight", "rank", "chance", "chances"] : List Str).Nodup by decide +kernel)) (by rfl) (by first | exact Or.inl rfl | exact Or.inr rfl) (by first|rfl|decide|exact .inl rfl|exact .inr rfl|(intros; rfl))) (@pgs_cons _ _ _ _ _ (@pg_name _ _ (3) _ (by exact (show (["load", "weight", "rank", "chance", "chances"] : List Str).Nodup by decide +kernel)) (by rfl) (by first | exact Or.inl rfl | exact Or.inr rfl) (by first|rfl|decide|exact .inl rfl|exact .inr rfl|(intros; rfl))) pgs_nil (by first|rfl|decide|exact .inl rfl|exact .inr rfl|(intros; rfl))) (by first|rfl|decide|exact .inl rfl|exact .inr rfl|(intros; rfl))) (by first|rfl|decide|exact .inl rfl|exact .inr rfl|(intros; rfl)) (by first|rfl|decide|exact .inl rfl|exact .inr rfl|(intros; rfl)))) (fun _ _ _ _ _ => (@pts_one _ _ _ (@pt_cmpR _ _ _ _ _ _ _ _ op_gt (pv 3) pe_int (by exact (nomark _))))) (fun _ _ _ _ _ => (@pe_tup _ _ _ _ _ (@pa_consN _ _ _ _ _ (@cc _ _ _ _ _ _ _ _ _ _ (by exact C_put_at) (by exact (hr.mono (by decide))) (@pa_consN _ _ _ _ _ (pv 0) (@pa_consN _ _ _ _ _ (pv 2) pa_nil (by first|rfl|decide|exact .inl rfl|exact .inr rfl|(intros; rfl))) (by first|rfl|decide|exact .inl rfl|exact .inr rfl|(intros; rfl))) (by first|rfl|decide|exact .inl rfl|exact .inr rfl|(intros; rfl)) (by first|rfl|decide|exact .inl rfl|exact .inr rfl|(intros; rfl)) (by first|rfl|decide|exact .inl rfl|exact .inr rfl|(intros; rfl)) (by first|rfl|decide|exact .inl rfl|exact .inr rfl|(intros; rfl))) (@pa_consN _ _ _ _ _ (@pe_op _ _ _ _ _ _ _ _ op_mulB (pv 1) (pv 3)) pa_nil (by first|rfl|decide|exact .inl rfl|exact .inr rfl|(intros; rfl))) (by first|rfl|decide|exact .inl rfl|exact .inr rfl|(intros; rfl))))) (by first|rfl|decide|exact .inl rfl|exact .inr rfl|(intros; rfl)) (by first|rfl|decide|exact .inl rfl|exact .inr rfl|(intros; rfl)))) pa_nil (by first|rfl|decide|exact .inl rfl|exact .inr rfl|(intros; rfl))) (by first|rfl|decide|exact .inl rfl|exact .inr rfl|(intros; rfl)) (by first|rfl|decide|exact .inl rfl|exact .inr rfl|(intros; rfl)) (by first|rfl|decide|exact .inl rfl|exact .inr rfl|(intros; rfl)) (by first|rfl|decide|exact .inl rfl|exact .inr rfl|(intros; rfl))))), ?_⟩
  refine ⟨d, _, hd, ?_⟩
  refine ⟨_, rfl, d, _, rfl, .inl ⟨hd, fun o => ?_⟩⟩
  intro p hp
  have zz : ∀ {b : Addr} {u : HO}, H b = some u → b ≠ d → upd H d (.frz o (dI m)) b = some u := fun e n => by rw [upd_ne n]; exact e
  have hcd : lc ≠ d := ne_of hc hd (by intro z; cases z)
  have hpd : p ≠ d := fun z => by rw [z, upd_same] at hp; cases hp
  have hpn : H p = none := by rw [upd_ne hpd] at hp; exact hp
  have dk : dI m = .dT ((m.map fI).map kI) := (dI_kI m).symm
  have hlp : lc ≠ p := ne_of_none hc hpn
  refine loopW_Y (yields_itemsT (kws := m.map fI)) (fun i σ' H' => Same (upd H d (.frz o (dI m))) H' ∧ (∃ o1 o2 o3 o4, σ' = [o1, o2, o3, o4, some (.ref lc)]) ∧ ∃ ys, H' p = some (.lst ys) ∧ RowsI H' ys (rowsM (m.take i) (gainF c c.length))) ?_ ?_ ?_ ?_
  · exact ⟨same_new hp _, ⟨_, _, _, _, rfl⟩, [], upd_same, .nil⟩
  · rintro i σ' H' ⟨s', _⟩
    rw [← dk]
    exact s' _ _ upd_same
  · rintro i x σ' H1 H2 hi ⟨s1, ⟨o1, o2, o3, o4, rfl⟩, ys, hy, ry⟩ ⟨q, b, kw, rfl, hq, hb, rfl, hkw⟩ R hR
    rw [List.getElem?_map, Option.map_eq_some_iff] at hkw
    obtain ⟨e, he, rfl⟩ := hkw
    have em : e ∈ m := List.mem_of_getElem? he
    have s2 := same_new hq (.tup [.ref b, (fI e).2])
    refine ⟨q, _, rfl, upd_same, rfl, _, _, rfl, _, _, rfl, rfl, ?_⟩
    refine tT_ (iteT ⟨_, rfl, lc, _, rfl, (s1.trans s2) _ _ (zz hc hcd), ?_⟩)
    have hyq := s2 _ _ hy
    refine loopW_Y (yields_ELL (xs := iv c)) (fun j σ' H' => SmB p (upd H1 q (.tup [.ref b, (fI e).2])) H' ∧ (∃ o3 o4, σ' = [some (.ref b), some (.int e.2), o3, o4, some (.ref lc)]) ∧ ∃ zs, H' p = some (.lst zs) ∧ RowsI H' zs (rowsM (m.take i) (gainF c c.length) ++ (gainF c j e.1).map fun q => (q.1, e.2 * q.2))) ?_ ?_ ?_ ?_
    · refine ⟨.refl _ _, ⟨_, _, rfl⟩, ys, hyq, ?_⟩
      rw [show gainF c 0 e.1 = [] from rfl, List.map_nil, List.append_nil]
      exact Paired.mapP ry fun _ _ z => z.imp fun b xs e => s2 _ _ e
    · rintro j σ' H' ⟨s3, _⟩
      exact s3 _ _ hlp ((s1.trans s2) _ _ (zz hc hcd))
    · rintro j x σ' H3 H4 hj ⟨s3, ⟨o3, o4, rfl⟩, zs, hzs, rz⟩ ⟨t, y, rfl, ht, rfl, hy'⟩ R2 hR2
      have hj' : j < c.length := by simpa using hj
      have ey : y = .int c[j] := by
        rw [List.getElem?_map, List.getElem?_eq_getElem hj'] at hy'
        exact (Option.some.inj hy').symm
      subst ey
      have s4 := same_new ht (.tup [.int (j : Int), .int c[j]])
      refine ⟨t, _, rfl, upd_same, rfl, _, _, rfl, _, _, rfl, rfl, ?_⟩
      have hz4 := s4 _ _ hzs
      have rz4 : RowsI (upd H3 t (.tup [.int (j : Int), .int c[j]])) zs _ := Paired.mapP rz fun _ _ z => z.imp fun b xs e => s4 _ _ e
      have s34 := s3.trans (.of s4)
      refine ⟨_, rfl, _, _, rfl, rfl, _, rfl, ?_⟩
      have ec : c.getD j 0 = c[j] := by simp [hj']
      refine ite2 (fun c0 => ?_) (fun c0 => ?_)
      · have c0' : 0 < c[j] := of_decide_eq_true c0
        have hb4 := s34.tup hyq _ _ (s2 _ _ hb)
        have ek : e.1.length = c.length := hk _ (List.mem_map_of_mem em)
        have jl : j < e.1.length := by omega
        have hx : e.1[j]? = some (e.1.getD j 0) := by simp [jl]
        refine ⟨_, rfl, _, rfl, b, e.1, j, _, rfl, hb4, by omega, hx, fun b' ms H5 pm dn hb' s5 => ?_⟩
        have em2 := fall_eq pm dn
        subst em2
        refine ⟨_, rfl, _, rfl, _, _, rfl, rfl, ⟨(hmb e.2 (List.mem_map_of_mem em)).mono (by decide), (hcb c[j] (List.getElem_mem hj')).mono (by decide)⟩, lz 2 rfl, fun t' ht' => ?_⟩
        have s6 := same_new ht' (.tup [.ref b', .int (e.2 * c[j])])
        have hp6 := (s5.trans s6) _ _ hz4
        refine ⟨zs, ?_, hp6, hR2 _ _ ⟨(s34.trans (.of (s5.trans s6))).upd _, ⟨_, _, rfl⟩, _, upd_same, ?_⟩⟩
        · have h1 := Paired.length rz
          have h2 := rows_len (m.take i) (gainF c c.length) c.length fun l => gain_len c c.length l
          have h3 := gain_len c j e.1
          rw [List.length_append, List.length_map] at h1
          rw [List.length_take] at h2
          have h4 : min i m.length * c.length ≤ 100 * 6 := Nat.mul_le_mul (by omega) hcl
          rw [h1, sizeLine_eq]; omega
        · rw [gain_succ, ec, if_pos c0', List.map_append, ← List.append_assoc]
          exact paired_snoc (Paired.mapP rz4 fun _ _ z => z.imp fun b xs e => tupL hp6 _ _ ((s5.trans s6) _ _ e)) ⟨t', b', rfl, tupL hp6 _ _ upd_same, tupL hp6 _ _ (s6 _ _ hb')⟩
      · have c0' : ¬ 0 < c[j] := by simpa using c0
        refine hR2 _ _ ⟨s34, ⟨_, _, rfl⟩, zs, hz4, ?_⟩
        rw [gain_succ, ec, if_neg c0', List.append_nil]
        exact rz4
    · rintro σ' H3 ⟨s3, ⟨o3, o4, rfl⟩, zs, hzs, rz⟩
      refine hR _ _ ⟨fun b u e => s3 b u (fun z => by rw [z] at e; rw [show upd H d (.frz o (dI m)) p = none from hp] at e; cases e) ((s1.trans s2) _ _ e), ⟨_, _, _, _, rfl⟩, zs, hzs, ?_⟩
      rw [rows_take he]
      have : (iv c).length = c.length := by simp
      rw [this] at rz
      exact rz
  · rintro σ' H1 ⟨s1, ⟨o1, o2, o3, o4, rfl⟩, ys, hy, ry⟩
    have hml : (m.map fI).length = m.length := by simp
    rw [hml, List.take_length] at ry
    refine ⟨o, _, s1 _ _ upd_same, ?_⟩
    have hpd1 : upd H1 d (dI m) p = some (.lst ys) := by rw [upd_ne hpd]; exact hy
    have sH : Same H (upd H1 d (dI m)) := fun b u e => by
      by_cases z : b = d
      · rw [z, upd_same]; rw [z, hd] at e; exact e
      · rw [upd_ne z]; exact s1 _ _ (zz e z)
    refine ⟨p, ys, rowsM m (gainF c c.length), rfl, hpd1, Paired.mapP ry fun _ _ z => z.imp fun b xs e => ?_, ?_, fun e H' s' he hH' => k e H' (sH.trans s') (none_of sH he) hH'⟩
    · rw [upd_ne (fun z => by rw [z, s1 _ _ upd_same] at e; cases e)]; exact e
    · have h2 := rows_len m (gainF c c.length) c.length fun l => gain_len c c.length l
      have h4 : m.length * c.length ≤ 100 * 6 := Nat.mul_le_mul hm hcl
      omega
end
end My

set_option Elab.async false
set_option linter.all false
set_option maxRecDepth 100000
set_option maxHeartbeats 4000000
namespace My
open PySem L2 MA Srt
def itF (c : List Int) : Nat → Mp → Mp
  | 0, m => m
  | k + 1, m => comeF c (itF c k m)
theorem putL_len (l : List Int) (r : Nat) : (putL l r).length = l.length := by unfold putL; rw [fall_length, List.length_set]
theorem come_keys {c : List Int} {m : Mp} {n : Nat} (h : ∀ k ∈ keysM m, k.length = n) : ∀ k ∈ keysM (comeF c m), k.length = n := by
  intro k hk
  unfold comeF at hk
  rw [gath_keys, keys_rows] at hk
  obtain ⟨l, hl, hk⟩ := hk
  have : ∀ n', ∀ k ∈ keysM (gainF c n' l), k.length = l.length := by
    intro n'
    induction n' with
    | zero => intro k hk; simp [gainF, keysM] at hk
    | succ n' ih =>
      intro k hk
      rw [gain_succ] at hk
      simp only [keysM, List.map_append, List.mem_append] at hk
      rcases hk with hk | hk
      · exact ih k hk
      · split at hk
        · simp at hk; subst hk; exact putL_len _ _
        · simp at hk
  rw [this _ k hk, h l hl]
theorem it_keys {c : List Int} {m : Mp} {n : Nat} (h : ∀ k ∈ keysM m, k.length = n) : ∀ j, ∀ k ∈ keysM (itF c j m), k.length = n
  | 0 => h
  | j + 1 => come_keys (it_keys h j)
theorem it_nodup {c : List Int} {m : Mp} (h : (keysM m).Nodup) : ∀ j, (keysM (itF c j m)).Nodup
  | 0 => h
  | _ + 1 => gath_nodup _
def botF (qs : List Rat) : Int := lqF qs 1
def afterF (qs : List Rat) (rs : Spd) (k : Nat) : Spd := sprF (itF (tpF (botF qs) qs) k (wtF (botF (rs.map (·.2))) rs)) (botF (rs.map (·.2)) * botF qs ^ k)
/-- what a rule and a spread must be for balls to come -/
structure Fit (qs : List Rat) (rs : Spd) (k : Nat) : Prop where
  ne : rs ≠ []
  nd : (rs.map (·.1)).Nodup
  ln : ∀ r ∈ rs, r.1.length = qs.length
  q6 : qs.length ≤ 6
  sr : ∀ r ∈ rs, SB 50 r.2
  sq : ∀ q ∈ qs, SB 50 q
  few : rs.length ≤ 24
  bB : botF (rs.map (·.2)) < 1000000
  bb : botF qs < 1000000
  k1 : k ≤ 100
  cap : ∀ j ≤ k, (itF (tpF (botF qs) qs) j (wtF (botF (rs.map (·.2))) rs)).length ≤ 60
  bits : ∀ j ≤ k, ∀ x ∈ valsM (itF (tpF (botF qs) qs) j (wtF (botF (rs.map (·.2))) rs)), Bt 8000 x
theorem prod_rep (B b : Int) (k : Nat) : ([B] ++ List.replicate k b).prod = B * b ^ k := by
  rw [List.prod_append, List.prod_cons, List.prod_nil, Int.mul_one]
  congr 1
  induction k with
  | zero => simp
  | succ k ih => rw [List.replicate_succ, List.prod_cons, ih, Int.pow_succ, Int.mul_comm]
section
variable {P : Program} {w : World} {K : PySem.W.Frag} {mg : Str → Option Value} {base : Heap}
def spAskB : Sp := fun vs H Q _ => ∃ (a b : Addr) (xs ys : List V), vs = [.ref a, .ref b] ∧ H a = some (.tup xs) ∧ H b = some (.tup ys) ∧ xs.length = ys.length ∧ Q .non H
theorem ok_askB (T : Txt2 mg) (F : FunAt K mg "ask_boxes" ["ranks", "load"] s_ask_boxes) : Cal P w K mg base "ask_boxes" ["ranks", "load"] 1 spAskB := by
  have S := sc_ask_boxes
  refine F.cal sc_ask_boxes (fun vs H Q E h => ?_) (fun f cdv A outer s H vs Q E hr h => ?_)
  · obtain ⟨a, b, xs, ys, rfl, _⟩ := h; rfl
  obtain ⟨a, b, xs, ys, rfl, ha, hb, hl, k⟩ := h
  refine ⟨_, (@pss_one _ _ _ (@ps_if _ _ _ _ _ _ _ _ (@pt_cmpR _ _ _ _ _ _ _ _ op_ne (@pe_callB _ _ _ _ _ _ _ _ _ call_len_seq (by rfl) (by exact T.z_len) (by exact bt_len) (@pa_consN _ _ _ _ _ (pv 0) pa_nil (by first|rfl|decide|exact .inl rfl|exact .inr rfl|(intros; rfl))) (by first|rfl|decide|exact .inl rfl|exact .inr rfl|(intros; rfl)) (by first|rfl|decide|exact .inl rfl|exact .inr rfl|(intros; rfl)) (by first|rfl|decide|exact .inl rfl|exact .inr rfl|(intros; rfl)) (by first|rfl|decide|exact .inl rfl|exact .inr rfl|(intros; rfl))) (@pe_callB _ _ _ _ _ _ _ _ _ call_len_seq (by rfl) (by exact T.z_len) (by exact bt_len) (@pa_consN _ _ _ _ _ (pv 1) pa_nil (by first|rfl|decide|exact .inl rfl|exact .inr rfl|(intros; rfl))) (by first|rfl|decide|exact .inl rfl|exact .inr rfl|(intros; rfl)) (by first|rfl|decide|exact .inl rfl|exact .inr rfl|(intros; rfl)) (by first|rfl|decide|exact .inl rfl|exact .inr rfl|(intros; rfl)) (by first|rfl|decide|exact .inl rfl|exact .inr rfl|(intros; rfl))) (by exact (nomark _))) (@pss_one _ _ _ ps_never) pss_nil)), ?_⟩
  refine ⟨_, rfl, a, _, rfl, .inr (SqT.of ha), _, rfl, b, _, rfl, .inr (SqT.of hb), rfl, _, rfl, ?_⟩
  exact ite2 (fun c => absurd c (by simp [hl])) fun _ => k
def spAfter : Sp := fun vs H Q _ => ∃ (a l : Addr) (xs : List V) (qs : List Rat) (rs : Spd) (k : Nat), vs = [.ref a, .ref l, .int (k : Int)] ∧ H a = some (.tup xs) ∧ Shs H xs qs ∧ SpAt H l rs ∧ Fit qs rs k ∧
  ∀ (l' : Addr) (H' : Hp), Same H H' → H l' = none → SpAt H' l' (afterF qs rs k) → Q (.ref l') H'
theorem ok_after (T : Txt2 mg) {tk : Tok} (hml : mg "MOST_LOADS" = some (.int 60 tk)) (C_ask_boxes : Cal P w K mg base "ask_boxes" ["ranks", "load"] 1 spAskB) (C_weighed : Cal P w K mg base "weighed" ["some"] 2 spWeighQ) (C_weights_of : Cal P w K mg base "weights_of" ["spread"] 3 spWeightsOf)
    (C_come : Cal P w K mg base "come" ["chances", "weights"] 3 spCome) (C_spread_of : Cal P w K mg base "spread_of" ["weights", "bottoms"] 3 spSpreadOf) (F : FunAt K mg "after" ["rule", "spread", "many"] s_after) : Cal P w K mg base "after" ["rule", "spread", "many"] 4 spAfter := by
  have S := sc_after
  refine F.cal sc_after (fun vs H Q E h => ?_) (fun f cdv A outer s H vs Q E hr h => ?_)
  · obtain ⟨a, l, xs, qs, rs, k, rfl, _⟩ := h; rfl
  obtain ⟨a, l, xs, qs, rs, k, rfl, ha, shs, spl, fit, kk⟩ := h
  obtain ⟨ys, hl, rws⟩ := id spl
  have xl := shs.length
  have yl := Paired.length rws
  refine ⟨_, (@pss_cons _ _ _ _ _ (@ps_expr _ _ _ _ (@cc _ _ _ _ _ _ _ _ _ _ (by exact C_ask_boxes) (by exact (hr.mono (by decide))) (@pa_consN _ _ _ _ _ (pv 0) (@pa_consN _ _ _ _ _ (@pe_ix _ _ _ _ _ _ _ ix_tup (@pe_ix _ _ _ _ _ _ _ ix_list (pv 1) pe_int (by exact (fun _ _ => rfl))) pe_int (by exact (fun _ _ => rfl))) pa_nil (by first|rfl|decide|exact .inl rfl|exact .inr rfl|(intros; rfl))) (by first|rfl|decide|exact .inl rfl|exact .inr rfl|(intros; rfl))) (by first|rfl|decide|exact .inl rfl|exact .inr rfl|(intros; rfl)) (by first|rfl|decide|exact .inl rfl|exact .inr rfl|(intros; rfl)) (by first|rfl|decide|exact .inl rfl|exact .inr rfl|(intros; rfl)) (by first|rfl|decide|exact .inl rfl|exact .inr rfl|(intros; rfl))) (by first|rfl|decide|exact .inl rfl|exact .inr rfl|(intros; rfl))) (@pss_cons _ _ _ _ _ (@ps_asg _ _ _ _ _ _ (@cc _ _ _ _ _ _ _ _ _ _ (by exact C_weighed) (by exact (hr.mono (by decide))) (@pa_consN _ _ _ _ _ (@pe_callTy _ _ _ _ _ _ _ _ _ call_list_of (by rfl) (by exact T.z_list) (by exact bt_list) (@pa_consN _ _ _ _ _ (pv 0) pa_nil (by first|rfl|decide|exact .inl rfl|exact .inr rfl|(intros; rfl))) (by first|rfl|decide|exact .inl rfl|exact .inr rfl|(intros; rfl)) (by first|rfl|decide|exact .inl rfl|exact .inr rfl|(intros; rfl)) (by first|rfl|decide|exact .inl rfl|exact .inr rfl|(intros; rfl)) (by first|rfl|decide|exact .inl rfl|exact .inr rfl|(intros; rfl))) pa_nil (by first|rfl|decide|exact .inl rfl|exact .inr rfl|(intros; rfl))) (by first|rfl|decide|exact .inl rfl|exact .inr rfl|(intros; rfl)) (by first|rfl|decide|exact .inl rfl|exact .inr rfl|(intros; rfl)) (by first|rfl|decide|exact .inl rfl|exact .inr rfl|(intros; rfl)) (by first|rfl|decide|exact .inl rfl|exact .inr rfl|(intros; rfl))) (@pg_tup _ _ _ _ _ _ (by rfl) (@pgs_cons _ _ _ _ _ (@pg_name _ _ (4) _ (by exact S.nd) (by rfl) (by first | exact Or.inl rfl | exact Or.inr rfl) (by first|rfl|decide|exact .inl rfl|exact .inr rfl|(intros; rfl))) (@pgs_cons _ _ _ _ _ (@pg_name _ _ (5) _ (by exact S.nd) (by rfl) (by first | exact Or.inl rfl | exact Or.inr rfl) (by first|rfl|decide|exact .inl rfl|exact .inr rfl|(intros; rfl))) pgs_nil (by first|rfl|decide|exact .inl rfl|exact .inr rfl|(intros; rfl))) (by first|rfl|decide|exact .inl rfl|exact .inr rfl|(intros; rfl))) (by first|rfl|decide|exact .inl rfl|exact .inr rfl|(intros; rfl)) (by first|rfl|decide|exact .inl rfl|exact .inr rfl|(intros; rfl))) (by first|rfl|decide|exact .inl rfl|exact .inr rfl|(intros; rfl)) (by first|rfl|decide|exact .inl rfl|exact .inr rfl|(intros; rfl)) (by first|rfl|decide|exact .inl rfl|exact .inr rfl|(intros; rfl))) (@pss_cons _ _ _ _ _ (@ps_asg _ _ _ _ _ _ (@cc _ _ _ _ _ _ _ _ _ _ (by exact C_weights_of) (by exact (hr.mono (by decide))) (@pa_consN _ _ _ _ _ (pv 1) pa_nil (by first|rfl|decide|exact .inl rfl|exact .inr rfl|(intros; rfl))) (by first|rfl|decide|exact .inl rfl|exact .inr rfl|(intros; rfl)) (by first|rfl|decide|exact .inl rfl|exact .inr rfl|(intros; rfl)) (by first|rfl|decide|exact .inl rfl|exact .inr rfl|(intros; rfl)) (by first|rfl|decide|exact .inl rfl|exact .inr rfl|(intros; rfl))) (@pg_tup _ _ _ _ _ _ (by rfl) (@pgs_cons _ _ _ _ _ (@pg_name _ _ (6) _ (by exact S.nd) (by rfl) (by first | exact Or.inl rfl | exact Or.inr rfl) (by first|rfl|decide|exact .inl rfl|exact .inr rfl|(intros; rfl))) (@pgs_cons _ _ _ _ _ (@pg_name _ _ (7) _ (by exact S.nd) (by rfl) (by first | exact Or.inl rfl | exact Or.inr rfl) (by first|rfl|decide|exact .inl rfl|exact .inr rfl|(intros; rfl))) pgs_nil (by first|rfl|decide|exact .inl rfl|exact .inr rfl|(intros; rfl))) (by first|rfl|decide|exact .inl rfl|exact .inr rfl|(intros; rfl))) (by first|rfl|decide|exact .inl rfl|exact .inr rfl|(intros; rfl)) (by first|rfl|decide|exact .inl rfl|exact .inr rfl|(intros; rfl))) (by first|rfl|decide|exact .inl rfl|exact .inr rfl|(intros; rfl)) (by first|rfl|decide|exact .inl rfl|exact .inr rfl|(intros; rfl)) (by first|rfl|decide|exact .inl rfl|exact .inr rfl|(intros; rfl))) (@pss_cons _ _ _ _ _ (@ps_for _ _ _ _ _ _ _ _ (by exact PassesOwn.never) (by rfl) (@pi_range1 _ _ _ _ _ _ (by rfl) (by exact T.z_range) (@pa_consN _ _ _ _ _ (pv 2) pa_nil (by first|rfl|decide|exact .inl rfl|exact .inr rfl|(intros; rfl))) (by first|rfl|decide|exact .inl rfl|exact .inr rfl|(intros; rfl))) (@pg_name _ _ (3) _ (by exact S.nd) (by rfl) (by first | exact Or.inl rfl | exact Or.inr rfl) (by first|rfl|decide|exact .inl rfl|exact .inr rfl|(intros; rfl))) (@pss_cons _ _ _ _ _ (@ps_set _ _ (6) _ _ _ _ (by exact S.nd) (by rfl) (by first | exact Or.inl rfl | exact Or.inr rfl) (@cc _ _ _ _ _ _ _ _ _ _ (by exact C_come) (by exact (hr.mono (by decide))) (@pa_consN _ _ _ _ _ (pv 4) (@pa_consN _ _ _ _ _ (pv 6) pa_nil (by first|rfl|decide|exact .inl rfl|exact .inr rfl|(intros; rfl))) (by first|rfl|decide|exact .inl rfl|exact .inr rfl|(intros; rfl))) (by first|rfl|decide|exact .inl rfl|exact .inr rfl|(intros; rfl)) (by first|rfl|decide|exact .inl rfl|exact .inr rfl|(intros; rfl)) (by first|rfl|decide|exact .inl rfl|exact .inr rfl|(intros; rfl)) (by first|rfl|decide|exact .inl rfl|exact .inr rfl|(intros; rfl))) (by first|rfl|decide|exact .inl rfl|exact .inr rfl|(intros; rfl)) (by first|rfl|decide|exact .inl rfl|exact .inr rfl|(intros; rfl))) (@pss_one _ _ _ (@ps_if _ _ _ _ _ _ _ _ (@pt_cmpR _ _ _ _ _ _ _ _ op_gt (@pe_callB _ _ _ _ _ _ _ _ _ call_lenT (by rfl) (by exact T.z_len) (by exact bt_len) (@pa_consN _ _ _ _ _ (pv 6) pa_nil (by first|rfl|decide|exact .inl rfl|exact .inr rfl|(intros; rfl))) (by first|rfl|decide|exact .inl rfl|exact .inr rfl|(intros; rfl)) (by first|rfl|decide|exact .inl rfl|exact .inr rfl|(intros; rfl)) (by first|rfl|decide|exact .inl rfl|exact .inr rfl|(intros; rfl)) (by first|rfl|decide|exact .inl rfl|exact .inr rfl|(intros; rfl))) (@pe_glob _ _ (.int 60) _ _ (by rfl) (by exact hml) (by exact ⟨_, rfl⟩) (by first|rfl|decide|exact .inl rfl|exact .inr rfl|(intros; rfl))) (by exact (nomark _))) (@pss_one _ _ _ ps_never) pss_nil))) (by first|rfl|decide|exact .inl rfl|exact .inr rfl|(intros; rfl))) (@pss_one _ _ _ (@ps_ret _ _ _ _ (@cc _ _ _ _ _ _ _ _ _ _ (by exact C_spread_of) (by exact (hr.mono (by decide))) (@pa_consN _ _ _ _ _ (pv 6) (@pa_consN _ _ _ _ _ (@pe_op _ _ _ _ _ _ _ _ op_cat (@pe_lst _ _ _ _ (@pa_consN _ _ _ _ _ (pv 7) pa_nil (by first|rfl|decide|exact .inl rfl|exact .inr rfl|(intros; rfl)))) (@pe_op _ _ _ _ _ _ _ _ op_rep (@pe_lst _ _ _ _ (@pa_consN _ _ _ _ _ (pv 5) pa_nil (by first|rfl|decide|exact .inl rfl|exact .inr rfl|(intros; rfl)))) (pv 2))) pa_nil (by first|rfl|decide|exact .inl rfl|exact .inr rfl|(intros; rfl))) (by first|rfl|decide|exact .inl rfl|exact .inr rfl|(intros; rfl))) (by first|rfl|decide|exact .inl rfl|exact .inr rfl|(intros; rfl)) (by first|rfl|decide|exact .inl rfl|exact .inr rfl|(intros; rfl)) (by first|rfl|decide|exact .inl rfl|exact .inr rfl|(intros; rfl)) (by first|rfl|decide|exact .inl rfl|exact .inr rfl|(intros; rfl))))))))), ?_⟩
  obtain ⟨r0, rs', ers⟩ : ∃ r0 rs', rs = r0 :: rs' := by
    cases rs with
    | nil => exact absurd rfl fit.ne
    | cons r0 rs' => exact ⟨r0, rs', rfl⟩
  have hy0 : ∃ y0, ys[0]? = some y0 := by
    have : 0 < ys.length := by rw [yl, ers]; simp
    exact ⟨_, List.getElem?_eq_getElem this⟩
  obtain ⟨y0, hy0⟩ := hy0
  obtain ⟨r, hr0, a0, b0, v0, rfl, ha0, hb0, hv0⟩ := paired_get rws hy0
  have rm : r ∈ rs := List.mem_of_getElem? hr0
  refine ⟨_, rfl, _, rfl, l, _, _, _, rfl, rfl, SqL.of hl, atI_nat hy0, a0, _, _, _, rfl, rfl, SqT.of ha0, rfl, a, b0, _, _, rfl, ha, hb0, ?_, ?_⟩
  · rw [List.length_map, xl, fit.ln r rm]
  refine ⟨_, rfl, a, _, rfl, .inr (SqT.of ha), fun l1 hl1 => ?_⟩
  have s1 := same_new hl1 (.lst xs)
  refine ⟨l1, xs, qs, rfl, upd_same, shs.same s1, fit.sq, by have := fit.q6; omega, fun t c H2 s2 ht hc => ?_⟩
  refine ⟨t, _, rfl, SqT.of ht, rfl, _, _, rfl, _, _, rfl, rfl, ?_⟩
  have s12 := s1.trans s2
  refine ⟨_, rfl, l, rs, rfl, spl.same s12, fit.nd, fit.sr, fit.few, fun t2 d H3 s3 ht2 hdn hd => ?_⟩
  refine ⟨t2, _, rfl, SqT.of ht2, rfl, _, _, rfl, _, _, rfl, rfl, ?_⟩
  have s13 := s12.trans s3
  change H3 d = some (dI (wtF (botF (rs.map (·.2))) rs)) at hd
  change H2 c = some (.lst (iv (tpF (botF qs) qs))) at hc
  have k1 := fit.k1
  refine ⟨_, rfl, (k : Int), rfl, by omega, by omega, for_range (n := (k : Int).toNat) (fun i σ H' => Same H3 H' ∧ ∃ d' o, H' d' = some (dI (itF (tpF (botF qs) qs) i (wtF (botF (rs.map (·.2))) rs))) ∧ σ = [some (.ref a), some (.ref l), some (.int (k : Int)), o, some (.ref c), some (.int (botF qs)), some (.ref d'), some (.int (botF (rs.map (·.2))))]) ?_ ?_ ?_⟩
  · exact ⟨Same.refl _, d, _, hd, rfl⟩
  · rintro i σ H4 hi ⟨s4, d', o, hd', rfl⟩
    have hi' : i < k := by omega
    have kl0 : ∀ kx ∈ keysM (wtF (botF (rs.map (·.2))) rs), kx.length = qs.length := by
      intro kx hk
      rw [wt_keys] at hk
      obtain ⟨r, hr', rfl⟩ := List.mem_map.mp hk
      exact fit.ln r hr'
    have cl : (tpF (botF qs) qs).length = qs.length := by simp [tpF]
    refine ⟨_, rfl, _, rfl, c, d', _, _, rfl, (s3.trans s4) _ _ hc, hd', by have := fit.cap i (by omega); omega, fun kx hk => by rw [it_keys kl0 i kx hk, cl], by rw [cl]; exact fit.q6, fun x hx => ?_, fit.bits i (by omega), fun e H5 s5 he hH5 => ?_⟩
    · obtain ⟨q, hq, rfl⟩ := List.mem_map.mp hx
      have b1 := (lq_all fit.sq (by have := fit.q6; omega) qs.length).2
      rw [List.take_length] at b1
      exact ((fit.sq q hq).1.mul (b1.ediv (by have := q.den_pos; omega))).mono (by decide)
    refine ⟨_, rfl, e, _, rfl, .inl hH5, _, _, rfl, rfl, _, rfl, ?_⟩
    refine ite2 (fun c => ?_) (fun _ => ⟨s4.trans s5, e, _, hH5, rfl⟩)
    exfalso
    have := fit.cap (i + 1) (by omega)
    have c' := of_decide_eq_true c
    rw [List.length_map] at c'
    have : ((comeF (tpF (botF qs) qs) (itF (tpF (botF qs) qs) i (wtF (botF (rs.map (·.2))) rs))).length : Int) ≤ 60 := by exact_mod_cast this
    omega
  · rintro σ H4 ⟨s4, d', o, hd', rfl⟩
    rw [show (k : Int).toNat = k by omega] at hd'
    refine ⟨_, rfl, _, rfl, lz 1 rfl, fun l2 hl2 => ?_⟩
    have s5 := same_new hl2 (.lst [.int (botF (rs.map (·.2)))])
    refine ⟨_, rfl, lz 1 rfl, fun l3 hl3 => ?_⟩
    have s6 := same_new hl3 (.lst [.int (botF qs)])
    refine ⟨_, rfl, l3, (k : Int), _, rfl, rfl, upd_same, by omega, by omega, ?_, fun l4 hl4 => ?_⟩
    · show 1 * (k : Int).toNat ≤ sizeLine
      rw [sizeLine_eq]; omega
    have s7 := same_new hl4 (.lst (List.replicate (k : Int).toNat [V.int (botF qs)]).flatten)
    refine ⟨l2, l4, _, _, rfl, rfl, (s6.trans s7) _ _ upd_same, upd_same, ?_, fun l5 hl5 => ?_⟩
    · rw [rep1]; simp; rw [sizeLine_eq]; omega
    have s8 := same_new hl5 (.lst ([V.int (botF (rs.map (·.2)))] ++ (List.replicate (k : Int).toNat [V.int (botF qs)]).flatten))
    have s58 := s5.trans (s6.trans (s7.trans s8))
    have hB := (lq_fold (rs.map (·.2)) 1 (by decide)).1
    have hb := (lq_fold qs 1 (by decide)).1
    refine ⟨d', l5, _, [botF (rs.map (·.2))] ++ List.replicate k (botF qs), rfl, s58 _ _ hd', ?_, it_nodup (by rw [wt_keys]; exact fit.nd) k, by have := fit.cap k (Nat.le_refl _); omega, fun b hb' => ?_, fun l' H9 s9 hn sp => ?_⟩
    · rw [upd_same, rep1, show (k : Int).toNat = k by omega]; simp [iv]
    · rcases List.mem_append.mp hb' with h | h
      · rw [List.mem_singleton.mp h]; exact ⟨hB, fit.bB⟩
      · rw [(List.mem_replicate.mp h).2]; exact ⟨hb, fit.bb⟩
    · rw [prod_rep] at sp
      have sZ := s13.trans (s4.trans s58)
      exact kk l' H9 (sZ.trans s9) (none_of sZ hn) sp
def spPut : Sp := fun vs H Q _ => ∃ (a l : Addr) (xs : List V) (qs : List Rat) (rs : Spd), vs = [.ref a, .ref l] ∧ H a = some (.tup xs) ∧ Shs H xs qs ∧ SpAt H l rs ∧ Fit qs rs 1 ∧
  ∀ (l' : Addr) (H' : Hp), Same H H' → H l' = none → SpAt H' l' (afterF qs rs 1) → Q (.ref l') H'
theorem ok_put (C_after : Cal P w K mg base "after" ["rule", "spread", "many"] 4 spAfter) (F : FunAt K mg "put" ["rule", "spread"] s_put) : Cal P w K mg base "put" ["rule", "spread"] 5 spPut := by
  have S := sc_put
  refine F.cal sc_put (fun vs H Q E h => ?_) (fun f cdv A outer s H vs Q E hr h => ?_)
  · obtain ⟨a, l, xs, qs, rs, rfl, _⟩ := h; rfl
  obtain ⟨a, l, xs, qs, rs, rfl, ha, shs, sp, fit, k⟩ := h
  refine ⟨_, (@pss_one _ _ _ (@ps_ret _ _ _ _ (@cc _ _ _ _ _ _ _ _ _ _ (by exact C_after) (by exact (hr.mono (by decide))) (@pa_consN _ _ _ _ _ (pv 0) (@pa_consN _ _ _ _ _ (pv 1) (@pa_consN _ _ _ _ _ pe_int pa_nil (by first|rfl|decide|exact .inl rfl|exact .inr rfl|(intros; rfl))) (by first|rfl|decide|exact .inl rfl|exact .inr rfl|(intros; rfl))) (by first|rfl|decide|exact .inl rfl|exact .inr rfl|(intros; rfl))) (by first|rfl|decide|exact .inl rfl|exact .inr rfl|(intros; rfl)) (by first|rfl|decide|exact .inl rfl|exact .inr rfl|(intros; rfl)) (by first|rfl|decide|exact .inl rfl|exact .inr rfl|(intros; rfl)) (by first|rfl|decide|exact .inl rfl|exact .inr rfl|(intros; rfl))))), ?_⟩
  exact ⟨_, rfl, _, rfl, a, l, xs, qs, rs, 1, rfl, ha, shs, sp, fit, k⟩
def spAlone : Sp := fun vs H Q _ => ∃ (b : Addr) (ns : List Int), vs = [.ref b] ∧ H b = some (.tup (iv ns)) ∧ ∀ (l : Addr) (H' : Hp), Same H H' → H l = none → SpAt H' l [(ns, 1)] → Q (.ref l) H'
theorem ok_alone (F : FunAt K mg "alone" ["load"] s_alone) : Cal P w K mg base "alone" ["load"] 1 spAlone := by
  have S := sc_alone
  refine F.cal sc_alone (fun vs H Q E h => ?_) (fun f cdv A outer s H vs Q E hr h => ?_)
  · obtain ⟨b, ns, rfl, _⟩ := h; rfl
  obtain ⟨b, ns, rfl, hb, k⟩ := h
  refine ⟨_, (@pss_one _ _ _ (@ps_ret _ _ _ _ (@pe_lst _ _ _ _ (@pa_consN _ _ _ _ _ (@pe_tup _ _ _ _ _ (@pa_consN _ _ _ _ _ (pv 0) (@pa_consN _ _ _ _ _ (@pe_tup _ _ _ _ _ (@pa_consN _ _ _ _ _ pe_int (@pa_consN _ _ _ _ _ pe_int pa_nil (by first|rfl|decide|exact .inl rfl|exact .inr rfl|(intros; rfl))) (by first|rfl|decide|exact .inl rfl|exact .inr rfl|(intros; rfl)))) pa_nil (by first|rfl|decide|exact .inl rfl|exact .inr rfl|(intros; rfl))) (by first|rfl|decide|exact .inl rfl|exact .inr rfl|(intros; rfl)))) pa_nil (by first|rfl|decide|exact .inl rfl|exact .inr rfl|(intros; rfl)))))), ?_⟩
  refine ⟨_, rfl, lz 2 rfl, fun t ht => ?_⟩
  have s1 := same_new ht (.tup [.int 1, .int 1])
  refine ⟨lz 2 rfl, fun u hu => ?_⟩
  have s2 := same_new hu (.tup [.ref b, .ref t])
  refine ⟨lz 1 rfl, fun l hl => ?_⟩
  have s3 := same_new hl (.lst [.ref u])
  have s := s1.trans (s2.trans s3)
  exact k l _ s (none_of (s1.trans s2) hl) ⟨[.ref u], upd_same, .cons ⟨u, b, .ref t, rfl, s3 _ _ upd_same, s _ _ hb, t, rfl, (s2.trans s3) _ _ upd_same⟩ .nil⟩
end
end My

set_option Elab.async false
set_option linter.all false
set_option maxRecDepth 100000
set_option maxHeartbeats 4000000
namespace My
open PySem L2 MA Srt
/-- a load of n boxes with b balls -/
structure LdOk (ns : List Int) (n : Nat) (b : Int) : Prop where
  len : ns.length = n
  nn : ∀ x ∈ ns, 0 ≤ x
  dn : ns.Pairwise (· ≥ ·)
  sum : ns.sum = b
theorem sum_set1 {ns : List Int} {j : Nat} (h : j < ns.length) : (ns.set j (ns.getD j 0 + 1)).sum = ns.sum + 1 := by
  induction ns generalizing j with
  | nil => simp at h
  | cons a ns ih =>
    cases j with
    | zero => simp; omega
    | succ j =>
      have := ih (j := j) (by simpa using h)
      simp only [List.set_cons_succ, List.sum_cons, List.getD_cons_succ]
      rw [this]; omega
theorem nn_set1 {ns : List Int} {j : Nat} (h : ∀ x ∈ ns, 0 ≤ x) : ∀ x ∈ ns.set j (ns.getD j 0 + 1), 0 ≤ x := by
  intro x hx
  rcases List.mem_or_eq_of_mem_set hx with z | z
  · exact h x z
  · subst z
    rw [List.getD_eq_getElem?_getD]
    cases e : ns[j]? with
    | none => simp
    | some y => have := h y (List.mem_of_getElem? e); simp; omega
theorem iv_rep (x : Int) (k : Nat) : (List.replicate k [V.int x]).flatten = iv (List.replicate k x) := rep1 x k
section
variable {P : Program} {w : World} {K : PySem.W.Frag} {mg : Str → Option Value} {base : Heap}
def spLLoad : Sp := fun vs H Q _ => ∃ (p : Addr) (n : Nat) (b : Nat) (m : Nat), vs = [.ref p, .int (n : Int), .int (b : Int)] ∧ 1 ≤ n ∧ n ≤ 6 ∧ b ≤ 40 ∧ Pen H p m ∧ m < 60000 ∧ ∀ (a : Addr) (ns : List Int) (H' : Hp), H' a = some (.tup (iv ns)) → LdOk ns n b → Pen H' p (m + 42) → SameX p H H' → Q (.ref a) H'
theorem ok_lload (T : Txt2 mg) (C_l_draw : Cal P w K mg base "_law_draw" ["_law_pen_here", "_law_many"] 1 spDraw) (F : FunAt K mg "_law_load" ["_law_pen_here", "_law_n", "_law_balls"] s_l_load) : Cal P w K mg base "_law_load" ["_law_pen_here", "_law_n", "_law_balls"] 2 spLLoad := by
  have S := sc_l_load
  refine F.cal sc_l_load (fun vs H Q E h => ?_) (fun f cdv A outer s H vs Q E hr h => ?_)
  · obtain ⟨p, n, b, m, rfl, _⟩ := h; rfl
  obtain ⟨p, n, b, m, rfl, n1, n6, b40, hp, hm, k⟩ := h
  refine ⟨_, (@pss_cons _ _ _ _ _ (@ps_set _ _ (3) _ _ _ _ (by exact S.nd) (by rfl) (by first | exact Or.inl rfl | exact Or.inr rfl) (@pe_op _ _ _ _ _ _ _ _ op_rep (@pe_lst _ _ _ _ (@pa_consN _ _ _ _ _ pe_int pa_nil (by first|rfl|decide|exact .inl rfl|exact .inr rfl|(intros; rfl)))) (pv 1)) (by first|rfl|decide|exact .inl rfl|exact .inr rfl|(intros; rfl)) (by first|rfl|decide|exact .inl rfl|exact .inr rfl|(intros; rfl))) (@pss_cons _ _ _ _ _ (@ps_set _ _ (4) _ _ _ _ (by exact S.nd) (by rfl) (by first | exact Or.inl rfl | exact Or.inr rfl) (@cc _ _ _ _ _ _ _ _ _ _ (by exact C_l_draw) (by exact (hr.mono (by decide))) (@pa_consN _ _ _ _ _ (pv 0) (@pa_consN _ _ _ _ _ pe_int pa_nil (by first|rfl|decide|exact .inl rfl|exact .inr rfl|(intros; rfl))) (by first|rfl|decide|exact .inl rfl|exact .inr rfl|(intros; rfl))) (by first|rfl|decide|exact .inl rfl|exact .inr rfl|(intros; rfl)) (by first|rfl|decide|exact .inl rfl|exact .inr rfl|(intros; rfl)) (by first|rfl|decide|exact .inl rfl|exact .inr rfl|(intros; rfl)) (by first|rfl|decide|exact .inl rfl|exact .inr rfl|(intros; rfl))) (by first|rfl|decide|exact .inl rfl|exact .inr rfl|(intros; rfl)) (by first|rfl|decide|exact .inl rfl|exact .inr rfl|(intros; rfl))) (@pss_cons _ _ _ _ _ (@ps_set _ _ (5) _ _ _ _ (by exact S.nd) (by rfl) (by first | exact Or.inl rfl | exact Or.inr rfl) (@cc _ _ _ _ _ _ _ _ _ _ (by exact C_l_draw) (by exact (hr.mono (by decide))) (@pa_consN _ _ _ _ _ (pv 0) (@pa_consN _ _ _ _ _ (pv 1) pa_nil (by first|rfl|decide|exact .inl rfl|exact .inr rfl|(intros; rfl))) (by first|rfl|decide|exact .inl rfl|exact .inr rfl|(intros; rfl))) (by first|rfl|decide|exact .inl rfl|exact .inr rfl|(intros; rfl)) (by first|rfl|decide|exact .inl rfl|exact .inr rfl|(intros; rfl)) (by first|rfl|decide|exact .inl rfl|exact .inr rfl|(intros; rfl)) (by first|rfl|decide|exact .inl rfl|exact .inr rfl|(intros; rfl))) (by first|rfl|decide|exact .inl rfl|exact .inr rfl|(intros; rfl)) (by first|rfl|decide|exact .inl rfl|exact .inr rfl|(intros; rfl))) (@pss_cons _ _ _ _ _ (@ps_for _ _ _ _ _ _ _ _ (by exact PassesOwn.never) (by rfl) (@pi_range1 _ _ _ _ _ _ (by rfl) (by exact T.z_range) (@pa_consN _ _ _ _ _ (pv 2) pa_nil (by first|rfl|decide|exact .inl rfl|exact .inr rfl|(intros; rfl))) (by first|rfl|decide|exact .inl rfl|exact .inr rfl|(intros; rfl))) (@pg_name _ _ (6) _ (by exact S.nd) (by rfl) (by first | exact Or.inl rfl | exact Or.inr rfl) (by first|rfl|decide|exact .inl rfl|exact .inr rfl|(intros; rfl))) (@pss_cons _ _ _ _ _ (@ps_set _ _ (7) _ _ _ _ (by exact S.nd) (by rfl) (by first | exact Or.inl rfl | exact Or.inr rfl) (@pe_ix _ _ _ _ _ _ _ ix_list (@pe_lst _ _ _ _ (@pa_consN _ _ _ _ _ (@pe_op _ _ _ _ _ _ _ _ op_mod (pv 6) (pv 1)) (@pa_consN _ _ _ _ _ (pv 5) (@pa_consN _ _ _ _ _ (@cc _ _ _ _ _ _ _ _ _ _ (by exact C_l_draw) (by exact (hr.mono (by decide))) (@pa_consN _ _ _ _ _ (pv 0) (@pa_consN _ _ _ _ _ (pv 1) pa_nil (by first|rfl|decide|exact .inl rfl|exact .inr rfl|(intros; rfl))) (by first|rfl|decide|exact .inl rfl|exact .inr rfl|(intros; rfl))) (by first|rfl|decide|exact .inl rfl|exact .inr rfl|(intros; rfl)) (by first|rfl|decide|exact .inl rfl|exact .inr rfl|(intros; rfl)) (by first|rfl|decide|exact .inl rfl|exact .inr rfl|(intros; rfl)) (by first|rfl|decide|exact .inl rfl|exact .inr rfl|(intros; rfl))) pa_nil (by first|rfl|decide|exact .inl rfl|exact .inr rfl|(intros; rfl))) (by first|rfl|decide|exact .inl rfl|exact .inr rfl|(intros; rfl))) (by first|rfl|decide|exact .inl rfl|exact .inr rfl|(intros; rfl)))) (pv 4) (by exact (fun _ _ => rfl))) (by first|rfl|decide|exact .inl rfl|exact .inr rfl|(intros; rfl)) (by first|rfl|decide|exact .inl rfl|exact .inr rfl|(intros; rfl))) (@pss_one _ _ _ (@ps_asg _ _ _ _ _ _ (@pe_op _ _ _ _ _ _ _ _ op_add (@pe_ix _ _ _ _ _ _ _ ix_list (pv 3) (pv 7) (by exact (fun _ _ => rfl))) pe_int) (@pg_sub _ _ _ _ _ _ _ (pv 3) (pv 7) set_list (by first|rfl|decide|exact .inl rfl|exact .inr rfl|(intros; rfl))) (by first|rfl|decide|exact .inl rfl|exact .inr rfl|(intros; rfl)) (by first|rfl|decide|exact .inl rfl|exact .inr rfl|(intros; rfl)) (by first|rfl|decide|exact .inl rfl|exact .inr rfl|(intros; rfl))))) (by first|rfl|decide|exact .inl rfl|exact .inr rfl|(intros; rfl))) (@pss_one _ _ _ (@ps_ret _ _ _ _ (@pe_callTy _ _ _ _ _ _ _ _ _ call_tuple_of (by rfl) (by exact T.z_tuple) (by exact bt_tuple) (@pa_consN _ _ _ _ _ (@pe_sortedR _ _ _ _ _ _ _ _ _ (by rfl) (by exact T.z_sorted) (@pa_consN _ _ _ _ _ (pv 3) pa_nil (by first|rfl|decide|exact .inl rfl|exact .inr rfl|(intros; rfl))) (by first|rfl|decide|exact .inl rfl|exact .inr rfl|(intros; rfl)) (by first|rfl|decide|exact .inl rfl|exact .inr rfl|(intros; rfl))) pa_nil (by first|rfl|decide|exact .inl rfl|exact .inr rfl|(intros; rfl))) (by first|rfl|decide|exact .inl rfl|exact .inr rfl|(intros; rfl)) (by first|rfl|decide|exact .inl rfl|exact .inr rfl|(intros; rfl)) (by first|rfl|decide|exact .inl rfl|exact .inr rfl|(intros; rfl)) (by first|rfl|decide|exact .inl rfl|exact .inr rfl|(intros; rfl))))))))), ?_⟩
  refine ⟨lz 1 rfl, fun q1 hq1 => ⟨_, rfl, q1, _, _, rfl, rfl, upd_same, by omega, by omega, lzz (by simp; omega), fun q2 hq2 => ?_⟩⟩
  rw [iv_rep, Int.toNat_natCast]
  have s1 := same_new hq1 (.lst [.int 0])
  have s2 := same_new hq2 (.lst (iv (List.replicate n 0)))
  have s12 := s1.trans s2
  have hq2H : H q2 = none := none_of s1 hq2
  refine ⟨_, rfl, p, _, m, rfl, hp.same s12, by omega, by decide, by decide, fun wy H1 w0 w3 p1 x1 => ?_⟩
  refine ⟨_, rfl, _, rfl, p, _, _, rfl, p1, by omega, by omega, by omega, fun at' H2 a0 a1 p2 x2 => ?_⟩
  have x12 := x1.trans x2
  have hf2 : H2 q2 = some (.lst (iv (List.replicate n 0))) := (hp.same s12).keep x12 upd_same
  have xH : SameX p H H2 := (Same.x s12).trans x12
  refine ⟨_, rfl, (b : Int), rfl, by omega, by omega, for_range (n := (b : Int).toNat) (fun i σ H' => Pen H' p (m + 2 + i) ∧ SameX p H H' ∧ ∃ (ns : List Int) (o1 o2 : Option V), H' q2 = some (.lst (iv ns)) ∧ ns.length = n ∧ (∀ x ∈ ns, 0 ≤ x) ∧ ns.sum = i ∧ σ = [some (.ref p), some (.int (n : Int)), some (.int (b : Int)), some (.ref q2), some (.int wy), some (.int at'), o1, o2]) ?_ ?_ ?_⟩
  · exact ⟨p2, xH, _, _, _, hf2, by simp, fun x hx => by rw [List.eq_of_mem_replicate hx]; exact Int.le_refl _, by simp, rfl⟩
  · rintro i σ H3 hi ⟨p3, x3, ns, o1, o2, hf3, nl, nn, nsum, rfl⟩
    refine ⟨_, rfl, _, rfl, _, _, rfl, rfl, (show (0 : Int) < n by omega), _, rfl, _, rfl, _, rfl, p, _, _, rfl, p3, by omega, by omega, by omega, fun d H4 d0 d1 p4 x4 => ⟨lz 3 rfl, fun q hq => ?_⟩⟩
    have s4 := same_new hq (.lst [.int ((0 + (i : Int)) % (n : Int)), .int at', .int d])
    have hf4 := p3.keep x4 hf3
    obtain ⟨bx, hbx, b0, b1⟩ : ∃ bx : Int, atI [V.int ((0 + (i : Int)) % (n : Int)), .int at', .int d] wy = some (.int bx) ∧ 0 ≤ bx ∧ bx < n := by
      have : wy = 0 ∨ wy = 1 ∨ wy = 2 := by omega
      rcases this with rfl | rfl | rfl
      · exact ⟨_, rfl, Int.emod_nonneg _ (by omega), Int.emod_lt_of_pos _ (by omega)⟩
      · exact ⟨_, rfl, a0, a1⟩
      · exact ⟨_, rfl, d0, d1⟩
    refine ⟨_, rfl, q, _, _, _, rfl, rfl, SqL.of upd_same, hbx, ?_⟩
    obtain ⟨j, rfl⟩ : ∃ j : Nat, bx = (j : Int) := ⟨bx.toNat, by omega⟩
    have hj : j < ns.length := by omega
    have hf5 := s4 _ _ hf4
    refine ⟨_, rfl, _, rfl, q2, _, _, _, rfl, rfl, SqL.of hf5, iv_atI hj, _, _, rfl, rfl, _, rfl, _, rfl, q2, _, _, j, rfl, rfl, hf5, ?_, ?_⟩
    · unfold ixN
      rw [List.length_map, if_pos (by omega), if_pos (by omega)]; simp
    have hns4 := p4.same s4
    obtain ⟨u1, u2⟩ := penX_upd hq2H hp (x3.trans (x4.trans (Same.x s4))) hns4 (.lst ((iv ns).set j (.int (ns.getD j 0 + 1))))
    exact ⟨u1.mono (by omega), u2, ns.set j (ns.getD j 0 + 1), _, _, by rw [upd_same, iv_set], by simp [nl], nn_set1 nn, by rw [sum_set1 hj, nsum]; omega, rfl⟩
  · rintro σ H3 ⟨p3, x3, ns, o1, o2, hf3, nl, nn, nsum, rfl⟩
    refine ⟨_, rfl, q2, ns, rfl, hf3, by omega, fun q ms hq pm od => ?_⟩
    have s4 := same_new hq (.lst (iv ms))
    refine ⟨q, iv ms, rfl, .inl ⟨SqL.of upd_same, fun t ht => ?_⟩⟩
    have s5 := same_new ht (.tup (iv ms))
    exact k t ms _ upd_same ⟨by rw [pm.length_eq, nl], fun x hx => nn x (pm.mem_iff.mp hx), od, by rw [sum_perm pm, nsum]; omega⟩ ((p3.same (s4.trans s5)).mono (by omega)) (x3.trans (Same.x (s4.trans s5)))
end
end My

set_option Elab.async false
set_option linter.all false
set_option maxRecDepth 100000
set_option maxHeartbeats 4000000
namespace My
open PySem L2 MA Srt
/-- a table of loads, counted -/
structure Cnt (mm : Mp) (n : Nat) (b : Int) (hi : Int) : Prop where
  nd : (keysM mm).Nodup
  ld : ∀ k ∈ keysM mm, LdOk k n b
  pos : ∀ k ∈ keysM mm, 0 < getM mm k
  sum : (valsM mm).sum ≤ hi
theorem Cnt.put {mm : Mp} {n : Nat} {b hi : Int} (h : Cnt mm n b hi) {k : List Int} (hk : LdOk k n b) {v : Int} (hv : 0 < v) : Cnt (putM mm k (getM mm k + v)) n b (hi + v) := by
  have g0 : 0 ≤ getM mm k := by
    by_cases z : k ∈ keysM mm
    · exact Int.le_of_lt (h.pos k z)
    · rw [getM_absent z]; exact Int.le_refl _
  refine ⟨nodup_put h.nd, fun j hj => ?_, fun j hj => ?_, ?_⟩
  · rcases keys_put_mem.mp hj with z | z
    · exact h.ld j z
    · rw [z]; exact hk
  · rw [getM_put]
    by_cases e : j = k
    · rw [if_pos e]; omega
    · rw [if_neg e]
      rcases keys_put_mem.mp hj with z | z
      · exact h.pos j z
      · exact absurd z e
  · rw [vals_put h.nd]; have := h.sum; omega
theorem put_ne {mm : Mp} {k : List Int} {v : Int} : putM mm k v ≠ [] := by
  intro z
  have := keys_put_mem (m := mm) (k := k) (v := v) (j := k)
  rw [z] at this
  have := this.mpr (.inr rfl)
  simp [keysM] at this
theorem put_len {mm : Mp} {k : List Int} {v : Int} : (putM mm k v).length ≤ mm.length + 1 := by
  unfold putM; split <;> simp
theorem key_iv {H : Hp} {a : Addr} {ns : List Int} (h : H a = some (.tup (iv ns))) : H a = some (.tup ((ns.map (Sum.inl : Int → Key)).map kV)) := by rw [← iv_key]; exact h
theorem gN_ {i : Nat} {v : V} {σ : St} {H : Hp} {Q : St → Hp → Prop} (h : Q (σ.set i (some v)) H) : gName i v σ H Q := h
section
variable {P : Program} {w : World} {K : PySem.W.Frag} {mg : Str → Option Value} {base : Heap}
def spCounted : Sp := fun vs H Q _ => ∃ (p : Addr) (n : Nat) (b : Nat) (m : Nat), vs = [.ref p, .int (n : Int), .int (b : Int)] ∧ 1 ≤ n ∧ n ≤ 6 ∧ b ≤ 40 ∧ Pen H p m ∧ m < 50000 ∧ ∀ (d : Addr) (mm : Mp) (H' : Hp), H' d = some (dI mm) → Cnt mm n b 120 → mm ≠ [] → mm.length ≤ 4 → Pen H' p (m + 200) → SameX p H H' → Q (.ref d) H'
theorem ok_counted (T : Txt2 mg) (C_l_draw : Cal P w K mg base "_law_draw" ["_law_pen_here", "_law_many"] 1 spDraw) (C_l_load : Cal P w K mg base "_law_load" ["_law_pen_here", "_law_n", "_law_balls"] 2 spLLoad) (F : FunAt K mg "_law_counted" ["_law_pen_here", "_law_n", "_law_balls"] s_l_counted) : Cal P w K mg base "_law_counted" ["_law_pen_here", "_law_n", "_law_balls"] 3 spCounted := by
  have S := sc_l_counted
  refine F.cal sc_l_counted (fun vs H Q E h => ?_) (fun f cdv A outer s H vs Q E hr h => ?_)
  · obtain ⟨p, n, b, m, rfl, _⟩ := h; rfl
  obtain ⟨p, n, b, m, rfl, n1, n6, b40, hp, hm, k⟩ := h
  have hu1 := hu_of hr
  refine ⟨_, (@pss_cons _ _ _ _ _ (@ps_set _ _ (3) _ _ _ _ (by exact S.nd) (by rfl) (by first | exact Or.inl rfl | exact Or.inr rfl) pe_dnewT (by first|rfl|decide|exact .inl rfl|exact .inr rfl|(intros; rfl)) (by first|rfl|decide|exact .inl rfl|exact .inr rfl|(intros; rfl))) (@pss_cons _ _ _ _ _ (@ps_for _ _ _ _ _ _ _ _ (by exact PassesOwn.never) (by rfl) (@pi_range1 _ _ _ _ _ _ (by rfl) (by exact T.z_range) (@pa_consN _ _ _ _ _ (@pe_op _ _ _ _ _ _ _ _ op_add pe_int (@cc _ _ _ _ _ _ _ _ _ _ (by exact C_l_draw) (by exact (hr.mono (by decide))) (@pa_consN _ _ _ _ _ (pv 0) (@pa_consN _ _ _ _ _ pe_int pa_nil (by first|rfl|decide|exact .inl rfl|exact .inr rfl|(intros; rfl))) (by first|rfl|decide|exact .inl rfl|exact .inr rfl|(intros; rfl))) (by first|rfl|decide|exact .inl rfl|exact .inr rfl|(intros; rfl)) (by first|rfl|decide|exact .inl rfl|exact .inr rfl|(intros; rfl)) (by first|rfl|decide|exact .inl rfl|exact .inr rfl|(intros; rfl)) (by first|rfl|decide|exact .inl rfl|exact .inr rfl|(intros; rfl)))) pa_nil (by first|rfl|decide|exact .inl rfl|exact .inr rfl|(intros; rfl))) (by first|rfl|decide|exact .inl rfl|exact .inr rfl|(intros; rfl))) (@pg_name _ _ (4) _ (by exact S.nd) (by rfl) (by first | exact Or.inl rfl | exact Or.inr rfl) (by first|rfl|decide|exact .inl rfl|exact .inr rfl|(intros; rfl))) (@pss_cons _ _ _ _ _ (@ps_set _ _ (5) _ _ _ _ (by exact S.nd) (by rfl) (by first | exact Or.inl rfl | exact Or.inr rfl) (@cc _ _ _ _ _ _ _ _ _ _ (by exact C_l_load) (by exact (hr.mono (by decide))) (@pa_consN _ _ _ _ _ (pv 0) (@pa_consN _ _ _ _ _ (pv 1) (@pa_consN _ _ _ _ _ (pv 2) pa_nil (by first|rfl|decide|exact .inl rfl|exact .inr rfl|(intros; rfl))) (by first|rfl|decide|exact .inl rfl|exact .inr rfl|(intros; rfl))) (by first|rfl|decide|exact .inl rfl|exact .inr rfl|(intros; rfl))) (by first|rfl|decide|exact .inl rfl|exact .inr rfl|(intros; rfl)) (by first|rfl|decide|exact .inl rfl|exact .inr rfl|(intros; rfl)) (by first|rfl|decide|exact .inl rfl|exact .inr rfl|(intros; rfl)) (by first|rfl|decide|exact .inl rfl|exact .inr rfl|(intros; rfl))) (by first|rfl|decide|exact .inl rfl|exact .inr rfl|(intros; rfl)) (by first|rfl|decide|exact .inl rfl|exact .inr rfl|(intros; rfl))) (@pss_one _ _ _ (@ps_dput _ _ _ _ _ _ _ _ _ (by exact hu1) (pv 3) (pv 5) (@pe_op _ _ _ _ _ _ _ _ op_add (@pe_op _ _ _ _ _ _ _ _ op_add (@pe_dget2 _ _ _ _ _ _ _ _ _ (by exact hu1) (pv 3) (pv 5) pe_int (by exact ⟨rfl, rfl, rfl, rfl⟩)) pe_int) (@cc _ _ _ _ _ _ _ _ _ _ (by exact C_l_draw) (by exact (hr.mono (by decide))) (@pa_consN _ _ _ _ _ (pv 0) (@pa_consN _ _ _ _ _ pe_int pa_nil (by first|rfl|decide|exact .inl rfl|exact .inr rfl|(intros; rfl))) (by first|rfl|decide|exact .inl rfl|exact .inr rfl|(intros; rfl))) (by first|rfl|decide|exact .inl rfl|exact .inr rfl|(intros; rfl)) (by first|rfl|decide|exact .inl rfl|exact .inr rfl|(intros; rfl)) (by first|rfl|decide|exact .inl rfl|exact .inr rfl|(intros; rfl)) (by first|rfl|decide|exact .inl rfl|exact .inr rfl|(intros; rfl)))) (by rfl)))) (by first|rfl|decide|exact .inl rfl|exact .inr rfl|(intros; rfl))) (@pss_one _ _ _ (@ps_ret _ _ _ _ (pv 3))))), ?_⟩
  intro d hd
  have s1 := same_new hd (.dT [])
  refine ⟨_, rfl, p, _, m, rfl, hp.same s1, by omega, by decide, by decide, fun r H1 r0 r1 p1 x1 => ⟨_, _, rfl, rfl, ?_⟩⟩
  have hd1 : H1 d = some (dI []) := (hp.same s1).keep x1 upd_same
  have xA : SameX p H H1 := (Same.x s1).trans x1
  refine ⟨1 + r, rfl, by omega, by omega, for_range (n := (1 + r).toNat) (fun i σ H' => Pen H' p (m + 1 + 43 * i) ∧ SameX p H H' ∧ ∃ (mm : Mp) (o1 o2 : Option V), H' d = some (dI mm) ∧ Cnt mm n b (30 * i) ∧ mm.length ≤ i ∧ (i ≠ 0 → mm ≠ []) ∧ σ = [some (.ref p), some (.int (n : Int)), some (.int (b : Int)), some (.ref d), o1, o2]) ?_ ?_ ?_⟩
  · exact ⟨p1, xA, [], _, _, hd1, ⟨List.nodup_nil, (fun k hk => by simp [keysM] at hk), (fun k hk => by simp [keysM] at hk), by simp [valsM]⟩, Nat.zero_le _, fun z => absurd rfl z, rfl⟩
  · rintro i σ H2 hi ⟨p2, x2, mm, o1, o2, hd2, cn, ml, ne, rfl⟩
    refine ⟨_, rfl, _, rfl, _, rfl, p, n, b, _, rfl, n1, n6, b40, p2, by omega, fun a ns H3 ha lo p3 x3 => ?_⟩
    have hd3 := p2.keep x3 hd2
    refine ⟨_, rfl, d, rfl, .inr ⟨_, .inl hd3⟩, _, rfl, _, DGet.t hd3 (key_iv ha), ?_⟩
    rw [valV_getD]
    refine ⟨_, _, rfl, rfl, _, rfl, p, _, _, rfl, p3, by omega, by decide, by decide, fun r4 H4 r40 r41 p4 x4 => ?_⟩
    have hd4 := p3.keep x4 hd3
    have ha4 := p3.keep x4 ha
    refine ⟨_, _, rfl, rfl, _, rfl, _, rfl, d, _, rfl, DPut.t hd4 (key_iv ha4) ?_, ?_⟩
    · rw [List.length_map, sizeLine_eq]; omega
    rw [putK_dI]
    obtain ⟨u1, u2⟩ := penX_upd hd hp (x2.trans (x3.trans x4)) p4 (dI (putM mm ns (getM mm ns + 1 + r4)))
    have e1 : getM mm ns + 1 + r4 = getM mm ns + (1 + r4) := by omega
    have c2 := cn.put lo (v := 1 + r4) (by omega)
    rw [← e1] at c2
    exact ⟨u1.mono (by omega), u2, _, _, _, upd_same, ⟨c2.nd, c2.ld, c2.pos, by have := c2.sum; omega⟩, by have := put_len (mm := mm) (k := ns) (v := getM mm ns + 1 + r4); omega, fun _ => put_ne, rfl⟩
  · rintro σ H2 ⟨p2, x2, mm, o1, o2, hd2, cn, ml, ne, rfl⟩
    exact ⟨_, rfl, k d mm H2 hd2 ⟨cn.nd, cn.ld, cn.pos, by have := cn.sum; omega⟩ (ne (by omega)) (by omega) (p2.mono (by omega)) x2⟩
def spLSpread : Sp := fun vs H Q _ => ∃ (d : Addr) (m : Mp), vs = [.ref d] ∧ H d = some (dI m) ∧ (keysM m).Nodup ∧ (∀ k ∈ keysM m, k ≠ []) ∧ m.length < 64 ∧ (∀ k ∈ keysM m, 0 ≤ getM m k) ∧ 0 < (valsM m).sum ∧ Bt 8000 (valsM m).sum ∧ ∀ (l : Addr) (H' : Hp), Same H H' → H l = none → SpAt H' l (sprF m (valsM m).sum) → Q (.ref l) H'
theorem ok_lspread (T : Txt2 mg) (C_l_lowest : Cal P w K mg base "_law_lowest" ["_law_top", "_law_bottom"] 2 spLowest) (F : FunAt K mg "_law_spread" ["_law_found"] s_l_spread) : Cal P w K mg base "_law_spread" ["_law_found"] 3 spLSpread := by
  have S := sc_l_spread
  refine F.cal sc_l_spread (fun vs H Q E h => ?_) (fun f cdv A outer s H vs Q E hr h => ?_)
  · obtain ⟨d, m, rfl, _⟩ := h; rfl
  obtain ⟨d, m, rfl, hd, nd, ne, few, nn, s0, sb, k⟩ := h
  have hu1 := hu_of hr
  refine ⟨_, (@pss_cons _ _ _ _ _ (@ps_set _ _ (1) _ _ _ _ (by exact S.nd) (by rfl) (by first | exact Or.inl rfl | exact Or.inr rfl) (@pe_callB _ _ _ _ _ _ _ _ _ (call_sumV (by rfl)) (by rfl) (by exact T.z_sum) (by exact bt_sum) (@pa_consN _ _ _ _ _ (@pe_values _ _ _ _ _ (pv 0) (by first|rfl|decide|exact .inl rfl|exact .inr rfl|(intros; rfl)) (by first|rfl|decide|exact .inl rfl|exact .inr rfl|(intros; rfl))) pa_nil (by first|rfl|decide|exact .inl rfl|exact .inr rfl|(intros; rfl))) (by first|rfl|decide|exact .inl rfl|exact .inr rfl|(intros; rfl)) (by first|rfl|decide|exact .inl rfl|exact .inr rfl|(intros; rfl)) (by first|rfl|decide|exact .inl rfl|exact .inr rfl|(intros; rfl)) (by first|rfl|decide|exact .inl rfl|exact .inr rfl|(intros; rfl))) (by first|rfl|decide|exact .inl rfl|exact .inr rfl|(intros; rfl)) (by first|rfl|decide|exact .inl rfl|exact .inr rfl|(intros; rfl))) (@pss_one _ _ _ (@ps_ret _ _ _ _ (@pe_comp _ _ _ _ _ _ _ _ _ _ _ _ _ (by rfl) (by exact (fun _ _ h => h)) (by decide +kernel) (by rfl) (by decide +kernel) (by exact hfr_of rfl) (by exact Sees.frees ["_law_load_here"] [("_law_found", 0), ("_law_whole", 1)] (fr_cons ⟨rfl, rfl⟩ (fr_cons ⟨rfl, rfl⟩ fr_nil))) (@pi_list _ _ _ _ (@pe_callB _ _ _ _ _ _ _ _ _ (call_sortedK (by rfl)) (by rfl) (by exact T.z_sorted) (by exact bt_sorted) (@pa_consN _ _ _ _ _ (pv 0) pa_nil (by first|rfl|decide|exact .inl rfl|exact .inr rfl|(intros; rfl))) (by first|rfl|decide|exact .inl rfl|exact .inr rfl|(intros; rfl)) (by first|rfl|decide|exact .inl rfl|exact .inr rfl|(intros; rfl)) (by first|rfl|decide|exact .inl rfl|exact .inr rfl|(intros; rfl)) (by first|rfl|decide|exact .inl rfl|exact .inr rfl|(intros; rfl)))) (fun _ _ _ _ _ => @pg_name _ _ (0) _ (by exact (show (["_law_load_here", "_law_found", "_law_whole"] : List Str).Nodup by decide +kernel)) (by rfl) (by first | exact Or.inl rfl | exact Or.inr rfl) (by first|rfl|decide|exact .inl rfl|exact .inr rfl|(intros; rfl))) (fun _ _ _ _ _ => pts_nil) (fun _ _ _ _ _ => (@pe_tup _ _ _ _ _ (@pa_consN _ _ _ _ _ (pv 0) (@pa_consN _ _ _ _ _ (@cc _ _ _ _ _ _ _ _ _ _ (by exact C_l_lowest) (by exact (hr.mono (by decide))) (@pa_consN _ _ _ _ _ (@pe_dget _ _ _ _ _ _ (by exact hu1) (pv 1) (pv 0) (by exact (fun _ _ => rfl))) (@pa_consN _ _ _ _ _ (pv 2) pa_nil (by first|rfl|decide|exact .inl rfl|exact .inr rfl|(intros; rfl))) (by first|rfl|decide|exact .inl rfl|exact .inr rfl|(intros; rfl))) (by first|rfl|decide|exact .inl rfl|exact .inr rfl|(intros; rfl)) (by first|rfl|decide|exact .inl rfl|exact .inr rfl|(intros; rfl)) (by first|rfl|decide|exact .inl rfl|exact .inr rfl|(intros; rfl)) (by first|rfl|decide|exact .inl rfl|exact .inr rfl|(intros; rfl))) pa_nil (by first|rfl|decide|exact .inl rfl|exact .inr rfl|(intros; rfl))) (by first|rfl|decide|exact .inl rfl|exact .inr rfl|(intros; rfl))))) (by first|rfl|decide|exact .inl rfl|exact .inr rfl|(intros; rfl)))))), ?_⟩
  refine ⟨_, rfl, d, _, rfl, .inl hd, fun v hv => ?_⟩
  have s1 := same_new hv (vaV v d)
  refine ⟨v, d, _, valsM m, rfl, upd_same, .inl (s1 _ _ hd), by unfold valsM; rw [List.map_map]; show _ = List.map V.int _; rw [List.map_map]; rfl, ?_⟩
  refine ⟨_, rfl, d, _, keysM m, rfl, .inl (s1 _ _ hd), by unfold keysM; rw [List.map_map, List.map_map]; rfl, ne, by simpa [keysM] using few, fun q bs ms hq pm ri tb => ?_⟩
  have e := rise_eq pm ri
  subst e
  have s2 := same_new hq (.lst (bs.map V.ref))
  have sA := s1.trans s2
  have bl := Paired.length tb
  have kl : (rise (keysM m)).length = m.length := by rw [(rise_perm _).length_eq]; simp [keysM]
  refine ⟨q, rfl, ⟨_, SqL.of upd_same⟩, comp_Y (yields_lst (xs := bs.map V.ref)) (fun p i ys σ' H' => Same (upd (upd H v (vaV v d)) q (.lst (bs.map V.ref))) H' ∧ (∃ o1, σ' = [o1, some (.ref d), some (.int (valsM m).sum)]) ∧ ys.length = i ∧ Paired (RwAt H') ys ((sprF m (valsM m).sum).take i)) (by simp; omega) ?_ ?_ ?_ ?_⟩
  · intro p hp
    exact ⟨same_new hp _, ⟨_, rfl⟩, rfl, .nil⟩
  · rintro p i ys σ' H' hp ⟨s', _⟩
    exact s' _ _ upd_same
  · rintro p i ys σ' H' x H'' hp hi hl ⟨s', ⟨o1, rfl⟩, yl, pr'⟩ hp' ⟨rfl, hx⟩ Q1 Q2 h1 h2
    rw [List.getElem?_map, Option.map_eq_some_iff] at hx
    obtain ⟨b, hb, rfl⟩ := hx
    obtain ⟨kk, hk1, hb1⟩ := paired_get tb hb
    have km : kk ∈ keysM m := (rise_perm _).mem_iff.mp (List.mem_of_getElem? hk1)
    have hb' := (s2.trans s') _ _ hb1
    refine gN_ (tT_ (iteT ?_))
    refine ⟨_, rfl, _, rfl, _, rfl, d, _, rfl, by have := DGet.t ((sA.trans s') _ _ hd) (key_iv hb'); rw [valV_some km] at this; exact this, _, rfl, _, _, rfl, nn kk km, s0, sb, fun v2 H5 s5 pa => ?_⟩
    rw [low_q s0] at pa
    refine ⟨lz 2 rfl, fun t ht => h1 _ _ _ ?_ ?_⟩
    · exact same_new ht _ _ _ (s5 _ _ hp')
    · have s6 := same_new ht (.tup [.ref b, v2])
      have hp6 := s6 _ _ (s5 _ _ hp')
      refine ⟨same_updN hp (s'.trans (s5.trans s6)) _, ⟨_, rfl⟩, by simp [yl], ?_⟩
      have hs : (sprF m (valsM m).sum)[i]? = some (kk, Rat.divInt (getM m kk) (valsM m).sum) := by unfold sprF; rw [List.getElem?_map, hk1]; rfl
      rw [take_snoc hs]
      refine paired_snoc (Paired.mapP pr' fun _ _ z => z.imp fun b xs e => tupL hp6 _ _ ((s5.trans s6) _ _ e)) ⟨t, b, v2, rfl, tupL hp6 _ _ upd_same, tupL hp6 _ _ ((s5.trans s6) _ _ hb'), ?_⟩
      obtain ⟨c, e2, h3⟩ := pa
      exact ⟨c, e2, tupL hp6 _ _ (s6 _ _ h3)⟩
  · rintro p ys σ' H' hp ⟨s', _, yl, pr'⟩ hp' hl
    refine k p H' (sA.trans s') (none_of sA hp) ⟨ys, hp', ?_⟩
    rw [List.length_map, bl] at pr'
    have : (sprF m (valsM m).sum).length = (rise (keysM m)).length := by simp [sprF]
    rw [← this, List.take_length] at pr'
    exact pr'
end
end My

set_option Elab.async false
set_option linter.all false
set_option maxRecDepth 100000
set_option maxHeartbeats 4000000
namespace My
open PySem L2 MA Srt
theorem rd_len {H : Hp} {d : Addr} {o : Obj} {m : Mp} (h : H d = some (.frz o (dI m))) : Rd H d (dI m) := .inr ⟨o, h⟩
section
variable {P : Program} {w : World} {K : PySem.W.Frag} {mg : Str → Option Value} {base : Heap}
def spLCome : Sp := fun vs H Q _ => ∃ (d lw : Addr) (c : List Int) (m : Mp), vs = [.ref d, .ref lw] ∧ H lw = some (.lst (iv c)) ∧ H d = some (dI m) ∧ (keysM m).Nodup ∧ m.length ≤ 100 ∧ (∀ k ∈ keysM m, k.length = c.length) ∧ c.length ≤ 6 ∧ (∀ x ∈ c, Bt 8000 x) ∧ (∀ x ∈ valsM m, Bt 8000 x) ∧
  ∀ (e : Addr) (H' : Hp), Same H H' → H e = none → H' e = some (dI (comeF c m)) → Q (.ref e) H'
theorem ok_lcome (T : Txt2 mg) (F : FunAt K mg "_law_come" ["_law_found", "_law_weights_here"] s_l_come) : Cal P w K mg base "_law_come" ["_law_found", "_law_weights_here"] 1 spLCome := by
  have S := sc_l_come
  refine F.cal sc_l_come (fun vs H Q E h => ?_) (fun f cdv A outer s H vs Q E hr h => ?_)
  · obtain ⟨d, lw, c, m, rfl, _⟩ := h; rfl
  obtain ⟨d, lw, c, m, rfl, hc, hd, nd, hm, hk, hcl, hcb, hmb, kont⟩ := h
  have hu1 := hu_of hr
  refine ⟨_, (@pss_cons _ _ _ _ _ (@ps_set _ _ (2) _ _ _ _ (by exact S.nd) (by rfl) (by first | exact Or.inl rfl | exact Or.inr rfl) pe_dnewT (by first|rfl|decide|exact .inl rfl|exact .inr rfl|(intros; rfl)) (by first|rfl|decide|exact .inl rfl|exact .inr rfl|(intros; rfl))) (@pss_cons _ _ _ _ _ (@ps_thaw _ _ _ (@ps_for _ _ _ _ _ _ _ _ (by exact PassesOwn.never) (by rfl) (@pi_keysT _ _ _ _ (pv 0)) (@pg_name _ _ (3) _ (by exact S.nd) (by rfl) (by first | exact Or.inl rfl | exact Or.inr rfl) (by first|rfl|decide|exact .inl rfl|exact .inr rfl|(intros; rfl))) (@pss_one _ _ _ (@ps_for _ _ _ _ _ _ _ _ (by exact PassesOwn.never) (by rfl) (@pi_enumB true _ _ _ _ _ _ _ _ (by rfl) (by exact T.z_enumerate) (@pa_consN _ _ _ _ _ (pv 1) pa_nil (by first|rfl|decide|exact .inl rfl|exact .inr rfl|(intros; rfl))) (by first|rfl|decide|exact .inl rfl|exact .inr rfl|(intros; rfl))) (@pg_tup _ _ _ _ _ _ (by rfl) (@pgs_cons _ _ _ _ _ (@pg_name _ _ (4) _ (by exact S.nd) (by rfl) (by first | exact Or.inl rfl | exact Or.inr rfl) (by first|rfl|decide|exact .inl rfl|exact .inr rfl|(intros; rfl))) (@pgs_cons _ _ _ _ _ (@pg_name _ _ (5) _ (by exact S.nd) (by rfl) (by first | exact Or.inl rfl | exact Or.inr rfl) (by first|rfl|decide|exact .inl rfl|exact .inr rfl|(intros; rfl))) pgs_nil (by first|rfl|decide|exact .inl rfl|exact .inr rfl|(intros; rfl))) (by first|rfl|decide|exact .inl rfl|exact .inr rfl|(intros; rfl))) (by first|rfl|decide|exact .inl rfl|exact .inr rfl|(intros; rfl)) (by first|rfl|decide|exact .inl rfl|exact .inr rfl|(intros; rfl))) (@pss_cons _ _ _ _ _ (@ps_set _ _ (6) _ _ _ _ (by exact S.nd) (by rfl) (by first | exact Or.inl rfl | exact Or.inr rfl) (@pe_callTy _ _ _ _ _ _ _ _ _ call_list_of (by rfl) (by exact T.z_list) (by exact bt_list) (@pa_consN _ _ _ _ _ (pv 3) pa_nil (by first|rfl|decide|exact .inl rfl|exact .inr rfl|(intros; rfl))) (by first|rfl|decide|exact .inl rfl|exact .inr rfl|(intros; rfl)) (by first|rfl|decide|exact .inl rfl|exact .inr rfl|(intros; rfl)) (by first|rfl|decide|exact .inl rfl|exact .inr rfl|(intros; rfl)) (by first|rfl|decide|exact .inl rfl|exact .inr rfl|(intros; rfl))) (by first|rfl|decide|exact .inl rfl|exact .inr rfl|(intros; rfl)) (by first|rfl|decide|exact .inl rfl|exact .inr rfl|(intros; rfl))) (@pss_cons _ _ _ _ _ (@ps_asg _ _ _ _ _ _ (@pe_op _ _ _ _ _ _ _ _ op_add (@pe_ix _ _ _ _ _ _ _ ix_list (pv 6) (pv 4) (by exact (fun _ _ => rfl))) pe_int) (@pg_sub _ _ _ _ _ _ _ (pv 6) (pv 4) set_list (by first|rfl|decide|exact .inl rfl|exact .inr rfl|(intros; rfl))) (by first|rfl|decide|exact .inl rfl|exact .inr rfl|(intros; rfl)) (by first|rfl|decide|exact .inl rfl|exact .inr rfl|(intros; rfl)) (by first|rfl|decide|exact .inl rfl|exact .inr rfl|(intros; rfl))) (@pss_cons _ _ _ _ _ (@ps_set _ _ (7) _ _ _ _ (by exact S.nd) (by rfl) (by first | exact Or.inl rfl | exact Or.inr rfl) (@pe_callTy _ _ _ _ _ _ _ _ _ call_tuple_of (by rfl) (by exact T.z_tuple) (by exact bt_tuple) (@pa_consN _ _ _ _ _ (@pe_sortedR _ _ _ _ _ _ _ _ _ (by rfl) (by exact T.z_sorted) (@pa_consN _ _ _ _ _ (pv 6) pa_nil (by first|rfl|decide|exact .inl rfl|exact .inr rfl|(intros; rfl))) (by first|rfl|decide|exact .inl rfl|exact .inr rfl|(intros; rfl)) (by first|rfl|decide|exact .inl rfl|exact .inr rfl|(intros; rfl))) pa_nil (by first|rfl|decide|exact .inl rfl|exact .inr rfl|(intros; rfl))) (by first|rfl|decide|exact .inl rfl|exact .inr rfl|(intros; rfl)) (by first|rfl|decide|exact .inl rfl|exact .inr rfl|(intros; rfl)) (by first|rfl|decide|exact .inl rfl|exact .inr rfl|(intros; rfl)) (by first|rfl|decide|exact .inl rfl|exact .inr rfl|(intros; rfl))) (by first|rfl|decide|exact .inl rfl|exact .inr rfl|(intros; rfl)) (by first|rfl|decide|exact .inl rfl|exact .inr rfl|(intros; rfl))) (@pss_one _ _ _ (@ps_if _ _ _ _ _ _ _ _ (@pt_cmpR _ _ _ _ _ _ _ _ op_gt (pv 5) pe_int (by exact (nomark _))) (@pss_one _ _ _ (@ps_dput _ _ _ _ _ _ _ _ _ (by exact hu1) (pv 2) (pv 7) (@pe_op _ _ _ _ _ _ _ _ op_add (@pe_dget2 _ _ _ _ _ _ _ _ _ (by exact hu1) (pv 2) (pv 7) pe_int (by exact ⟨rfl, rfl, rfl, rfl⟩)) (@pe_op _ _ _ _ _ _ _ _ op_mulB (@pe_dget _ _ _ _ _ _ (by exact hu1) (pv 0) (pv 3) (by exact (fun _ _ => rfl))) (pv 5))) (by rfl))) pss_nil))))) (by first|rfl|decide|exact .inl rfl|exact .inr rfl|(intros; rfl)))) (by first|rfl|decide|exact .inl rfl|exact .inr rfl|(intros; rfl)))) (@pss_one _ _ _ (@ps_ret _ _ _ _ (pv 2))))), ?_⟩
  intro e he
  have hed : e ≠ d := Ne.symm (ne_of_none hd he)
  have hel : lw ≠ e := ne_of_none hc he
  have hcd : lw ≠ d := ne_of hc hd (by intro z; cases z)
  have hd1 : upd H e (.dT []) d = some (dI m) := by rw [upd_ne (Ne.symm hed)]; exact hd
  refine ⟨d, _, hd1, _, rfl, d, _, rfl, .inl ⟨hd1, fun o => for_Y (yields_keysT (kws := m.map fI)) (fun i σ H' => Same (upd H d (.frz o (dI m))) H' ∧ H' e = some (dI (gath (rowsM (m.take i) (gainF c c.length)))) ∧ ∃ o1 o2 o3 o4 o5, σ = [some (.ref d), some (.ref lw), some (.ref e), o1, o2, o3, o4, o5]) ?_ ?_ ?_ ?_⟩⟩
  · refine ⟨fun b u eb => ?_, ?_, _, _, _, _, _, rfl⟩
    · by_cases z : b = d
      · subst z; rw [upd_same] at eb ⊢; exact eb
      · rw [upd_ne z] at eb ⊢; rw [upd_ne (ne_of_none eb he)]; exact eb
    · rw [upd_ne hed, upd_same]; rfl
  · rintro i σ H' ⟨s', _⟩
    rw [dI_kI]
    exact s' _ _ upd_same
  · rintro i x σ H1 H2 hi ⟨s1, hE, o1, o2, o3, o4, o5, rfl⟩ ⟨rfl, b, kw, rfl, hb, hkw⟩
    rw [List.getElem?_map, Option.map_eq_some_iff] at hkw
    obtain ⟨p, hp, rfl⟩ := hkw
    have pm : p ∈ m := List.mem_of_getElem? hp
    change H2 b = some (.tup (iv p.1)) at hb
    have hzd := s1 _ _ (upd_same (H := H) (a := d) (o := .frz o (dI m)))
    have hlw : H2 lw = some (.lst (iv c)) := s1 _ _ (by rw [upd_ne hcd]; exact hc)
    have be : b ≠ e := ne_of hb hE (by intro z; cases z)
    have de : d ≠ e := Ne.symm hed
    refine gN_ ?_
    refine ⟨_, rfl, lw, rfl, ⟨_, SqL.of hlw⟩, for_Y (yields_enumL (xs := iv c)) (fun j σ H' => SmB e H2 H' ∧ H' e = some (dI (gath (rowsM (m.take i) (gainF c c.length) ++ (gainF c j p.1).map fun q => (q.1, p.2 * q.2)))) ∧ ∃ o2 o3 o4 o5, σ = [some (.ref d), some (.ref lw), some (.ref e), some (.ref b), o2, o3, o4, o5]) ?_ ?_ ?_ ?_⟩
    · refine ⟨.refl _ _, ?_, _, _, _, _, rfl⟩
      rw [show gainF c 0 p.1 = [] from rfl, List.map_nil, List.append_nil]; exact hE
    · rintro j σ H' ⟨s3, _⟩
      exact s3 _ _ hel hlw
    · rintro j x σ H3 H4 hj ⟨s3, hE3, o2, o3, o4, o5, rfl⟩ ⟨t, y, rfl, ht, rfl, hy⟩
      have hj' : j < c.length := by simpa using hj
      have ey : y = .int c[j] := by
        rw [List.getElem?_map, List.getElem?_eq_getElem hj'] at hy
        exact (Option.some.inj hy).symm
      subst ey
      have s4 := same_new ht (.tup [.int (j : Int), .int c[j]])
      have ec : c.getD j 0 = c[j] := by simp [hj']
      have ek : p.1.length = c.length := hk _ (List.mem_map_of_mem pm)
      have jl : j < p.1.length := by omega
      refine ⟨t, _, rfl, SqT.of upd_same, rfl, _, _, rfl, _, _, rfl, rfl, ?_⟩
      have hb4 := s4 _ _ (s3 _ _ be hb)
      refine ⟨_, rfl, b, _, rfl, .inr (SqT.of hb4), fun l hl => ?_⟩
      have s5 := same_new hl (.lst (iv p.1))
      refine ⟨_, rfl, _, rfl, l, _, _, _, rfl, rfl, SqL.of upd_same, iv_atI jl, _, _, rfl, rfl, _, rfl, _, rfl, l, _, _, j, rfl, rfl, upd_same, ?_, ?_⟩
      · unfold ixN
        rw [List.length_map, if_pos (by omega), if_pos (by omega)]; simp
      rw [upd_upd, iv_set]
      have s5' := same_new hl (.lst (iv (p.1.set j (p.1.getD j 0 + 1))))
      refine ⟨_, rfl, l, _, rfl, upd_same, by simp; omega, fun q ms hq pm' od => ?_⟩
      have s6 := same_new hq (.lst (iv ms))
      refine ⟨q, iv ms, rfl, .inl ⟨SqL.of upd_same, fun t2 ht2 => ?_⟩⟩
      have s7 := same_new ht2 (.tup (iv ms))
      have em : ms = putL p.1 j := fall_eq pm' od
      have s47 := s4.trans (s5'.trans (s6.trans s7))
      have sB : SmB e H2 _ := s3.trans (.of s47)
      have hE7 := s47 _ _ hE3
      refine ⟨_, rfl, _, _, rfl, rfl, _, rfl, ?_⟩
      refine ite2 (fun c0 => ?_) (fun c0 => ?_)
      · have c0' : 0 < c[j] := of_decide_eq_true c0
        have hb7 := sB _ _ be hb
        have hd7 := sB _ _ de hzd
        refine ⟨_, rfl, e, rfl, .inr ⟨_, .inl hE7⟩, _, rfl, _, DGet.t hE7 (key_iv upd_same), ?_⟩
        rw [valV_getD]
        have g := DGet.tz (rd_len hd7) (key_iv hb7)
        rw [valV_some (List.mem_map_of_mem pm), getM_mem nd pm] at g
        refine ⟨_, rfl, _, rfl, d, _, rfl, g, _, rfl, _, _, rfl, rfl, ⟨(hmb p.2 (List.mem_map_of_mem pm)).mono (by decide), (hcb c[j] (List.getElem_mem hj')).mono (by decide)⟩, _, _, rfl, rfl, ?_⟩
        refine ⟨_, rfl, _, rfl, e, _, rfl, DPut.t hE7 (key_iv upd_same) ?_, ?_⟩
        · have h1 := gath_len (rowsM (m.take i) (gainF c c.length) ++ (gainF c j p.1).map fun q => (q.1, p.2 * q.2))
          have h2 := rows_len (m.take i) (gainF c c.length) c.length fun l => gain_len c c.length l
          have h3 := gain_len c j p.1
          rw [List.length_append, List.length_map] at h1
          rw [List.length_take] at h2
          have h4 : min i m.length * c.length ≤ 100 * 6 := Nat.mul_le_mul (by omega) hcl
          rw [List.length_map, sizeLine_eq]; omega
        · refine ⟨sB.upd _, ?_, _, _, _, _, rfl⟩
          rw [putK_dI, upd_same]
          rw [gain_succ, ec, if_pos c0', List.map_append, ← List.append_assoc, List.map_cons, List.map_nil, gath_snoc, em]
          rfl
      · have c0' : ¬ 0 < c[j] := by simpa using c0
        refine ⟨sB, ?_, _, _, _, _, rfl⟩
        rw [gain_succ, ec, if_neg c0', List.append_nil]; exact hE7
    · rintro σ H3 ⟨s3, hE3, o2, o3, o4, o5, rfl⟩
      refine ⟨fun b u eb => s3 b u (fun z => ?_) (s1 _ _ eb), ?_, _, _, _, _, _, rfl⟩
      · rw [z, upd_ne hed, he] at eb; cases eb
      · rw [rows_take hp]
        have : (iv c).length = c.length := by simp
        rw [this] at hE3; exact hE3
  · rintro σ H1 ⟨s1, hE, o1, o2, o3, o4, o5, rfl⟩
    have hml : (m.map fI).length = m.length := by simp
    rw [hml, List.take_length] at hE
    refine ⟨o, _, s1 _ _ upd_same, ?_⟩
    refine ⟨_, rfl, kont e _ (fun b u eb => ?_) he (by rw [upd_ne hed]; exact hE)⟩
    by_cases z : b = d
    · rw [z, upd_same]; rw [z, hd] at eb; exact eb
    · rw [upd_ne z]; exact s1 _ _ (by rw [upd_ne z]; exact eb)
end
end My

set_option Elab.async false
set_option linter.all false
set_option maxRecDepth 100000
set_option maxHeartbeats 4000000
namespace My
open PySem L2 MA Srt
/-- the boxes, the balls there are, the balls that come -/
structure Siz (way n b k : Nat) : Prop where
  n1 : 1 ≤ n
  n6 : n ≤ 6
  b40 : b ≤ 40
  k60 : k ≤ 60
  w0 : way = 0 → b + k ≤ 12
  w1 : way = 1 → n ≤ 2 ∧ k ≤ 14
section
variable {P : Program} {w : World} {K : PySem.W.Frag} {mg : Str → Option Value} {base : Heap}
def spSizes : Sp := fun vs H Q _ => ∃ (p : Addr) (way m : Nat), vs = [.ref p, .int (way : Int)] ∧ way < 3 ∧ Pen H p m ∧ m < 50000 ∧ ∀ (t : Addr) (n b k : Nat) (H' : Hp), H' t = some (.tup [.int (n : Int), .int (b : Int), .int (k : Int)]) → Siz way n b k → Pen H' p (m + 10) → SameX p H H' → Q (.ref t) H'
theorem ok_sizes (T : Txt2 mg) (C_l_draw : Cal P w K mg base "_law_draw" ["_law_pen_here", "_law_many"] 1 spDraw) (F : FunAt K mg "_law_sizes" ["_law_pen_here", "_law_way"] s_l_sizes) : Cal P w K mg base "_law_sizes" ["_law_pen_here", "_law_way"] 2 spSizes := by
  have S := sc_l_sizes
  refine F.cal sc_l_sizes (fun vs H Q E h => ?_) (fun f cdv A outer s H vs Q E hr h => ?_)
  · obtain ⟨p, way, m, rfl, _⟩ := h; rfl
  obtain ⟨p, way, m, rfl, w3, hp, hm, k⟩ := h
  refine ⟨_, (@pss_cons _ _ _ _ _ (@ps_if _ _ _ _ _ _ _ _ (@pt_cmpR _ _ _ _ _ _ _ _ op_eq (pv 1) pe_int (by exact (nomark _))) (@pss_cons _ _ _ _ _ (@ps_set _ _ (3) _ _ _ _ (by exact S.nd) (by rfl) (by first | exact Or.inl rfl | exact Or.inr rfl) (@cc _ _ _ _ _ _ _ _ _ _ (by exact C_l_draw) (by exact (hr.mono (by decide))) (@pa_consN _ _ _ _ _ (pv 0) (@pa_consN _ _ _ _ _ pe_int pa_nil (by first|rfl|decide|exact .inl rfl|exact .inr rfl|(intros; rfl))) (by first|rfl|decide|exact .inl rfl|exact .inr rfl|(intros; rfl))) (by first|rfl|decide|exact .inl rfl|exact .inr rfl|(intros; rfl)) (by first|rfl|decide|exact .inl rfl|exact .inr rfl|(intros; rfl)) (by first|rfl|decide|exact .inl rfl|exact .inr rfl|(intros; rfl)) (by first|rfl|decide|exact .inl rfl|exact .inr rfl|(intros; rfl))) (by first|rfl|decide|exact .inl rfl|exact .inr rfl|(intros; rfl)) (by first|rfl|decide|exact .inl rfl|exact .inr rfl|(intros; rfl))) (@pss_one _ _ _ (@ps_ret _ _ _ _ (@pe_tup _ _ _ _ _ (@pa_consN _ _ _ _ _ (@pe_op _ _ _ _ _ _ _ _ op_add pe_int (@cc _ _ _ _ _ _ _ _ _ _ (by exact C_l_draw) (by exact (hr.mono (by decide))) (@pa_consN _ _ _ _ _ (pv 0) (@pa_consN _ _ _ _ _ pe_int pa_nil (by first|rfl|decide|exact .inl rfl|exact .inr rfl|(intros; rfl))) (by first|rfl|decide|exact .inl rfl|exact .inr rfl|(intros; rfl))) (by first|rfl|decide|exact .inl rfl|exact .inr rfl|(intros; rfl)) (by first|rfl|decide|exact .inl rfl|exact .inr rfl|(intros; rfl)) (by first|rfl|decide|exact .inl rfl|exact .inr rfl|(intros; rfl)) (by first|rfl|decide|exact .inl rfl|exact .inr rfl|(intros; rfl)))) (@pa_consN _ _ _ _ _ (@pe_ix _ _ _ _ _ _ _ ix_list (@pe_lst _ _ _ _ (@pa_consN _ _ _ _ _ pe_int (@pa_consN _ _ _ _ _ (@pe_op _ _ _ _ _ _ _ _ op_sub pe_int (pv 3)) (@pa_consN _ _ _ _ _ (@cc _ _ _ _ _ _ _ _ _ _ (by exact C_l_draw) (by exact (hr.mono (by decide))) (@pa_consN _ _ _ _ _ (pv 0) (@pa_consN _ _ _ _ _ (@pe_op _ _ _ _ _ _ _ _ op_sub pe_int (pv 3)) pa_nil (by first|rfl|decide|exact .inl rfl|exact .inr rfl|(intros; rfl))) (by first|rfl|decide|exact .inl rfl|exact .inr rfl|(intros; rfl))) (by first|rfl|decide|exact .inl rfl|exact .inr rfl|(intros; rfl)) (by first|rfl|decide|exact .inl rfl|exact .inr rfl|(intros; rfl)) (by first|rfl|decide|exact .inl rfl|exact .inr rfl|(intros; rfl)) (by first|rfl|decide|exact .inl rfl|exact .inr rfl|(intros; rfl))) pa_nil (by first|rfl|decide|exact .inl rfl|exact .inr rfl|(intros; rfl))) (by first|rfl|decide|exact .inl rfl|exact .inr rfl|(intros; rfl))) (by first|rfl|decide|exact .inl rfl|exact .inr rfl|(intros; rfl)))) (@cc _ _ _ _ _ _ _ _ _ _ (by exact C_l_draw) (by exact (hr.mono (by decide))) (@pa_consN _ _ _ _ _ (pv 0) (@pa_consN _ _ _ _ _ pe_int pa_nil (by first|rfl|decide|exact .inl rfl|exact .inr rfl|(intros; rfl))) (by first|rfl|decide|exact .inl rfl|exact .inr rfl|(intros; rfl))) (by first|rfl|decide|exact .inl rfl|exact .inr rfl|(intros; rfl)) (by first|rfl|decide|exact .inl rfl|exact .inr rfl|(intros; rfl)) (by first|rfl|decide|exact .inl rfl|exact .inr rfl|(intros; rfl)) (by first|rfl|decide|exact .inl rfl|exact .inr rfl|(intros; rfl))) (by exact (fun _ _ => rfl))) (@pa_consN _ _ _ _ _ (pv 3) pa_nil (by first|rfl|decide|exact .inl rfl|exact .inr rfl|(intros; rfl))) (by first|rfl|decide|exact .inl rfl|exact .inr rfl|(intros; rfl))) (by first|rfl|decide|exact .inl rfl|exact .inr rfl|(intros; rfl))))))) pss_nil) (@pss_cons _ _ _ _ _ (@ps_if _ _ _ _ _ _ _ _ (@pt_cmpR _ _ _ _ _ _ _ _ op_eq (pv 1) pe_int (by exact (nomark _))) (@pss_one _ _ _ (@ps_ret _ _ _ _ (@pe_tup _ _ _ _ _ (@pa_consN _ _ _ _ _ (@pe_op _ _ _ _ _ _ _ _ op_add pe_int (@cc _ _ _ _ _ _ _ _ _ _ (by exact C_l_draw) (by exact (hr.mono (by decide))) (@pa_consN _ _ _ _ _ (pv 0) (@pa_consN _ _ _ _ _ pe_int pa_nil (by first|rfl|decide|exact .inl rfl|exact .inr rfl|(intros; rfl))) (by first|rfl|decide|exact .inl rfl|exact .inr rfl|(intros; rfl))) (by first|rfl|decide|exact .inl rfl|exact .inr rfl|(intros; rfl)) (by first|rfl|decide|exact .inl rfl|exact .inr rfl|(intros; rfl)) (by first|rfl|decide|exact .inl rfl|exact .inr rfl|(intros; rfl)) (by first|rfl|decide|exact .inl rfl|exact .inr rfl|(intros; rfl)))) (@pa_consN _ _ _ _ _ (@cc _ _ _ _ _ _ _ _ _ _ (by exact C_l_draw) (by exact (hr.mono (by decide))) (@pa_consN _ _ _ _ _ (pv 0) (@pa_consN _ _ _ _ _ pe_int pa_nil (by first|rfl|decide|exact .inl rfl|exact .inr rfl|(intros; rfl))) (by first|rfl|decide|exact .inl rfl|exact .inr rfl|(intros; rfl))) (by first|rfl|decide|exact .inl rfl|exact .inr rfl|(intros; rfl)) (by first|rfl|decide|exact .inl rfl|exact .inr rfl|(intros; rfl)) (by first|rfl|decide|exact .inl rfl|exact .inr rfl|(intros; rfl)) (by first|rfl|decide|exact .inl rfl|exact .inr rfl|(intros; rfl))) (@pa_consN _ _ _ _ _ (@pe_op _ _ _ _ _ _ _ _ op_add pe_int (@cc _ _ _ _ _ _ _ _ _ _ (by exact C_l_draw) (by exact (hr.mono (by decide))) (@pa_consN _ _ _ _ _ (pv 0) (@pa_consN _ _ _ _ _ pe_int pa_nil (by first|rfl|decide|exact .inl rfl|exact .inr rfl|(intros; rfl))) (by first|rfl|decide|exact .inl rfl|exact .inr rfl|(intros; rfl))) (by first|rfl|decide|exact .inl rfl|exact .inr rfl|(intros; rfl)) (by first|rfl|decide|exact .inl rfl|exact .inr rfl|(intros; rfl)) (by first|rfl|decide|exact .inl rfl|exact .inr rfl|(intros; rfl)) (by first|rfl|decide|exact .inl rfl|exact .inr rfl|(intros; rfl)))) pa_nil (by first|rfl|decide|exact .inl rfl|exact .inr rfl|(intros; rfl))) (by first|rfl|decide|exact .inl rfl|exact .inr rfl|(intros; rfl))) (by first|rfl|decide|exact .inl rfl|exact .inr rfl|(intros; rfl)))))) pss_nil) (@pss_cons _ _ _ _ _ (@ps_set _ _ (2) _ _ _ _ (by exact S.nd) (by rfl) (by first | exact Or.inl rfl | exact Or.inr rfl) (@pe_ix _ _ _ _ _ _ _ ix_list (@pe_lst _ _ _ _ (@pa_consN _ _ _ _ _ pe_int (@pa_consN _ _ _ _ _ (@cc _ _ _ _ _ _ _ _ _ _ (by exact C_l_draw) (by exact (hr.mono (by decide))) (@pa_consN _ _ _ _ _ (pv 0) (@pa_consN _ _ _ _ _ pe_int pa_nil (by first|rfl|decide|exact .inl rfl|exact .inr rfl|(intros; rfl))) (by first|rfl|decide|exact .inl rfl|exact .inr rfl|(intros; rfl))) (by first|rfl|decide|exact .inl rfl|exact .inr rfl|(intros; rfl)) (by first|rfl|decide|exact .inl rfl|exact .inr rfl|(intros; rfl)) (by first|rfl|decide|exact .inl rfl|exact .inr rfl|(intros; rfl)) (by first|rfl|decide|exact .inl rfl|exact .inr rfl|(intros; rfl))) pa_nil (by first|rfl|decide|exact .inl rfl|exact .inr rfl|(intros; rfl))) (by first|rfl|decide|exact .inl rfl|exact .inr rfl|(intros; rfl)))) (@cc _ _ _ _ _ _ _ _ _ _ (by exact C_l_draw) (by exact (hr.mono (by decide))) (@pa_consN _ _ _ _ _ (pv 0) (@pa_consN _ _ _ _ _ pe_int pa_nil (by first|rfl|decide|exact .inl rfl|exact .inr rfl|(intros; rfl))) (by first|rfl|decide|exact .inl rfl|exact .inr rfl|(intros; rfl))) (by first|rfl|decide|exact .inl rfl|exact .inr rfl|(intros; rfl)) (by first|rfl|decide|exact .inl rfl|exact .inr rfl|(intros; rfl)) (by first|rfl|decide|exact .inl rfl|exact .inr rfl|(intros; rfl)) (by first|rfl|decide|exact .inl rfl|exact .inr rfl|(intros; rfl))) (by exact (fun _ _ => rfl))) (by first|rfl|decide|exact .inl rfl|exact .inr rfl|(intros; rfl)) (by first|rfl|decide|exact .inl rfl|exact .inr rfl|(intros; rfl))) (@pss_one _ _ _ (@ps_ret _ _ _ _ (@pe_tup _ _ _ _ _ (@pa_consN _ _ _ _ _ (@pe_op _ _ _ _ _ _ _ _ op_add pe_int (@cc _ _ _ _ _ _ _ _ _ _ (by exact C_l_draw) (by exact (hr.mono (by decide))) (@pa_consN _ _ _ _ _ (pv 0) (@pa_consN _ _ _ _ _ pe_int pa_nil (by first|rfl|decide|exact .inl rfl|exact .inr rfl|(intros; rfl))) (by first|rfl|decide|exact .inl rfl|exact .inr rfl|(intros; rfl))) (by first|rfl|decide|exact .inl rfl|exact .inr rfl|(intros; rfl)) (by first|rfl|decide|exact .inl rfl|exact .inr rfl|(intros; rfl)) (by first|rfl|decide|exact .inl rfl|exact .inr rfl|(intros; rfl)) (by first|rfl|decide|exact .inl rfl|exact .inr rfl|(intros; rfl)))) (@pa_consN _ _ _ _ _ (pv 2) (@pa_consN _ _ _ _ _ (@pe_ix _ _ _ _ _ _ _ ix_list (@pe_lst _ _ _ _ (@pa_consN _ _ _ _ _ pe_int (@pa_consN _ _ _ _ _ (@cc _ _ _ _ _ _ _ _ _ _ (by exact C_l_draw) (by exact (hr.mono (by decide))) (@pa_consN _ _ _ _ _ (pv 0) (@pa_consN _ _ _ _ _ pe_int pa_nil (by first|rfl|decide|exact .inl rfl|exact .inr rfl|(intros; rfl))) (by first|rfl|decide|exact .inl rfl|exact .inr rfl|(intros; rfl))) (by first|rfl|decide|exact .inl rfl|exact .inr rfl|(intros; rfl)) (by first|rfl|decide|exact .inl rfl|exact .inr rfl|(intros; rfl)) (by first|rfl|decide|exact .inl rfl|exact .inr rfl|(intros; rfl)) (by first|rfl|decide|exact .inl rfl|exact .inr rfl|(intros; rfl))) pa_nil (by first|rfl|decide|exact .inl rfl|exact .inr rfl|(intros; rfl))) (by first|rfl|decide|exact .inl rfl|exact .inr rfl|(intros; rfl)))) (@cc _ _ _ _ _ _ _ _ _ _ (by exact C_l_draw) (by exact (hr.mono (by decide))) (@pa_consN _ _ _ _ _ (pv 0) (@pa_consN _ _ _ _ _ pe_int pa_nil (by first|rfl|decide|exact .inl rfl|exact .inr rfl|(intros; rfl))) (by first|rfl|decide|exact .inl rfl|exact .inr rfl|(intros; rfl))) (by first|rfl|decide|exact .inl rfl|exact .inr rfl|(intros; rfl)) (by first|rfl|decide|exact .inl rfl|exact .inr rfl|(intros; rfl)) (by first|rfl|decide|exact .inl rfl|exact .inr rfl|(intros; rfl)) (by first|rfl|decide|exact .inl rfl|exact .inr rfl|(intros; rfl))) (by exact (fun _ _ => rfl))) pa_nil (by first|rfl|decide|exact .inl rfl|exact .inr rfl|(intros; rfl))) (by first|rfl|decide|exact .inl rfl|exact .inr rfl|(intros; rfl))) (by first|rfl|decide|exact .inl rfl|exact .inr rfl|(intros; rfl))))))))), ?_⟩
  refine ⟨_, rfl, rfl, _, rfl, ?_⟩
  refine ite2 (fun c0 => ?_) (fun c0 => ?_)
  · have e0 : (way : Int) = 0 := V.int.inj (of_decide_eq_true c0)
    refine ⟨_, rfl, p, _, m, rfl, hp, by omega, by decide, by decide, fun r1 H1 r10 r11 p1 x1 => ?_⟩
    refine ⟨_, rfl, p, _, _, rfl, p1, by omega, by decide, by decide, fun r2 H2 r20 r21 p2 x2 => ⟨_, _, rfl, rfl, ?_⟩⟩
    refine ⟨_, rfl, _, _, rfl, rfl, _, rfl, _, rfl, _, _, rfl, rfl, p, _, _, rfl, p2, by omega, by omega, by omega, fun r3 H3 r30 r31 p3 x3 => ⟨lz 3 rfl, fun l hl => ?_⟩⟩
    have s3 := same_new hl (.lst [.int 0, .int (12 - r1), .int r3])
    refine ⟨_, rfl, p, _, _, rfl, p3.same s3, by omega, by decide, by decide, fun r4 H4 r40 r41 p4 x4 => ?_⟩
    have hl4 := (p3.same s3).keep x4 upd_same
    obtain ⟨b, hb, b0, b1⟩ : ∃ b : Int, atI [V.int 0, .int (12 - r1), .int r3] r4 = some (.int b) ∧ 0 ≤ b ∧ b + r1 ≤ 12 := by
      have : r4 = 0 ∨ r4 = 1 ∨ r4 = 2 := by omega
      rcases this with rfl | rfl | rfl
      · exact ⟨_, rfl, by omega, by omega⟩
      · exact ⟨_, rfl, by omega, by omega⟩
      · exact ⟨_, rfl, by omega, by omega⟩
    refine ⟨l, _, _, _, rfl, rfl, SqL.of hl4, hb, _, rfl, lz 3 rfl, fun t ht => ?_⟩
    have s5 := same_new ht (.tup [.int (1 + r2), .int b, .int r1])
    refine k t (1 + r2).toNat b.toNat r1.toNat _ ?_ ⟨by omega, by omega, by omega, by omega, by omega, by omega⟩ ((p4.same s5).mono (by omega)) (x1.trans (x2.trans (x3.trans ((Same.x s3).trans (x4.trans (Same.x s5))))))
    rw [upd_same, show (((1 + r2).toNat : Nat) : Int) = 1 + r2 by omega, show ((b.toNat : Nat) : Int) = b by omega, show ((r1.toNat : Nat) : Int) = r1 by omega]
  have way0 : way ≠ 0 := fun z => c0 (by rw [z]; rfl)
  refine ⟨_, rfl, rfl, _, rfl, ?_⟩
  refine ite2 (fun c1 => ?_) (fun c1 => ?_)
  · have e1 : (way : Int) = 1 := V.int.inj (of_decide_eq_true c1)
    refine ⟨_, rfl, p, _, m, rfl, hp, by omega, by decide, by decide, fun r1 H1 r10 r11 p1 x1 => ⟨_, _, rfl, rfl, ?_⟩⟩
    refine ⟨_, rfl, p, _, _, rfl, p1, by omega, by decide, by decide, fun r2 H2 r20 r21 p2 x2 => ?_⟩
    refine ⟨_, rfl, p, _, _, rfl, p2, by omega, by decide, by decide, fun r3 H3 r30 r31 p3 x3 => ⟨_, _, rfl, rfl, lz 3 rfl, fun t ht => ?_⟩⟩
    have s5 := same_new ht (.tup [.int (1 + r1), .int r2, .int (1 + r3)])
    refine k t (1 + r1).toNat r2.toNat (1 + r3).toNat _ ?_ ⟨by omega, by omega, by omega, by omega, by omega, by omega⟩ ((p3.same s5).mono (by omega)) (x1.trans (x2.trans (x3.trans (Same.x s5))))
    rw [upd_same, show (((1 + r1).toNat : Nat) : Int) = 1 + r1 by omega, show ((r2.toNat : Nat) : Int) = r2 by omega, show (((1 + r3).toNat : Nat) : Int) = 1 + r3 by omega]
  have way1 : way ≠ 1 := fun z => c1 (by rw [z]; rfl)
  refine ⟨_, rfl, p, _, m, rfl, hp, by omega, by decide, by decide, fun r1 H1 r10 r11 p1 x1 => ⟨lz 2 rfl, fun l hl => ?_⟩⟩
  have s1 := same_new hl (.lst [.int 40, .int r1])
  refine ⟨_, rfl, p, _, _, rfl, p1.same s1, by omega, by decide, by decide, fun r2 H2 r20 r21 p2 x2 => ?_⟩
  have hl2 := (p1.same s1).keep x2 upd_same
  obtain ⟨b, hb, b0, b1⟩ : ∃ b : Int, atI [V.int 40, .int r1] r2 = some (.int b) ∧ 0 ≤ b ∧ b ≤ 40 := by
    have : r2 = 0 ∨ r2 = 1 := by omega
    rcases this with rfl | rfl
    · exact ⟨_, rfl, by omega, by omega⟩
    · exact ⟨_, rfl, by omega, by omega⟩
  refine ⟨l, _, _, _, rfl, rfl, SqL.of hl2, hb, ?_⟩
  refine ⟨_, rfl, p, _, _, rfl, p2, by omega, by decide, by decide, fun r3 H3 r30 r31 p3 x3 => ⟨_, _, rfl, rfl, _, rfl, ?_⟩⟩
  refine ⟨_, rfl, p, _, _, rfl, p3, by omega, by decide, by decide, fun r4 H4 r40 r41 p4 x4 => ⟨lz 2 rfl, fun l' hl' => ?_⟩⟩
  have s4 := same_new hl' (.lst [.int 60, .int r4])
  refine ⟨_, rfl, p, _, _, rfl, p4.same s4, by omega, by decide, by decide, fun r5 H5 r50 r51 p5 x5 => ?_⟩
  have hl5 := (p4.same s4).keep x5 upd_same
  obtain ⟨kk, hk, k0, k1⟩ : ∃ b : Int, atI [V.int 60, .int r4] r5 = some (.int b) ∧ 0 ≤ b ∧ b ≤ 60 := by
    have : r5 = 0 ∨ r5 = 1 := by omega
    rcases this with rfl | rfl
    · exact ⟨_, rfl, by omega, by omega⟩
    · exact ⟨_, rfl, by omega, by omega⟩
  refine ⟨l', _, _, _, rfl, rfl, SqL.of hl5, hk, lz 3 rfl, fun t ht => ?_⟩
  have s6 := same_new ht (.tup [.int (1 + r3), .int b, .int kk])
  refine k t (1 + r3).toNat b.toNat kk.toNat _ ?_ ⟨by omega, by omega, by omega, by omega, by omega, by omega⟩ ((p5.same s6).mono (by omega)) (x1.trans ((Same.x s1).trans (x2.trans (x3.trans (x4.trans ((Same.x s4).trans (x5.trans (Same.x s6))))))))
  rw [upd_same, show (((1 + r3).toNat : Nat) : Int) = 1 + r3 by omega, show ((b.toNat : Nat) : Int) = b by omega, show ((kk.toNat : Nat) : Int) = kk by omega]
end
end My

set_option Elab.async false
set_option linter.all false
set_option maxRecDepth 100000
set_option maxHeartbeats 4000000
namespace My
open PySem L2 MA Srt
/-! the mathematics: weights by the program, weights by the law -/
theorem gain_mem {c : List Int} {n : Nat} {l : List Int} {q : List Int × Int} (h : q ∈ gainF c n l) : ∃ r, r < n ∧ q = (putL l r, c.getD r 0) ∧ 0 < c.getD r 0 := by
  unfold gainF at h
  obtain ⟨r, hr, hq⟩ := List.mem_flatMap.mp h
  split at hq
  · rename_i z
    exact ⟨r, List.mem_range.mp hr, List.mem_singleton.mp hq, z⟩
  · simp at hq
theorem put_ld {l : List Int} {n : Nat} {b : Int} (h : LdOk l n b) {r : Nat} (hr : r < n) : LdOk (putL l r) n (b + 1) := by
  have hl : r < l.length := by rw [h.len]; exact hr
  refine ⟨by rw [putL_len, h.len], fun x hx => nn_set1 h.nn x ((fall_perm _).mem_iff.mp hx), fall_down _, ?_⟩
  unfold putL
  rw [sum_perm (fall_perm _), sum_set1 hl, h.sum]
theorem sumAt_pos {rows : Mp} (h : ∀ q ∈ rows, 0 < q.2) {k : List Int} (hk : k ∈ keysM rows) : 0 < sumAt rows k := by
  unfold sumAt
  induction rows with
  | nil => simp [keysM] at hk
  | cons r rows ih =>
    have nn : ∀ (l : Mp), (∀ q ∈ l, 0 < q.2) → 0 ≤ (l.map fun r => if r.1 = k then r.2 else 0).sum := by
      intro l
      induction l with
      | nil => intro _; simp
      | cons q l ih =>
        intro h
        rw [List.map_cons, List.sum_cons]
        have h1 := ih fun x hx => h x (by simp [hx])
        have h2 := h q (by simp)
        split <;> omega
    rw [List.map_cons, List.sum_cons]
    have h1 := nn rows fun x hx => h x (by simp [hx])
    have h2 := h r (by simp)
    by_cases e : r.1 = k
    · rw [if_pos e]; omega
    · rw [if_neg e]
      have : k ∈ keysM rows := by
        simp only [keysM, List.map_cons, List.mem_cons] at hk
        rcases hk with z | z
        · exact absurd z.symm e
        · exact z
      have := ih (fun x hx => h x (by simp [hx])) this
      omega
theorem get_of_mem {m : Mp} (nd : (keysM m).Nodup) (pos : ∀ k ∈ keysM m, 0 < getM m k) : ∀ p ∈ m, 0 < p.2 := fun p hp => by
  rw [← getM_mem nd hp]; exact pos _ (List.mem_map_of_mem hp)
theorem come_cnt {w : List Int} {m : Mp} {n : Nat} {b hi : Int} (h : Cnt m n b hi) (hw : w.length = n) (w0 : ∀ x ∈ w, 0 ≤ x) : Cnt (comeF w m) n (b + 1) ((valsM m).sum * w.sum) ∧ (valsM (comeF w m)).sum = (valsM m).sum * w.sum := by
  have pm := get_of_mem h.nd h.pos
  have rp : ∀ q ∈ rowsM m (gainF w w.length), 0 < q.2 := by
    intro q hq
    unfold rowsM at hq
    obtain ⟨p, hp, hq⟩ := List.mem_flatMap.mp hq
    obtain ⟨g, hg, rfl⟩ := List.mem_map.mp hq
    obtain ⟨r, _, rfl, z⟩ := gain_mem hg
    exact Int.mul_pos (pm p hp) z
  have es : (valsM (comeF w m)).sum = (valsM m).sum * w.sum := by
    unfold comeF
    rw [gath_sum, vals_rows]
    exact tot_const fun k _ => gain_vals w0 k
  refine ⟨⟨gath_nodup _, fun k hk => ?_, fun k hk => ?_, by rw [es]; exact Int.le_refl _⟩, es⟩
  · unfold comeF at hk
    rw [gath_keys, keys_rows] at hk
    obtain ⟨l, hl, hk⟩ := hk
    obtain ⟨q, hq, rfl⟩ := List.mem_map.mp hk
    obtain ⟨r, hr, rfl, _⟩ := gain_mem hq
    exact put_ld (h.ld l hl) (by omega)
  · unfold comeF at hk ⊢
    rw [gath_keys] at hk
    rw [gath_get]
    exact sumAt_pos rp hk
theorem it_cnt {w : List Int} {m : Mp} {n : Nat} {b hi : Int} (h : Cnt m n b hi) (hw : w.length = n) (w0 : ∀ x ∈ w, 0 ≤ x) : ∀ k : Nat, Cnt (itF w k m) n (b + k) ((valsM m).sum * w.sum ^ k) ∧ (valsM (itF w k m)).sum = (valsM m).sum * w.sum ^ k
  | 0 => ⟨⟨h.nd, fun k hk => by have := h.ld k hk; simpa [itF] using this, h.pos, by simp [itF]⟩, by simp [itF]⟩
  | k + 1 => by
    obtain ⟨c, e⟩ := it_cnt h hw w0 k
    obtain ⟨c2, e2⟩ := come_cnt c hw w0
    have ee : (valsM (itF w (k + 1) m)).sum = (valsM m).sum * w.sum ^ (k + 1) := by
      show (valsM (comeF w (itF w k m))).sum = _
      rw [e2, e, Int.pow_succ, Int.mul_assoc]
    refine ⟨⟨c2.nd, fun k' hk => ?_, c2.pos, by rw [ee]; exact Int.le_refl _⟩, ee⟩
    have := c2.ld k' hk
    rw [show b + ((k + 1 : Nat) : Int) = b + (k : Int) + 1 by omega]
    exact this
theorem le_sum {m : Mp} (nd : (keysM m).Nodup) (pos : ∀ k ∈ keysM m, 0 < getM m k) {k : List Int} : getM m k ≤ (valsM m).sum := by
  have key : ∀ (m : Mp), (∀ p ∈ m, 0 < p.2) → 0 ≤ (valsM m).sum ∧ getM m k ≤ (valsM m).sum := by
    intro m
    induction m with
    | nil => intro _; simp [valsM, getM_nil]
    | cons p m ih =>
      intro h
      obtain ⟨h1, h2⟩ := ih fun x hx => h x (by simp [hx])
      have h3 := h p (by simp)
      rw [getM_cons]
      have : (valsM (p :: m)).sum = p.2 + (valsM m).sum := by simp [valsM]
      rw [this]
      split <;> omega
  exact (key m (get_of_mem nd pos)).2
/-- the rule of weights, the spread of a table -/
def ruleQ (w : List Int) : List Rat := w.map fun x => Rat.divInt x w.sum
theorem bot_dvd {qs : List Rat} {S : Int} (hS : 0 < S) (h : ∀ q ∈ qs, ∃ t, q = Rat.divInt t S) : botF qs ∣ S ∧ 0 < botF qs ∧ (∀ q ∈ qs, (q.den : Int) ∣ botF qs) := by
  obtain ⟨h1, _, h3⟩ := lq_fold qs 1 (by decide)
  refine ⟨lq_dvd qs 1 S (by decide) hS (Int.one_dvd _) fun q hq => ?_, h1, h3⟩
  obtain ⟨t, rfl⟩ := h q hq
  have := share_pos (t := t) hS
  rw [← this.2]
  exact Int.ediv_dvd_of_dvd (gI_dvd_right t S)
theorem tp_getD (L : Int) (qs : List Rat) (r : Nat) : (tpF L qs).getD r 0 = match qs[r]? with | some q => q.num * (L / (q.den : Int)) | none => 0 := by
  unfold tpF
  rw [List.getD_eq_getElem?_getD, List.getElem?_map]
  cases qs[r]? <;> rfl
theorem rule_tp {w : List Int} (hS : 0 < w.sum) (r : Nat) : (tpF (botF (ruleQ w)) (ruleQ w)).getD r 0 * w.sum = w.getD r 0 * botF (ruleQ w) := by
  obtain ⟨_, _, hd⟩ := bot_dvd hS (qs := ruleQ w) fun q hq => by obtain ⟨x, _, rfl⟩ := List.mem_map.mp hq; exact ⟨x, rfl⟩
  rw [tp_getD]
  have e : (ruleQ w)[r]? = (w[r]?).map fun x => Rat.divInt x w.sum := by unfold ruleQ; rw [List.getElem?_map]
  rw [e, List.getD_eq_getElem?_getD]
  cases hx : w[r]? with
  | none => simp
  | some x =>
    show (Rat.divInt x w.sum).num * _ * w.sum = x * _
    refine tp_at (hd _ ?_) hS rfl
    unfold ruleQ
    exact List.mem_map.mpr ⟨x, List.mem_of_getElem? hx, rfl⟩
theorem wt_get {B : Int} {rs : Spd} (nd : (rs.map (·.1)).Nodup) {r : List Int × Rat} (h : r ∈ rs) : getM (wtF B rs) r.1 = r.2.num * (B / (r.2.den : Int)) := by
  have : (r.1, r.2.num * (B / (r.2.den : Int))) ∈ wtF B rs := List.mem_map.mpr ⟨r, h, rfl⟩
  exact getM_mem (p := (r.1, r.2.num * (B / (r.2.den : Int)))) (by rw [wt_keys]; exact nd) this
theorem spr_keys (m : Mp) (W : Int) : (sprF m W).map (·.1) = rise (keysM m) := by unfold sprF; rw [List.map_map]; exact List.map_id _
theorem like0 {F : Mp} (nd : (keysM F).Nodup) {W : Int} (hW : 0 < W) : Like (wtF (botF ((sprF F W).map (·.2))) (sprF F W)) F W (botF ((sprF F W).map (·.2))) := by
  have nk : ((sprF F W).map (·.1)).Nodup := by rw [spr_keys]; exact (rise_perm _).nodup_iff.mpr nd
  obtain ⟨_, _, hd⟩ := bot_dvd hW (qs := (sprF F W).map (·.2)) fun q hq => by
    obtain ⟨r, hr, rfl⟩ := List.mem_map.mp hq
    obtain ⟨k, _, rfl⟩ := List.mem_map.mp hr
    exact ⟨_, rfl⟩
  refine ⟨by rw [wt_keys]; exact nk, nd, fun k => by rw [wt_keys, spr_keys]; exact (rise_perm _).mem_iff, fun k => ?_⟩
  by_cases hk : k ∈ keysM F
  · have hr : (k, Rat.divInt (getM F k) W) ∈ sprF F W := List.mem_map.mpr ⟨k, (rise_perm _).mem_iff.mpr hk, rfl⟩
    have e := wt_get (B := botF ((sprF F W).map (·.2))) nk hr
    rw [e]
    exact tp_at (hd _ (List.mem_map_of_mem hr)) hW rfl
  · rw [getM_absent hk, getM_absent (by rw [wt_keys, spr_keys]; exact fun z => hk ((rise_perm _).mem_iff.mp z))]
    omega
theorem like_it {w : List Int} {F : Mp} (nd : (keysM F).Nodup) (hS : 0 < w.sum) {W : Int} (hW : 0 < W) : ∀ k : Nat, Like (itF (tpF (botF (ruleQ w)) (ruleQ w)) k (wtF (botF ((sprF F W).map (·.2))) (sprF F W))) (itF w k F) (W * w.sum ^ k) (botF ((sprF F W).map (·.2)) * botF (ruleQ w) ^ k)
  | 0 => by simpa [itF] using like0 nd hW
  | k + 1 => by
    have L := like_it nd hS hW k
    have hb := (bot_dvd hS (qs := ruleQ w) fun q hq => by obtain ⟨x, _, rfl⟩ := List.mem_map.mp hq; exact ⟨x, rfl⟩).2.1
    have cl : (tpF (botF (ruleQ w)) (ruleQ w)).length = w.length := by simp [tpF, ruleQ]
    have g := fun l => gain_like hS hb (rule_tp hS) w.length l
    have := L.step (u := w.sum) (v := botF (ruleQ w)) (g := gainF (tpF (botF (ruleQ w)) (ruleQ w)) w.length) (h := gainF w w.length) (fun l _ => (g l).1) (fun l _ => (g l).2)
    rw [Int.pow_succ, Int.pow_succ, ← Int.mul_assoc, ← Int.mul_assoc]
    unfold itF comeF
    rw [cl]
    exact this
theorem pow_pos' {a : Int} (h : 0 < a) (k : Nat) : 0 < a ^ k := Int.pow_pos h
theorem after_eq {w : List Int} {F : Mp} (nd : (keysM F).Nodup) (hS : 0 < w.sum) {W : Int} (hW : 0 < W) (k : Nat) : afterF (ruleQ w) (sprF F W) k = sprF (itF w k F) (W * w.sum ^ k) := by
  have hb := (bot_dvd hS (qs := ruleQ w) fun q hq => by obtain ⟨x, _, rfl⟩ := List.mem_map.mp hq; exact ⟨x, rfl⟩).2.1
  have hB := (lq_fold ((sprF F W).map (·.2)) 1 (by decide)).1
  unfold afterF
  exact spr_like (like_it nd hS hW k) (Int.mul_pos hW (pow_pos' hS k)) (Int.mul_pos hB (pow_pos' hb k)) (Int.mul_pos hW (pow_pos' hS k)) rfl
end My

set_option Elab.async false
set_option linter.all false
set_option maxRecDepth 100000
set_option maxHeartbeats 4000000
namespace My
open PySem L2 MA Srt
theorem len_le {α : Type} [DecidableEq α] : ∀ {a b : List α}, a.Nodup → (∀ x ∈ a, x ∈ b) → a.length ≤ b.length
  | [], _, _, _ => Nat.zero_le _
  | x :: a, b, nd, h => by
    have hx := h x (by simp)
    have := len_le (a := a) (b := b.erase x) (List.nodup_cons.mp nd).2 fun y hy => by
      have ne : y ≠ x := fun z => (List.nodup_cons.mp nd).1 (z ▸ hy)
      exact (List.mem_erase_of_ne ne).mpr (h y (by simp [hy]))
    rw [List.length_erase_of_mem hx] at this
    have : 0 < b.length := List.length_pos_of_mem hx
    simp; omega
/-- all loads, and how many -/
def allL : Nat → Nat → Nat → List (List Int)
  | 0, b, _ => if b = 0 then [[]] else []
  | n + 1, b, mx => (List.range (min b mx + 1)).flatMap fun x => (allL n (b - x) x).map fun l => (x : Int) :: l
def cntL : Nat → Nat → Nat → Nat
  | 0, b, _ => if b = 0 then 1 else 0
  | n + 1, b, mx => ((List.range (min b mx + 1)).map fun x => cntL n (b - x) x).sum
theorem all_cnt : ∀ n b mx, (allL n b mx).length = cntL n b mx
  | 0, b, _ => by unfold allL cntL; split <;> rfl
  | n + 1, b, mx => by
    unfold allL cntL
    rw [List.length_flatMap]
    congr 1
    exact List.map_congr_left fun x _ => by rw [List.length_map, all_cnt n]
theorem sum_nnI {l : List Int} (h : ∀ x ∈ l, 0 ≤ x) : 0 ≤ l.sum := by
  induction l with
  | nil => simp
  | cons a l ih => rw [List.sum_cons]; have := ih fun x hx => h x (by simp [hx]); have := h a (by simp); omega
theorem all_mem : ∀ (n b mx : Nat) (l : List Int), LdOk l n b → (∀ x ∈ l, x ≤ mx) → l ∈ allL n b mx
  | 0, b, mx, l, h, _ => by
    have : l = [] := List.length_eq_zero_iff.mp h.len
    subst this
    have : b = 0 := by have := h.sum; simp at this; omega
    subst this
    simp [allL]
  | n + 1, b, mx, l, h, hm => by
    cases l with
    | nil => have := h.len; simp at this
    | cons a l =>
      have a0 := h.nn a (by simp)
      have hs := h.sum
      rw [List.sum_cons] at hs
      have s0 := sum_nnI (l := l) fun x hx => h.nn x (by simp [hx])
      have am := hm a (by simp)
      unfold allL
      rw [List.mem_flatMap]
      refine ⟨a.toNat, List.mem_range.mpr (by omega), List.mem_map.mpr ⟨l, all_mem n _ _ l ⟨by have := h.len; simpa using this, fun x hx => h.nn x (by simp [hx]), (List.pairwise_cons.mp h.dn).2, by omega⟩ fun x hx => ?_, ?_⟩⟩
      · have := (List.pairwise_cons.mp h.dn).1 x hx; omega
      · rw [show ((a.toNat : Nat) : Int) = a by omega]
theorem mem_le_sum {l : List Int} (h : ∀ x ∈ l, 0 ≤ x) : ∀ x ∈ l, x ≤ l.sum := by
  induction l with
  | nil => simp
  | cons a l ih =>
    intro x hx
    have := ih (fun x hx => h x (by simp [hx]))
    have s0 := sum_nnI (l := l) fun x hx => h x (by simp [hx])
    have a0 := h a (by simp)
    rw [List.sum_cons]
    rcases List.mem_cons.mp hx with rfl | hx
    · omega
    · have := this x hx; omega
theorem cap_cnt {m : Mp} {n b : Nat} {hi : Int} (h : Cnt m n b hi) : m.length ≤ cntL n b b := by
  rw [← all_cnt]
  have := len_le h.nd fun k hk => all_mem n b b k (h.ld k hk) fun x hx => by have := mem_le_sum (h.ld k hk).nn x hx; rw [(h.ld k hk).sum] at this; exact this
  simpa [keysM] using this
theorem cap12 : ∀ n : Fin 7, ∀ b : Fin 13, cntL n.val b.val b.val ≤ 60 := by decide +kernel
theorem cap2 : ∀ n : Fin 3, ∀ b : Fin 55, cntL n.val b.val b.val ≤ 60 := by decide +kernel
/-- all at one rank -/
def hotF (n lone : Nat) : List Int := (List.range n).map fun r => if r = lone then 1 else 0
theorem hot_getD {n lone r : Nat} (hr : r < n) : (hotF n lone).getD r 0 = if r = lone then 1 else 0 := by unfold hotF; simp [hr]
theorem hot_gain (N lone : Nat) (l : List Int) : ∀ n, n ≤ N → (gainF (hotF N lone) n l).length ≤ if lone < n then 1 else 0
  | 0, _ => by simp [gainF]
  | n + 1, h => by
    have ih := hot_gain N lone l n (by omega)
    rw [gain_succ, List.length_append, hot_getD (by omega)]
    by_cases e : n = lone
    · subst e
      rw [if_neg (by omega)] at ih
      rw [if_pos rfl, if_pos (by decide), if_pos (by omega)]
      simp only [List.length_cons, List.length_nil]; omega
    · rw [if_neg e, if_neg (by decide)]
      simp
      split at ih <;> split <;> omega
theorem hot_len (n lone : Nat) : (hotF n lone).length = n := by simp [hotF]
theorem hot_cap {m : Mp} (n lone : Nat) : ∀ j, (itF (hotF n lone) j m).length ≤ m.length
  | 0 => Nat.le_refl _
  | j + 1 => by
    have ih := hot_cap (m := m) n lone j
    have h1 := gath_len (rowsM (itF (hotF n lone) j m) (gainF (hotF n lone) (hotF n lone).length))
    have h2 := rows_len (itF (hotF n lone) j m) (gainF (hotF n lone) (hotF n lone).length) 1 fun l => by
      have := hot_gain n lone l n (Nat.le_refl _)
      rw [hot_len]
      split at this <;> omega
    show (comeF _ _).length ≤ _
    unfold comeF
    omega
theorem hot_sum {n lone : Nat} (h : lone < n) : (hotF n lone).sum = 1 := by
  have : ∀ n, ((List.range n).map fun r => if r = lone then (1 : Int) else 0).sum = if lone < n then 1 else 0 := by
    intro n
    induction n with
    | zero => simp
    | succ n ih =>
      rw [List.range_succ, List.map_append, List.sum_append, ih]
      by_cases e : n = lone
      · subst e; simp
      · simp [e]
        by_cases z : lone < n
        · rw [if_pos z, if_pos (by omega)]
        · rw [if_neg z, if_neg (by omega)]
  have := this n
  rw [if_pos h] at this
  exact this
theorem pow_le {a c : Int} (a0 : 0 ≤ a) (hac : a ≤ c) (c1 : 1 ≤ c) {j J : Nat} (h : j ≤ J) : a ^ j ≤ c ^ J := by
  have h1 : ∀ j, a ^ j ≤ c ^ j ∧ 0 ≤ a ^ j ∧ 1 ≤ c ^ j := by
    intro j
    induction j with
    | zero => simp
    | succ j ih =>
      rw [Int.pow_succ, Int.pow_succ]
      refine ⟨Int.mul_le_mul ih.1 hac a0 (by omega), Int.mul_nonneg ih.2.1 a0, ?_⟩
      have := Int.mul_le_mul ih.2.2 c1 (by decide) (by omega)
      simpa using this
  have h2 : c ^ j ≤ c ^ J := by
    obtain ⟨d, rfl⟩ : ∃ d, J = j + d := ⟨J - j, by omega⟩
    rw [Int.pow_add]
    have := Int.mul_le_mul (Int.le_refl (c ^ j)) (h1 d).2.2 (by decide) (by have := (h1 j).2.2; omega)
    simpa using this
  exact Int.le_trans (h1 j).1 h2
/-- weights, a table, how many balls: nothing grows too great -/
structure Caps (w : List Int) (F : Mp) (n b many : Nat) : Prop where
  cn : Cnt F n b 120
  ne : F ≠ []
  f4 : F.length ≤ 4
  wl : w.length = n
  n6 : n ≤ 6
  n1 : 1 ≤ n
  w0 : ∀ x ∈ w, 0 ≤ x ∧ x ≤ 100
  S0 : 0 < w.sum
  S1 : w.sum ≤ 600
  bk : b + many ≤ 100
  m60 : many ≤ 60
  len : ∀ j, j ≤ many ∨ j = 1 → (itF w j F).length ≤ 60
  num : ∀ j, j ≤ many ∨ j = 1 → 120 * w.sum ^ j < 664613997892457936451903530140172288
theorem sum_le {l : List Int} {n : Nat} {c : Int} (c0 : 0 ≤ c) (h : ∀ x ∈ l, x ≤ c) (hl : l.length ≤ n) : l.sum ≤ c * n := by
  induction l generalizing n with
  | nil => simp; exact Int.mul_nonneg c0 (by omega)
  | cons a l ih =>
    obtain ⟨k, rfl⟩ : ∃ k, n = k + 1 := ⟨n - 1, by simp at hl; omega⟩
    have := ih (n := k) (fun x hx => h x (by simp [hx])) (by simpa using hl)
    have h2 := h a (by simp)
    rw [List.sum_cons, show ((k + 1 : Nat) : Int) = (k : Int) + 1 by omega, Int.mul_add]
    omega
theorem len_one {w : List Int} {F : Mp} {n : Nat} (f4 : F.length ≤ 4) (wl : w.length = n) (n6 : n ≤ 6) : (itF w 1 F).length ≤ 60 := by
  have h1 := gath_len (rowsM F (gainF w w.length))
  have h2 := rows_len F (gainF w w.length) n fun l => by have := gain_len w w.length l; omega
  have h3 : F.length * n ≤ 4 * 6 := Nat.mul_le_mul f4 n6
  show (comeF _ _).length ≤ _
  unfold comeF
  show (gath (rowsM F (gainF w w.length))).length ≤ _
  omega
theorem caps_of {w : List Int} {F : Mp} {way n b many : Nat} (sz : Siz way n b many) (hw : way < 2) (cn : Cnt F n b 120) (ne : F ≠ []) (f4 : F.length ≤ 4) (wl : w.length = n) (w0 : ∀ x ∈ w, 0 ≤ x ∧ x ≤ 100) (S0 : 0 < w.sum) : Caps w F n b many := by
  have S1 : w.sum ≤ 100 * (n : Int) := sum_le (by decide) (fun x hx => (w0 x hx).2) (by omega)
  have n6 := sz.n6
  have := sz.n1
  have := sz.k60
  have := sz.b40
  refine ⟨cn, ne, f4, wl, n6, sz.n1, w0, S0, by omega, by omega, sz.k60, fun j hj => ?_, fun j hj => ?_⟩
  · rcases hj with hj | rfl
    case inr => exact len_one f4 wl n6
    obtain ⟨c, _⟩ := it_cnt cn wl (fun x hx => (w0 x hx).1) j
    have c' : Cnt (itF w j F) n ((b + j : Nat) : Int) ((valsM F).sum * w.sum ^ j) := ⟨c.nd, fun k hk => by have := c.ld k hk; simpa using this, c.pos, c.sum⟩
    have h1 := cap_cnt c'
    rcases (show way = 0 ∨ way = 1 by omega) with z | z
    · have := sz.w0 z
      exact Nat.le_trans h1 (cap12 ⟨n, by omega⟩ ⟨b + j, by omega⟩)
    · obtain ⟨h2, h3⟩ := sz.w1 z
      exact Nat.le_trans h1 (cap2 ⟨n, by omega⟩ ⟨b + j, by omega⟩)
  · rcases hj with hj | rfl
    case inr => rw [Int.pow_one]; omega
    rcases (show way = 0 ∨ way = 1 by omega) with z | z
    · have := sz.w0 z
      have h := pow_le (a := w.sum) (c := 600) (by omega) (by omega) (by decide) (j := j) (J := 12) (by omega)
      have e : (600 : Int) ^ 12 = 2176782336000000000000000000000000 := by decide
      rw [e] at h; omega
    · obtain ⟨h2, h3⟩ := sz.w1 z
      have h := pow_le (a := w.sum) (c := 200) (by omega) (by omega) (by decide) (j := j) (J := 14) (by omega)
      have e : (200 : Int) ^ 14 = 163840000000000000000000000000000 := by decide
      rw [e] at h; omega
theorem caps_hot {F : Mp} {way n b many lone : Nat} (sz : Siz way n b many) (cn : Cnt F n b 120) (ne : F ≠ []) (f4 : F.length ≤ 4) (hl : lone < n) : Caps (hotF n lone) F n b many := by
  have e := hot_sum hl
  have := sz.k60
  have := sz.b40
  refine ⟨cn, ne, f4, hot_len n lone, sz.n6, sz.n1, fun x hx => ?_, by omega, by omega, by omega, sz.k60, fun j hj => by have := hot_cap (m := F) n lone j; omega, fun j hj => by rw [e, Int.one_pow]; decide⟩
  obtain ⟨r, _, rfl⟩ := List.mem_map.mp hx
  split <;> decide
end My

set_option Elab.async false
set_option linter.all false
set_option maxRecDepth 100000
set_option maxHeartbeats 4000000
namespace My
open PySem L2 MA Srt
theorem i36c {x : Int} (h : Bt 119 x) : I36 x := Nat.lt_trans (intBits_le_iff.mp h) (by decide)
theorem vals_nn {m : Mp} (nd : (keysM m).Nodup) (pos : ∀ k ∈ keysM m, 0 < getM m k) : ∀ x ∈ valsM m, 0 < x := by
  intro x hx
  obtain ⟨p, hp, rfl⟩ := List.mem_map.mp hx
  exact get_of_mem nd pos p hp
theorem sum_pos {l : List Int} (h : ∀ x ∈ l, 0 < x) (ne : l ≠ []) : 0 < l.sum := by
  cases l with
  | nil => exact absurd rfl ne
  | cons a l =>
    have := sum_nnI (l := l) fun x hx => Int.le_of_lt (h x (by simp [hx]))
    have := h a (by simp)
    rw [List.sum_cons]; omega
theorem Cnt.W0 {m : Mp} {n : Nat} {b hi : Int} (h : Cnt m n b hi) (ne : m ≠ []) : 0 < (valsM m).sum := sum_pos (vals_nn h.nd h.pos) (by simpa [valsM] using ne)
theorem bt119 {x : Int} (h0 : 0 ≤ x) (h : x < 664613997892457936451903530140172288) : Bt 119 x := Bt.of_lt (by
  have e : (2 : Nat) ^ 119 = 664613997892457936451903530140172288 := by decide
  rw [e]; omega)
section
variable {w : List Int} {F : Mp} {n b many : Nat}
theorem Caps.nn (C : Caps w F n b many) : ∀ x ∈ w, 0 ≤ x := fun x hx => (C.w0 x hx).1
theorem Caps.at (C : Caps w F n b many) (j : Nat) : Cnt (itF w j F) n (b + j) ((valsM F).sum * w.sum ^ j) ∧ (valsM (itF w j F)).sum = (valsM F).sum * w.sum ^ j := it_cnt C.cn C.wl C.nn j
theorem Caps.W1 (C : Caps w F n b many) : 0 < (valsM F).sum ∧ (valsM F).sum ≤ 120 := ⟨C.cn.W0 C.ne, C.cn.sum⟩
theorem Caps.big (C : Caps w F n b many) {j : Nat} (hj : j ≤ many ∨ j = 1) : 0 < (valsM F).sum * w.sum ^ j ∧ (valsM F).sum * w.sum ^ j < 664613997892457936451903530140172288 := by
  have h := C.num j hj
  have p := pow_pos' C.S0 j
  have := Int.mul_le_mul_of_nonneg_right C.W1.2 (Int.le_of_lt p)
  exact ⟨Int.mul_pos C.W1.1 p, by omega⟩
theorem Caps.fit (C : Caps w F n b many) {j : Nat} (hj : j ≤ many ∨ j = 1) : Fit (ruleQ w) (sprF F (valsM F).sum) j := by
  obtain ⟨W0, W1⟩ := C.W1
  have S0 := C.S0
  have S1 := C.S1
  have hq : ∀ q ∈ ruleQ w, ∃ t, q = Rat.divInt t w.sum := fun q hq => by obtain ⟨x, _, rfl⟩ := List.mem_map.mp hq; exact ⟨x, rfl⟩
  have hr : ∀ q ∈ (sprF F (valsM F).sum).map (·.2), ∃ t, q = Rat.divInt t (valsM F).sum := fun q hq => by
    obtain ⟨r, hr, rfl⟩ := List.mem_map.mp hq
    obtain ⟨k, _, rfl⟩ := List.mem_map.mp hr
    exact ⟨_, rfl⟩
  have b1 := bot_dvd S0 hq
  have b2 := bot_dvd W0 hr
  have b1' := Int.le_of_dvd S0 b1.1
  have b2' := Int.le_of_dvd W0 b2.1
  have kl : ∀ r ∈ sprF F (valsM F).sum, r.1 ∈ keysM F := fun r hr => by
    obtain ⟨k, hk, rfl⟩ := List.mem_map.mp hr
    exact (rise_perm _).mem_iff.mp hk
  have sl : (sprF F (valsM F).sum).length = F.length := by
    unfold sprF
    rw [List.length_map, (rise_perm _).length_eq]
    simp [keysM]
  have rl : (ruleQ w).length = n := by simp [ruleQ, C.wl]
  have bs : ∀ x : Int, 0 ≤ x → x ≤ 600 → Bt 50 x := fun x h0 h1 => Bt.of_lt (Nat.lt_of_le_of_lt (m := 600) (by omega) (by decide))
  have lk := fun i => like_it C.cn.nd S0 W0 (w := w) i
  refine ⟨?_, ?_, ?_, ?_, ?_, ?_, ?_, ?_, ?_, ?_, ?_, ?_⟩
  · intro e
    have := congrArg List.length e
    rw [sl] at this
    exact C.ne (List.length_eq_zero_iff.mp this)
  · rw [spr_keys]; exact (rise_perm _).nodup_iff.mpr C.cn.nd
  · intro r hr; rw [(C.cn.ld _ (kl r hr)).len, rl]
  · rw [rl]; exact C.n6
  · intro r hr
    obtain ⟨k, hk, rfl⟩ := List.mem_map.mp hr
    have hk' := (rise_perm _).mem_iff.mp hk
    have := C.cn.pos k hk'
    have := le_sum C.cn.nd C.cn.pos (k := k)
    exact SB.divInt (bs _ (by omega) (by omega)) (bs _ (by omega) (by omega)) W0
  · intro q hq
    obtain ⟨x, hx, rfl⟩ := List.mem_map.mp hq
    have := C.w0 x hx
    exact SB.divInt (bs _ (by omega) (by omega)) (bs _ (by omega) (by omega)) S0
  · rw [sl]; have := C.f4; omega
  · omega
  · omega
  · have := C.m60; omega
  · intro i hi
    have e := (perm_of_mem (lk i).np (lk i).nf (lk i).keys).length_eq
    simp only [keysM, List.length_map] at e
    rw [e]
    exact C.len i (by omega)
  · intro i hi x hx
    obtain ⟨p, hp, rfl⟩ := List.mem_map.mp hx
    have hk : p.1 ∈ keysM (itF w i F) := ((lk i).keys p.1).mp (List.mem_map_of_mem hp)
    have hv := (lk i).vals p.1
    rw [getM_mem (lk i).np hp] at hv
    have c := C.at i
    have g0 := c.1.pos _ hk
    have g1 := le_sum c.1.nd c.1.pos (k := p.1)
    rw [c.2] at g1
    have bg := C.big (j := i) (by omega)
    have y0 : 0 < botF ((sprF F (valsM F).sum).map (·.2)) * botF (ruleQ w) ^ i := Int.mul_pos b2.2.1 (pow_pos' b1.2.1 i)
    have y1 : botF ((sprF F (valsM F).sum).map (·.2)) * botF (ruleQ w) ^ i ≤ (valsM F).sum * w.sum ^ i :=
      Int.mul_le_mul b2' (pow_le (Int.le_of_lt b1.2.1) b1' (by omega) (Nat.le_refl i)) (Int.le_of_lt (pow_pos' b1.2.1 i)) (Int.le_of_lt W0)
    generalize botF ((sprF F (valsM F).sum).map (·.2)) * botF (ruleQ w) ^ i = y at hv y0 y1
    generalize (valsM F).sum * w.sum ^ i = z at hv g1 bg y1
    have x0 : 0 < p.2 := pos_of (b := z) (by rw [hv]; exact Int.mul_pos g0 y0) bg.1
    have x1 : p.2 ≤ getM (itF w i F) p.1 := by
      rcases Int.lt_or_le (getM (itF w i F) p.1) p.2 with h | h
      · have h1 := Int.mul_lt_mul_of_pos_right h bg.1
        have h2 := Int.mul_le_mul_of_nonneg_left y1 (Int.le_of_lt g0)
        omega
      · exact h
    exact (bt119 (by omega) (by omega)).mono (by decide)
/-! what it is shown as -/
theorem noD {α : Type} (f : α → PyData) (h : ∀ a, (f a).hasDict = false) : ∀ l : List α, PyData.hasDictAll (l.map f) = false
  | [] => rfl
  | a :: l => by simp [PyData.hasDictAll, h a, noD f h l, -List.map_map]
theorem depL {α : Type} (f : α → PyData) (c : Nat) (h : ∀ a, (f a).depth ≤ c) : ∀ l : List α, PyData.depthAll (l.map f) ≤ c
  | [] => Nat.zero_le _
  | a :: l => by have := h a; have := depL f c h l; simp only [List.map_cons, PyData.depthAll]; omega
theorem rw_noD (r : List Int × Rat) : (dRw r).hasDict = false := by simp [dRw, PyData.hasDict, PyData.hasDictAll, noDict_ints, -List.map_map]
theorem rw_dep (r : List Int × Rat) : (dRw r).depth ≤ 2 := by
  simp only [dRw, PyData.depth, PyData.depthAll, depth_ints]; omega
theorem sm_sp {rs : Spd} (h : ∀ r ∈ rs, r.1.length ≤ 6 ∧ (∀ x ∈ r.1, I36 x) ∧ SB 119 r.2) (hl : rs.length ≤ 60) : Sm 4000 (dSp rs) := by
  refine sm_list (n := 60) (fun d hd => ?_) (noD dRw rw_noD rs) (by decide) (by rw [List.length_map]; omega)
  obtain ⟨r, hr, rfl⟩ := List.mem_map.mp hd
  obtain ⟨h1, h2, h3⟩ := h r hr
  refine sm_tup (n := 20) (fun d hd => ?_) (by simp [PyData.hasDict, PyData.hasDictAll, noDict_ints, -List.map_map]) (by decide) (show 2 * (20 + 1) ≤ 60 by decide)
  simp only [List.mem_cons, List.not_mem_nil, or_false] at hd
  rcases hd with rfl | rfl
  · exact sm_ints h2 (by decide) (by omega)
  · exact sm_tup (n := 2) (by simpa using ⟨sm_int36 (i36c h3.1) 2, sm_int36 (i36c h3.2) 2⟩) rfl (by decide) (show 2 * (2 + 1) ≤ 20 by decide)
theorem dep_sp (rs : Spd) : (dSp rs).depth ≤ 3 := by
  have := depL dRw 2 rw_dep rs
  simp only [dSp, PyData.depth]; omega
theorem Caps.rows (C : Caps w F n b many) {j : Nat} (hj : j ≤ many ∨ j = 1) : (∀ r ∈ sprF (itF w j F) ((valsM F).sum * w.sum ^ j), r.1.length ≤ 6 ∧ (∀ x ∈ r.1, I36 x) ∧ SB 119 r.2) ∧ (sprF (itF w j F) ((valsM F).sum * w.sum ^ j)).length ≤ 60 := by
  have c := C.at j
  have bg := C.big hj
  refine ⟨fun r hr => ?_, ?_⟩
  · obtain ⟨k, hk, rfl⟩ := List.mem_map.mp hr
    have hk' := (rise_perm _).mem_iff.mp hk
    have ld := c.1.ld k hk'
    have g0 := c.1.pos k hk'
    have g1 := le_sum c.1.nd c.1.pos (k := k)
    rw [c.2] at g1
    refine ⟨by rw [ld.len]; exact C.n6, fun x hx => ?_, SB.divInt (bt119 (by omega) (by omega)) (bt119 (by omega) (by omega)) bg.1⟩
    have x1 := mem_le_sum ld.nn x hx
    have x0 := ld.nn x hx
    rw [ld.sum] at x1
    have := C.bk
    have := C.m60
    exact i36c (bt119 x0 (by omega))
  · unfold sprF
    rw [List.length_map, (rise_perm _).length_eq]
    simpa [keysM] using C.len j hj
theorem Caps.good (C : Caps w F n b many) {j : Nat} (hj : j ≤ many ∨ j = 1) : Good (dSp (sprF (itF w j F) ((valsM F).sum * w.sum ^ j))) :=
  (sm_sp (C.rows hj).1 (C.rows hj).2).good (by decide) (Nat.le_trans (dep_sp _) (by decide))
def dRl (qs : List Rat) : PyData := .tuple ((qs.map prq).map dp)
def dKp (qs : List Rat) (rs : Spd) : PyData := .tuple [dRl qs, dSp rs]
theorem Caps.kept (C : Caps w F n b many) : Good (dKp (ruleQ w) (sprF F (valsM F).sum)) := by
  have h0 := C.rows (j := 0) (.inl (Nat.zero_le _))
  simp only [itF, Int.pow_zero, Int.mul_one] at h0
  have f := C.fit (j := 0) (.inl (Nat.zero_le _))
  have rl : Sm 4000 (dRl (ruleQ w)) := by
    refine sm_tup (n := 6) (fun d hd => ?_) (by rw [noDict_ps]; rfl) (by decide) (by rw [List.length_map, List.length_map]; have := f.q6; omega)
    rw [List.map_map] at hd
    obtain ⟨q, hq, rfl⟩ := List.mem_map.mp hd
    have h := (f.sq q hq).mono (n := 119) (by decide)
    exact sm_tup (ds := [.int q.num, .int (q.den : Int)]) (n := 2) (by simpa using ⟨sm_int36 (i36c h.1) 2, sm_int36 (i36c h.2) 2⟩) rfl (by decide) (show 2 * (2 + 1) ≤ 6 by decide)
  have t : Sm 10000 (dKp (ruleQ w) (sprF F (valsM F).sum)) := sm_tup (n := 4000) (by simpa using ⟨rl, sm_sp h0.1 h0.2⟩) (by simp [PyData.hasDictAll, PyData.hasDict, dRl, noDict_ps, dSp, noD dRw rw_noD, -List.map_map]) (by decide) (show 2 * (4000 + 1) ≤ 10000 by decide)
  refine t.good (by decide) ?_
  have := dep_sp (sprF F (valsM F).sum)
  have := depth_ps ((ruleQ w).map prq)
  simp only [dKp, dRl, PyData.depth, PyData.depthAll]
  omega
end
theorem rule_prs {w : List Int} (hS : 0 < w.sum) : ruleF w = (ruleQ w).map prq := by
  unfold ruleF ruleQ
  rw [List.map_map]
  exact List.map_congr_left fun x _ => low_q hS
end My

set_option Elab.async false
set_option linter.all false
set_option maxRecDepth 100000
set_option maxHeartbeats 800000
namespace My
open PySem L2 MA Srt
theorem joinB {α β : Type} {C R : α → β → Hp → Prop} {G : Prop} (main : (∀ a b h, C a b h → R a b h) → G) (key : ∀ a b h, C a b h → R a b h) : G := main key
theorem first_at {M : Int} : ∀ {ns : List Int}, M ∈ ns → ∃ j, j < ns.length ∧ eqV ((ns.map V.int).getD j .non) (.int M) = true ∧ ∀ m, m < j → eqV ((ns.map V.int).getD m .non) (.int M) = false
  | [], h => by simp at h
  | a :: ns, h => by
    by_cases e : a = M
    · subst e
      exact ⟨0, by simp, by simp [eqV], fun m hm => absurd hm (by omega)⟩
    · obtain ⟨j, h1, h2, h3⟩ := first_at (ns := ns) (M := M) (by simpa [Ne.symm e] using h)
      refine ⟨j + 1, by simp; omega, by simpa using h2, fun m hm => ?_⟩
      cases m with
      | zero => simp [eqV, e]
      | succ m => have := h3 m (by omega); simpa using this
theorem it0 (w : List Int) (F : Mp) : itF w 0 F = F := rfl
theorem it1 (w : List Int) (j : Nat) (F : Mp) : itF w (j + 1) F = comeF w (itF w j F) := rfl
theorem flat_iv (ns : List Int) : (ns.map V.int).all flatV = true := by simp [flatV]
theorem hot_take {n lone j : Nat} (h : j < n) : (hotF n lone).take (j + 1) = (hotF n lone).take j ++ [if j = lone then 1 else 0] := by
  have hl : j < (hotF n lone).length := by rw [hot_len]; exact h
  rw [List.take_succ_eq_append_getElem hl]
  congr 2
  simp [hotF]
theorem one_spr (l : List Int) : sprF [(l, 1)] (valsM [(l, 1)]).sum = [(l, 1)] := by
  have : rise [l] = [l] := by simp [rise]
  unfold sprF
  rw [show keysM [(l, 1)] = [l] from rfl, this]
  simp only [List.map_cons, List.map_nil]
  rw [getM_cons, if_pos rfl]
  show [(l, Rat.divInt 1 (1 + 0))] = _
  congr 2
theorem one_bt (l : List Int) : Bt 8000 (valsM [(l, 1)]).sum := by
  have : (valsM [(l, 1)]).sum = 1 := by simp [valsM]
  rw [this]
  exact (Bt.of_lt (n := 1) (by decide)).mono (by decide)
theorem one_cnt {l : List Int} {n b : Nat} (h : LdOk l n b) : Cnt [(l, 1)] n b 120 := by
  refine ⟨by simp [keysM], fun k hk => ?_, fun k hk => ?_, by simp [valsM]⟩
  · have : k = l := by simpa [keysM] using hk
    subst this; exact h
  · have : k = l := by simpa [keysM] using hk
    subst this
    rw [getM_cons, if_pos rfl]; exact (by decide : (0 : Int) < 1)
theorem data_kp {H : Hp} {t r l : Addr} {xs : List V} {qs : List Rat} {rs : Spd} (ht : H t = some (.tup [.ref r, .ref l])) (hr : H r = some (.tup xs)) (hx : Shs H xs qs) (hl : SpAt H l rs) : DataV H (.ref t) (dKp qs rs) :=
  .tup ht (.cons (.tup hr (prs_of hx).data) (.cons (sp_data hl) .nil))
theorem k_ne {m : Mp} {n : Nat} {b hi : Int} (c : Cnt m n b hi) (n1 : 1 ≤ n) : ∀ k ∈ keysM m, k ≠ [] := fun k hk e => by
  have := (c.ld k hk).len
  rw [e] at this
  simp at this; omega
theorem opq {α : Type} (x : α) : ∃ y, y = x := ⟨x, rfl⟩
section
variable {P : Program} {w : World} {K : PySem.W.Frag} {mg : Str → Option Value} {base : Heap}
theorem ok_law (T : Txt2 mg) (C_l_pen : Cal P w K mg base "_law_pen" ["_law_script"] 1 (spPen K)) (C_l_draw : Cal P w K mg base "_law_draw" ["_law_pen_here", "_law_many"] 1 spDraw) (C_l_sizes : Cal P w K mg base "_law_sizes" ["_law_pen_here", "_law_way"] 2 spSizes) (C_l_counted : Cal P w K mg base "_law_counted" ["_law_pen_here", "_law_n", "_law_balls"] 3 spCounted) (C_l_weights : Cal P w K mg base "_law_weights" ["_law_pen_here", "_law_n"] 2 spWeights)
    (C_l_load : Cal P w K mg base "_law_load" ["_law_pen_here", "_law_n", "_law_balls"] 2 spLLoad) (C_alone : Cal P w K mg base "alone" ["load"] 1 spAlone) (C_l_spread : Cal P w K mg base "_law_spread" ["_law_found"] 3 spLSpread) (C_l_rule : Cal P w K mg base "_law_rule" ["_law_weights_here"] 3 spRule) (C_after : Cal P w K mg base "after" ["rule", "spread", "many"] 4 spAfter) (C_l_come : Cal P w K mg base "_law_come" ["_law_found", "_law_weights_here"] 1 spLCome) (C_put : Cal P w K mg base "put" ["rule", "spread"] 5 spPut)
    {fa : Addr} {fd : FuncData} (F : Fun K "law" "law" s_law fa fd) : FnOk P w K mg base CX0 6 fa fd ["_law_script"] (spLaw K) := by
  have S := sc_law
  refine F.ok sc_law (fun vs H Q E h => ?_) (fun cdv A outer s H vs Q E hr h => ?_)
  · obtain ⟨a, ns, rfl, _⟩ := h; rfl
  obtain ⟨a, ns, rfl, ha, hn, k⟩ := h
  have hu1 := hu_of hr
  have hu2 := hu2_of hr
  refine ⟨_, (@pss_cons _ _ _ _ _ (@ps_set _ _ (1) _ _ _ _ (by exact S.nd) (by rfl) (by first | exact Or.inl rfl | exact Or.inr rfl) (@cc _ _ _ _ _ _ _ _ _ _ (by exact C_l_pen) (by exact (hr.mono (by decide))) (@pa_consN _ _ _ _ _ (pv 0) pa_nil (by first|rfl|decide|exact .inl rfl|exact .inr rfl|(intros; rfl))) (by first|rfl|decide|exact .inl rfl|exact .inr rfl|(intros; rfl)) (by first|rfl|decide|exact .inl rfl|exact .inr rfl|(intros; rfl)) (by first|rfl|decide|exact .inl rfl|exact .inr rfl|(intros; rfl)) (by first|rfl|decide|exact .inl rfl|exact .inr rfl|(intros; rfl))) (by first|rfl|decide|exact .inl rfl|exact .inr rfl|(intros; rfl)) (by first|rfl|decide|exact .inl rfl|exact .inr rfl|(intros; rfl))) (@pss_cons _ _ _ _ _ (@ps_for _ _ _ _ _ _ _ _ (by exact PassesOwn.never) (by rfl) (@pi_range1 _ _ _ _ _ _ (by rfl) (by exact T.z_range) (@pa_consN _ _ _ _ _ pe_int pa_nil (by first|rfl|decide|exact .inl rfl|exact .inr rfl|(intros; rfl))) (by first|rfl|decide|exact .inl rfl|exact .inr rfl|(intros; rfl))) (@pg_name _ _ (2) _ (by exact S.nd) (by rfl) (by first | exact Or.inl rfl | exact Or.inr rfl) (by first|rfl|decide|exact .inl rfl|exact .inr rfl|(intros; rfl))) (@pss_cons _ _ _ _ _ (@ps_asg _ _ _ _ _ _ (@cc _ _ _ _ _ _ _ _ _ _ (by exact C_l_sizes) (by exact (hr.mono (by decide))) (@pa_consN _ _ _ _ _ (pv 1) (@pa_consN _ _ _ _ _ (pv 2) pa_nil (by first|rfl|decide|exact .inl rfl|exact .inr rfl|(intros; rfl))) (by first|rfl|decide|exact .inl rfl|exact .inr rfl|(intros; rfl))) (by first|rfl|decide|exact .inl rfl|exact .inr rfl|(intros; rfl)) (by first|rfl|decide|exact .inl rfl|exact .inr rfl|(intros; rfl)) (by first|rfl|decide|exact .inl rfl|exact .inr rfl|(intros; rfl)) (by first|rfl|decide|exact .inl rfl|exact .inr rfl|(intros; rfl))) (@pg_tup _ _ _ _ _ _ (by rfl) (@pgs_cons _ _ _ _ _ (@pg_name _ _ (9) _ (by exact S.nd) (by rfl) (by first | exact Or.inl rfl | exact Or.inr rfl) (by first|rfl|decide|exact .inl rfl|exact .inr rfl|(intros; rfl))) (@pgs_cons _ _ _ _ _ (@pg_name _ _ (10) _ (by exact S.nd) (by rfl) (by first | exact Or.inl rfl | exact Or.inr rfl) (by first|rfl|decide|exact .inl rfl|exact .inr rfl|(intros; rfl))) (@pgs_cons _ _ _ _ _ (@pg_name _ _ (11) _ (by exact S.nd) (by rfl) (by first | exact Or.inl rfl | exact Or.inr rfl) (by first|rfl|decide|exact .inl rfl|exact .inr rfl|(intros; rfl))) pgs_nil (by first|rfl|decide|exact .inl rfl|exact .inr rfl|(intros; rfl))) (by first|rfl|decide|exact .inl rfl|exact .inr rfl|(intros; rfl))) (by first|rfl|decide|exact .inl rfl|exact .inr rfl|(intros; rfl))) (by first|rfl|decide|exact .inl rfl|exact .inr rfl|(intros; rfl)) (by first|rfl|decide|exact .inl rfl|exact .inr rfl|(intros; rfl))) (by first|rfl|decide|exact .inl rfl|exact .inr rfl|(intros; rfl)) (by first|rfl|decide|exact .inl rfl|exact .inr rfl|(intros; rfl)) (by first|rfl|decide|exact .inl rfl|exact .inr rfl|(intros; rfl))) (@pss_cons _ _ _ _ _ (@ps_set _ _ (3) _ _ _ _ (by exact S.nd) (by rfl) (by first | exact Or.inl rfl | exact Or.inr rfl) (@cc _ _ _ _ _ _ _ _ _ _ (by exact C_l_counted) (by exact (hr.mono (by decide))) (@pa_consN _ _ _ _ _ (pv 1) (@pa_consN _ _ _ _ _ (pv 9) (@pa_consN _ _ _ _ _ (pv 10) pa_nil (by first|rfl|decide|exact .inl rfl|exact .inr rfl|(intros; rfl))) (by first|rfl|decide|exact .inl rfl|exact .inr rfl|(intros; rfl))) (by first|rfl|decide|exact .inl rfl|exact .inr rfl|(intros; rfl))) (by first|rfl|decide|exact .inl rfl|exact .inr rfl|(intros; rfl)) (by first|rfl|decide|exact .inl rfl|exact .inr rfl|(intros; rfl)) (by first|rfl|decide|exact .inl rfl|exact .inr rfl|(intros; rfl)) (by first|rfl|decide|exact .inl rfl|exact .inr rfl|(intros; rfl))) (by first|rfl|decide|exact .inl rfl|exact .inr rfl|(intros; rfl)) (by first|rfl|decide|exact .inl rfl|exact .inr rfl|(intros; rfl))) (@pss_cons _ _ _ _ _ (@ps_set _ _ (4) _ _ _ _ (by exact S.nd) (by rfl) (by first | exact Or.inl rfl | exact Or.inr rfl) (@cc _ _ _ _ _ _ _ _ _ _ (by exact C_l_weights) (by exact (hr.mono (by decide))) (@pa_consN _ _ _ _ _ (pv 1) (@pa_consN _ _ _ _ _ (pv 9) pa_nil (by first|rfl|decide|exact .inl rfl|exact .inr rfl|(intros; rfl))) (by first|rfl|decide|exact .inl rfl|exact .inr rfl|(intros; rfl))) (by first|rfl|decide|exact .inl rfl|exact .inr rfl|(intros; rfl)) (by first|rfl|decide|exact .inl rfl|exact .inr rfl|(intros; rfl)) (by first|rfl|decide|exact .inl rfl|exact .inr rfl|(intros; rfl)) (by first|rfl|decide|exact .inl rfl|exact .inr rfl|(intros; rfl))) (by first|rfl|decide|exact .inl rfl|exact .inr rfl|(intros; rfl)) (by first|rfl|decide|exact .inl rfl|exact .inr rfl|(intros; rfl))) (@pss_cons _ _ _ _ _ (@ps_if _ _ _ _ _ _ _ _ (@pt_cmpR _ _ _ _ _ _ _ _ op_eq (pv 2) pe_int (by exact (nomark _))) (@pss_cons _ _ _ _ _ (@ps_set _ _ (12) _ _ _ _ (by exact S.nd) (by rfl) (by first | exact Or.inl rfl | exact Or.inr rfl) (@pe_bm _ _ _ _ _ _ _ _ _ _ _ _ (by exact PySem.F.plainAttrs_list) (by exact PySem.F.slot_list_index) (by exact PySem.F.type_list_index) mt_index (pv 4) (@pa_consN _ _ _ _ _ (@pe_callB _ _ _ _ _ _ _ _ _ (call_maxB true (by rfl)) (by rfl) (by exact T.z_max) (by exact bt_max) (@pa_consN _ _ _ _ _ (pv 4) pa_nil (by first|rfl|decide|exact .inl rfl|exact .inr rfl|(intros; rfl))) (by first|rfl|decide|exact .inl rfl|exact .inr rfl|(intros; rfl)) (by first|rfl|decide|exact .inl rfl|exact .inr rfl|(intros; rfl)) (by first|rfl|decide|exact .inl rfl|exact .inr rfl|(intros; rfl)) (by first|rfl|decide|exact .inl rfl|exact .inr rfl|(intros; rfl))) pa_nil (by first|rfl|decide|exact .inl rfl|exact .inr rfl|(intros; rfl))) (by first|rfl|decide|exact .inl rfl|exact .inr rfl|(intros; rfl)) (by first|rfl|decide|exact .inl rfl|exact .inr rfl|(intros; rfl)) (by first|rfl|decide|exact .inl rfl|exact .inr rfl|(intros; rfl)) (by first|rfl|decide|exact .inl rfl|exact .inr rfl|(intros; rfl)) (by first|rfl|decide|exact .inl rfl|exact .inr rfl|(intros; rfl))) (by first|rfl|decide|exact .inl rfl|exact .inr rfl|(intros; rfl)) (by first|rfl|decide|exact .inl rfl|exact .inr rfl|(intros; rfl))) (@pss_one _ _ _ (@ps_comp _ _ _ _ _ _ _ _ _ _ _ _ _ _ _ (4) _ (by exact S.nd) (by rfl) (by first | exact Or.inl rfl | exact Or.inr rfl) (by rfl) (by exact (fun _ _ h => h)) (by decide +kernel) (by rfl) (by decide +kernel) (by exact hfr_of rfl) (by exact Sees.frees ["_law_rank"] [("_law_lone", 12)] (fr_cons ⟨rfl, rfl⟩ fr_nil)) (@pi_range1 _ _ _ _ _ _ (by rfl) (by exact T.z_range) (@pa_consN _ _ _ _ _ (pv 9) pa_nil (by first|rfl|decide|exact .inl rfl|exact .inr rfl|(intros; rfl))) (by first|rfl|decide|exact .inl rfl|exact .inr rfl|(intros; rfl))) (fun _ _ _ _ _ => @pg_name _ _ (0) _ (by exact (show (["_law_rank", "_law_lone"] : List Str).Nodup by decide +kernel)) (by rfl) (by first | exact Or.inl rfl | exact Or.inr rfl) (by first|rfl|decide|exact .inl rfl|exact .inr rfl|(intros; rfl))) (fun _ _ _ _ _ => pts_nil) (fun _ _ _ _ _ => (@pe_callTy _ _ _ _ _ _ _ _ _ call_int1 (by rfl) (by exact T.z_int) (by exact bt_int) (@pa_consN _ _ _ _ _ (@pe_cmpR _ _ _ _ _ _ _ _ op_eq (pv 0) (pv 1) (by exact (nomark _))) pa_nil (by first|rfl|decide|exact .inl rfl|exact .inr rfl|(intros; rfl))) (by first|rfl|decide|exact .inl rfl|exact .inr rfl|(intros; rfl)) (by first|rfl|decide|exact .inl rfl|exact .inr rfl|(intros; rfl)) (by first|rfl|decide|exact .inl rfl|exact .inr rfl|(intros; rfl)) (by first|rfl|decide|exact .inl rfl|exact .inr rfl|(intros; rfl)))) (by first|rfl|decide|exact .inl rfl|exact .inr rfl|(intros; rfl)) (by first|rfl|decide|exact .inl rfl|exact .inr rfl|(intros; rfl)) (by first|rfl|decide|exact .inl rfl|exact .inr rfl|(intros; rfl))))) pss_nil) (@pss_cons _ _ _ _ _ (@ps_if _ _ _ _ _ _ _ _ (@pt_cmpR _ _ _ _ _ _ _ _ op_eq (@cc _ _ _ _ _ _ _ _ _ _ (by exact C_l_draw) (by exact (hr.mono (by decide))) (@pa_consN _ _ _ _ _ (pv 1) (@pa_consN _ _ _ _ _ pe_int pa_nil (by first|rfl|decide|exact .inl rfl|exact .inr rfl|(intros; rfl))) (by first|rfl|decide|exact .inl rfl|exact .inr rfl|(intros; rfl))) (by first|rfl|decide|exact .inl rfl|exact .inr rfl|(intros; rfl)) (by first|rfl|decide|exact .inl rfl|exact .inr rfl|(intros; rfl)) (by first|rfl|decide|exact .inl rfl|exact .inr rfl|(intros; rfl)) (by first|rfl|decide|exact .inl rfl|exact .inr rfl|(intros; rfl))) pe_int (by exact (nomark _))) (@pss_cons _ _ _ _ _ (@ps_set _ _ (3) _ _ _ _ (by exact S.nd) (by rfl) (by first | exact Or.inl rfl | exact Or.inr rfl) (@pe_disp1T _ _ _ _ _ _ (by exact hu1) (@cc _ _ _ _ _ _ _ _ _ _ (by exact C_l_load) (by exact (hr.mono (by decide))) (@pa_consN _ _ _ _ _ (pv 1) (@pa_consN _ _ _ _ _ (pv 9) (@pa_consN _ _ _ _ _ (pv 10) pa_nil (by first|rfl|decide|exact .inl rfl|exact .inr rfl|(intros; rfl))) (by first|rfl|decide|exact .inl rfl|exact .inr rfl|(intros; rfl))) (by first|rfl|decide|exact .inl rfl|exact .inr rfl|(intros; rfl))) (by first|rfl|decide|exact .inl rfl|exact .inr rfl|(intros; rfl)) (by first|rfl|decide|exact .inl rfl|exact .inr rfl|(intros; rfl)) (by first|rfl|decide|exact .inl rfl|exact .inr rfl|(intros; rfl)) (by first|rfl|decide|exact .inl rfl|exact .inr rfl|(intros; rfl))) pe_int) (by first|rfl|decide|exact .inl rfl|exact .inr rfl|(intros; rfl)) (by first|rfl|decide|exact .inl rfl|exact .inr rfl|(intros; rfl))) (@pss_one _ _ _ (@ps_if _ _ _ _ _ _ _ _ (@pt_cmpR _ _ _ _ _ _ _ _ op_ne (@pe_callB _ _ _ _ _ _ _ _ _ (call_repr hr) (by rfl) (by exact T.z_repr) (by exact bt_repr) (@pa_consN _ _ _ _ _ (@cc _ _ _ _ _ _ _ _ _ _ (by exact C_alone) (by exact (hr.mono (by decide))) (@pa_consN _ _ _ _ _ (@pe_ix _ _ _ _ _ _ _ ix_list (@pe_callTy _ _ _ _ _ _ _ _ _ (call_listK (by rfl)) (by rfl) (by exact T.z_list) (by exact bt_list) (@pa_consN _ _ _ _ _ (pv 3) pa_nil (by first|rfl|decide|exact .inl rfl|exact .inr rfl|(intros; rfl))) (by first|rfl|decide|exact .inl rfl|exact .inr rfl|(intros; rfl)) (by first|rfl|decide|exact .inl rfl|exact .inr rfl|(intros; rfl)) (by first|rfl|decide|exact .inl rfl|exact .inr rfl|(intros; rfl)) (by first|rfl|decide|exact .inl rfl|exact .inr rfl|(intros; rfl))) pe_int (by exact (fun _ _ => rfl))) pa_nil (by first|rfl|decide|exact .inl rfl|exact .inr rfl|(intros; rfl))) (by first|rfl|decide|exact .inl rfl|exact .inr rfl|(intros; rfl)) (by first|rfl|decide|exact .inl rfl|exact .inr rfl|(intros; rfl)) (by first|rfl|decide|exact .inl rfl|exact .inr rfl|(intros; rfl)) (by first|rfl|decide|exact .inl rfl|exact .inr rfl|(intros; rfl))) pa_nil (by first|rfl|decide|exact .inl rfl|exact .inr rfl|(intros; rfl))) (by first|rfl|decide|exact .inl rfl|exact .inr rfl|(intros; rfl)) (by first|rfl|decide|exact .inl rfl|exact .inr rfl|(intros; rfl)) (by first|rfl|decide|exact .inl rfl|exact .inr rfl|(intros; rfl)) (by first|rfl|decide|exact .inl rfl|exact .inr rfl|(intros; rfl))) (@pe_callB _ _ _ _ _ _ _ _ _ (call_repr hr) (by rfl) (by exact T.z_repr) (by exact bt_repr) (@pa_consN _ _ _ _ _ (@cc _ _ _ _ _ _ _ _ _ _ (by exact C_l_spread) (by exact (hr.mono (by decide))) (@pa_consN _ _ _ _ _ (pv 3) pa_nil (by first|rfl|decide|exact .inl rfl|exact .inr rfl|(intros; rfl))) (by first|rfl|decide|exact .inl rfl|exact .inr rfl|(intros; rfl)) (by first|rfl|decide|exact .inl rfl|exact .inr rfl|(intros; rfl)) (by first|rfl|decide|exact .inl rfl|exact .inr rfl|(intros; rfl)) (by first|rfl|decide|exact .inl rfl|exact .inr rfl|(intros; rfl))) pa_nil (by first|rfl|decide|exact .inl rfl|exact .inr rfl|(intros; rfl))) (by first|rfl|decide|exact .inl rfl|exact .inr rfl|(intros; rfl)) (by first|rfl|decide|exact .inl rfl|exact .inr rfl|(intros; rfl)) (by first|rfl|decide|exact .inl rfl|exact .inr rfl|(intros; rfl)) (by first|rfl|decide|exact .inl rfl|exact .inr rfl|(intros; rfl))) (by exact (nomark _))) (@pss_one _ _ _ (@ps_ret _ _ _ _ pe_bl)) pss_nil))) pss_nil) (@pss_cons _ _ _ _ _ (@ps_set _ _ (5) _ _ _ _ (by exact S.nd) (by rfl) (by first | exact Or.inl rfl | exact Or.inr rfl) (@cc _ _ _ _ _ _ _ _ _ _ (by exact C_l_spread) (by exact (hr.mono (by decide))) (@pa_consN _ _ _ _ _ (pv 3) pa_nil (by first|rfl|decide|exact .inl rfl|exact .inr rfl|(intros; rfl))) (by first|rfl|decide|exact .inl rfl|exact .inr rfl|(intros; rfl)) (by first|rfl|decide|exact .inl rfl|exact .inr rfl|(intros; rfl)) (by first|rfl|decide|exact .inl rfl|exact .inr rfl|(intros; rfl)) (by first|rfl|decide|exact .inl rfl|exact .inr rfl|(intros; rfl))) (by first|rfl|decide|exact .inl rfl|exact .inr rfl|(intros; rfl)) (by first|rfl|decide|exact .inl rfl|exact .inr rfl|(intros; rfl))) (@pss_cons _ _ _ _ _ (@ps_set _ _ (6) _ _ _ _ (by exact S.nd) (by rfl) (by first | exact Or.inl rfl | exact Or.inr rfl) (@cc _ _ _ _ _ _ _ _ _ _ (by exact C_l_rule) (by exact (hr.mono (by decide))) (@pa_consN _ _ _ _ _ (pv 4) pa_nil (by first|rfl|decide|exact .inl rfl|exact .inr rfl|(intros; rfl))) (by first|rfl|decide|exact .inl rfl|exact .inr rfl|(intros; rfl)) (by first|rfl|decide|exact .inl rfl|exact .inr rfl|(intros; rfl)) (by first|rfl|decide|exact .inl rfl|exact .inr rfl|(intros; rfl)) (by first|rfl|decide|exact .inl rfl|exact .inr rfl|(intros; rfl))) (by first|rfl|decide|exact .inl rfl|exact .inr rfl|(intros; rfl)) (by first|rfl|decide|exact .inl rfl|exact .inr rfl|(intros; rfl))) (@pss_cons _ _ _ _ _ (@ps_set _ _ (7) _ _ _ _ (by exact S.nd) (by rfl) (by first | exact Or.inl rfl | exact Or.inr rfl) (@pe_callB _ _ _ _ _ _ _ _ _ (call_repr hr) (by rfl) (by exact T.z_repr) (by exact bt_repr) (@pa_consN _ _ _ _ _ (@pe_tup _ _ _ _ _ (@pa_consN _ _ _ _ _ (pv 6) (@pa_consN _ _ _ _ _ (pv 5) pa_nil (by first|rfl|decide|exact .inl rfl|exact .inr rfl|(intros; rfl))) (by first|rfl|decide|exact .inl rfl|exact .inr rfl|(intros; rfl)))) pa_nil (by first|rfl|decide|exact .inl rfl|exact .inr rfl|(intros; rfl))) (by first|rfl|decide|exact .inl rfl|exact .inr rfl|(intros; rfl)) (by first|rfl|decide|exact .inl rfl|exact .inr rfl|(intros; rfl)) (by first|rfl|decide|exact .inl rfl|exact .inr rfl|(intros; rfl)) (by first|rfl|decide|exact .inl rfl|exact .inr rfl|(intros; rfl))) (by first|rfl|decide|exact .inl rfl|exact .inr rfl|(intros; rfl)) (by first|rfl|decide|exact .inl rfl|exact .inr rfl|(intros; rfl))) (@pss_cons _ _ _ _ _ (@ps_for _ _ _ _ _ _ _ _ (by exact PassesOwn.never) (by rfl) (@pi_range1 _ _ _ _ _ _ (by rfl) (by exact T.z_range) (@pa_consN _ _ _ _ _ (@pe_op _ _ _ _ _ _ _ _ op_add (pv 11) pe_int) pa_nil (by first|rfl|decide|exact .inl rfl|exact .inr rfl|(intros; rfl))) (by first|rfl|decide|exact .inl rfl|exact .inr rfl|(intros; rfl))) (@pg_name _ _ (8) _ (by exact S.nd) (by rfl) (by first | exact Or.inl rfl | exact Or.inr rfl) (by first|rfl|decide|exact .inl rfl|exact .inr rfl|(intros; rfl))) (@pss_cons _ _ _ _ _ (@ps_if _ _ _ _ _ _ _ _ (@pt_cmpR _ _ _ _ _ _ _ _ op_in_seq (pv 8) (@pe_tup _ _ _ _ _ (@pa_consN _ _ _ _ _ pe_int (@pa_consN _ _ _ _ _ pe_int (@pa_consN _ _ _ _ _ pe_int (@pa_consN _ _ _ _ _ (@pe_op _ _ _ _ _ _ _ _ op_fdiv (pv 11) pe_int) (@pa_consN _ _ _ _ _ (pv 11) pa_nil (by first|rfl|decide|exact .inl rfl|exact .inr rfl|(intros; rfl))) (by first|rfl|decide|exact .inl rfl|exact .inr rfl|(intros; rfl))) (by first|rfl|decide|exact .inl rfl|exact .inr rfl|(intros; rfl))) (by first|rfl|decide|exact .inl rfl|exact .inr rfl|(intros; rfl))) (by first|rfl|decide|exact .inl rfl|exact .inr rfl|(intros; rfl)))) (by with_unfolding_all rfl)) (@pss_cons _ _ _ _ _ (@ps_set _ _ (13) _ _ _ _ (by exact S.nd) (by rfl) (by first | exact Or.inl rfl | exact Or.inr rfl) (@pe_callB _ _ _ _ _ _ _ _ _ (call_repr hr) (by rfl) (by exact T.z_repr) (by exact bt_repr) (@pa_consN _ _ _ _ _ (@cc _ _ _ _ _ _ _ _ _ _ (by exact C_l_spread) (by exact (hr.mono (by decide))) (@pa_consN _ _ _ _ _ (pv 3) pa_nil (by first|rfl|decide|exact .inl rfl|exact .inr rfl|(intros; rfl))) (by first|rfl|decide|exact .inl rfl|exact .inr rfl|(intros; rfl)) (by first|rfl|decide|exact .inl rfl|exact .inr rfl|(intros; rfl)) (by first|rfl|decide|exact .inl rfl|exact .inr rfl|(intros; rfl)) (by first|rfl|decide|exact .inl rfl|exact .inr rfl|(intros; rfl))) pa_nil (by first|rfl|decide|exact .inl rfl|exact .inr rfl|(intros; rfl))) (by first|rfl|decide|exact .inl rfl|exact .inr rfl|(intros; rfl)) (by first|rfl|decide|exact .inl rfl|exact .inr rfl|(intros; rfl)) (by first|rfl|decide|exact .inl rfl|exact .inr rfl|(intros; rfl)) (by first|rfl|decide|exact .inl rfl|exact .inr rfl|(intros; rfl))) (by first|rfl|decide|exact .inl rfl|exact .inr rfl|(intros; rfl)) (by first|rfl|decide|exact .inl rfl|exact .inr rfl|(intros; rfl))) (@pss_cons _ _ _ _ _ (@ps_set _ _ (14) _ _ _ _ (by exact S.nd) (by rfl) (by first | exact Or.inl rfl | exact Or.inr rfl) (@cc _ _ _ _ _ _ _ _ _ _ (by exact C_after) (by exact (hr.mono (by decide))) (@pa_consN _ _ _ _ _ (pv 6) (@pa_consN _ _ _ _ _ (pv 5) (@pa_consN _ _ _ _ _ (pv 8) pa_nil (by first|rfl|decide|exact .inl rfl|exact .inr rfl|(intros; rfl))) (by first|rfl|decide|exact .inl rfl|exact .inr rfl|(intros; rfl))) (by first|rfl|decide|exact .inl rfl|exact .inr rfl|(intros; rfl))) (by first|rfl|decide|exact .inl rfl|exact .inr rfl|(intros; rfl)) (by first|rfl|decide|exact .inl rfl|exact .inr rfl|(intros; rfl)) (by first|rfl|decide|exact .inl rfl|exact .inr rfl|(intros; rfl)) (by first|rfl|decide|exact .inl rfl|exact .inr rfl|(intros; rfl))) (by first|rfl|decide|exact .inl rfl|exact .inr rfl|(intros; rfl)) (by first|rfl|decide|exact .inl rfl|exact .inr rfl|(intros; rfl))) (@pss_cons _ _ _ _ _ (@ps_if _ _ _ _ _ _ _ _ (@PW.pt _ _ _ (@pw_or _ _ _ _ _ _ _ (@pt_cmpR _ _ _ _ _ _ _ _ op_ne (@pe_callB _ _ _ _ _ _ _ _ _ (call_repr hr) (by rfl) (by exact T.z_repr) (by exact bt_repr) (@pa_consN _ _ _ _ _ (pv 14) pa_nil (by first|rfl|decide|exact .inl rfl|exact .inr rfl|(intros; rfl))) (by first|rfl|decide|exact .inl rfl|exact .inr rfl|(intros; rfl)) (by first|rfl|decide|exact .inl rfl|exact .inr rfl|(intros; rfl)) (by first|rfl|decide|exact .inl rfl|exact .inr rfl|(intros; rfl)) (by first|rfl|decide|exact .inl rfl|exact .inr rfl|(intros; rfl))) (pv 13) (by exact (nomark _))) (@pw_or1 _ _ _ _ (@pt_cmpR _ _ _ _ _ _ _ _ op_ne (@pe_callB _ _ _ _ _ _ _ _ _ (call_repr hr) (by rfl) (by exact T.z_repr) (by exact bt_repr) (@pa_consN _ _ _ _ _ (@pe_tup _ _ _ _ _ (@pa_consN _ _ _ _ _ (pv 6) (@pa_consN _ _ _ _ _ (pv 5) pa_nil (by first|rfl|decide|exact .inl rfl|exact .inr rfl|(intros; rfl))) (by first|rfl|decide|exact .inl rfl|exact .inr rfl|(intros; rfl)))) pa_nil (by first|rfl|decide|exact .inl rfl|exact .inr rfl|(intros; rfl))) (by first|rfl|decide|exact .inl rfl|exact .inr rfl|(intros; rfl)) (by first|rfl|decide|exact .inl rfl|exact .inr rfl|(intros; rfl)) (by first|rfl|decide|exact .inl rfl|exact .inr rfl|(intros; rfl)) (by first|rfl|decide|exact .inl rfl|exact .inr rfl|(intros; rfl))) (pv 7) (by exact (nomark _)))))) (@pss_one _ _ _ (@ps_ret _ _ _ _ pe_bl)) pss_nil) (@pss_cons _ _ _ _ _ (@ps_expr _ _ _ _ (@pe_bm _ _ _ _ _ _ _ _ _ _ _ _ (by exact PySem.F.plainAttrs_list) (by exact PySem.F.slot_list_append) (by exact PySem.F.type_list_append) mt_append (pv 14) (@pa_consN _ _ _ _ _ pe_non pa_nil (by first|rfl|decide|exact .inl rfl|exact .inr rfl|(intros; rfl))) (by first|rfl|decide|exact .inl rfl|exact .inr rfl|(intros; rfl)) (by first|rfl|decide|exact .inl rfl|exact .inr rfl|(intros; rfl)) (by first|rfl|decide|exact .inl rfl|exact .inr rfl|(intros; rfl)) (by first|rfl|decide|exact .inl rfl|exact .inr rfl|(intros; rfl)) (by first|rfl|decide|exact .inl rfl|exact .inr rfl|(intros; rfl))) (by first|rfl|decide|exact .inl rfl|exact .inr rfl|(intros; rfl))) (@pss_one _ _ _ (@ps_if _ _ _ _ _ _ _ _ (@pt_cmpR _ _ _ _ _ _ _ _ op_ne (@pe_callB _ _ _ _ _ _ _ _ _ (call_repr hr) (by rfl) (by exact T.z_repr) (by exact bt_repr) (@pa_consN _ _ _ _ _ (@cc _ _ _ _ _ _ _ _ _ _ (by exact C_after) (by exact (hr.mono (by decide))) (@pa_consN _ _ _ _ _ (pv 6) (@pa_consN _ _ _ _ _ (pv 5) (@pa_consN _ _ _ _ _ (pv 8) pa_nil (by first|rfl|decide|exact .inl rfl|exact .inr rfl|(intros; rfl))) (by first|rfl|decide|exact .inl rfl|exact .inr rfl|(intros; rfl))) (by first|rfl|decide|exact .inl rfl|exact .inr rfl|(intros; rfl))) (by first|rfl|decide|exact .inl rfl|exact .inr rfl|(intros; rfl)) (by first|rfl|decide|exact .inl rfl|exact .inr rfl|(intros; rfl)) (by first|rfl|decide|exact .inl rfl|exact .inr rfl|(intros; rfl)) (by first|rfl|decide|exact .inl rfl|exact .inr rfl|(intros; rfl))) pa_nil (by first|rfl|decide|exact .inl rfl|exact .inr rfl|(intros; rfl))) (by first|rfl|decide|exact .inl rfl|exact .inr rfl|(intros; rfl)) (by first|rfl|decide|exact .inl rfl|exact .inr rfl|(intros; rfl)) (by first|rfl|decide|exact .inl rfl|exact .inr rfl|(intros; rfl)) (by first|rfl|decide|exact .inl rfl|exact .inr rfl|(intros; rfl))) (pv 13) (by exact (nomark _))) (@pss_one _ _ _ (@ps_ret _ _ _ _ pe_bl)) pss_nil)))))) pss_nil) (@pss_one _ _ _ (@ps_set _ _ (3) _ _ _ _ (by exact S.nd) (by rfl) (by first | exact Or.inl rfl | exact Or.inr rfl) (@cc _ _ _ _ _ _ _ _ _ _ (by exact C_l_come) (by exact (hr.mono (by decide))) (@pa_consN _ _ _ _ _ (pv 3) (@pa_consN _ _ _ _ _ (pv 4) pa_nil (by first|rfl|decide|exact .inl rfl|exact .inr rfl|(intros; rfl))) (by first|rfl|decide|exact .inl rfl|exact .inr rfl|(intros; rfl))) (by first|rfl|decide|exact .inl rfl|exact .inr rfl|(intros; rfl)) (by first|rfl|decide|exact .inl rfl|exact .inr rfl|(intros; rfl)) (by first|rfl|decide|exact .inl rfl|exact .inr rfl|(intros; rfl)) (by first|rfl|decide|exact .inl rfl|exact .inr rfl|(intros; rfl))) (by first|rfl|decide|exact .inl rfl|exact .inr rfl|(intros; rfl)) (by first|rfl|decide|exact .inl rfl|exact .inr rfl|(intros; rfl))))) (by first|rfl|decide|exact .inl rfl|exact .inr rfl|(intros; rfl))) (@pss_cons _ _ _ _ _ (@ps_expr _ _ _ _ (@pe_bm0 _ _ _ _ _ _ _ _ _ (by exact PySem.F.plainAttrs_list) (by exact PySem.F.slot_list_clear) (by exact PySem.F.type_list_clear) mt_clear (@cc _ _ _ _ _ _ _ _ _ _ (by exact C_put) (by exact (hr.mono (by decide))) (@pa_consN _ _ _ _ _ (pv 6) (@pa_consN _ _ _ _ _ (pv 5) pa_nil (by first|rfl|decide|exact .inl rfl|exact .inr rfl|(intros; rfl))) (by first|rfl|decide|exact .inl rfl|exact .inr rfl|(intros; rfl))) (by first|rfl|decide|exact .inl rfl|exact .inr rfl|(intros; rfl)) (by first|rfl|decide|exact .inl rfl|exact .inr rfl|(intros; rfl)) (by first|rfl|decide|exact .inl rfl|exact .inr rfl|(intros; rfl)) (by first|rfl|decide|exact .inl rfl|exact .inr rfl|(intros; rfl))) (by first|rfl|decide|exact .inl rfl|exact .inr rfl|(intros; rfl)) (by first|rfl|decide|exact .inl rfl|exact .inr rfl|(intros; rfl))) (by first|rfl|decide|exact .inl rfl|exact .inr rfl|(intros; rfl))) (@pss_one _ _ _ (@ps_if _ _ _ _ _ _ _ _ (@pt_cmpR _ _ _ _ _ _ _ _ op_ne (@pe_callB _ _ _ _ _ _ _ _ _ (call_repr hr) (by rfl) (by exact T.z_repr) (by exact bt_repr) (@pa_consN _ _ _ _ _ (@cc _ _ _ _ _ _ _ _ _ _ (by exact C_put) (by exact (hr.mono (by decide))) (@pa_consN _ _ _ _ _ (pv 6) (@pa_consN _ _ _ _ _ (pv 5) pa_nil (by first|rfl|decide|exact .inl rfl|exact .inr rfl|(intros; rfl))) (by first|rfl|decide|exact .inl rfl|exact .inr rfl|(intros; rfl))) (by first|rfl|decide|exact .inl rfl|exact .inr rfl|(intros; rfl)) (by first|rfl|decide|exact .inl rfl|exact .inr rfl|(intros; rfl)) (by first|rfl|decide|exact .inl rfl|exact .inr rfl|(intros; rfl)) (by first|rfl|decide|exact .inl rfl|exact .inr rfl|(intros; rfl))) pa_nil (by first|rfl|decide|exact .inl rfl|exact .inr rfl|(intros; rfl))) (by first|rfl|decide|exact .inl rfl|exact .inr rfl|(intros; rfl)) (by first|rfl|decide|exact .inl rfl|exact .inr rfl|(intros; rfl)) (by first|rfl|decide|exact .inl rfl|exact .inr rfl|(intros; rfl)) (by first|rfl|decide|exact .inl rfl|exact .inr rfl|(intros; rfl))) (@pe_callB _ _ _ _ _ _ _ _ _ (call_repr hr) (by rfl) (by exact T.z_repr) (by exact bt_repr) (@pa_consN _ _ _ _ _ (@cc _ _ _ _ _ _ _ _ _ _ (by exact C_after) (by exact (hr.mono (by decide))) (@pa_consN _ _ _ _ _ (pv 6) (@pa_consN _ _ _ _ _ (pv 5) (@pa_consN _ _ _ _ _ pe_int pa_nil (by first|rfl|decide|exact .inl rfl|exact .inr rfl|(intros; rfl))) (by first|rfl|decide|exact .inl rfl|exact .inr rfl|(intros; rfl))) (by first|rfl|decide|exact .inl rfl|exact .inr rfl|(intros; rfl))) (by first|rfl|decide|exact .inl rfl|exact .inr rfl|(intros; rfl)) (by first|rfl|decide|exact .inl rfl|exact .inr rfl|(intros; rfl)) (by first|rfl|decide|exact .inl rfl|exact .inr rfl|(intros; rfl)) (by first|rfl|decide|exact .inl rfl|exact .inr rfl|(intros; rfl))) pa_nil (by first|rfl|decide|exact .inl rfl|exact .inr rfl|(intros; rfl))) (by first|rfl|decide|exact .inl rfl|exact .inr rfl|(intros; rfl)) (by first|rfl|decide|exact .inl rfl|exact .inr rfl|(intros; rfl)) (by first|rfl|decide|exact .inl rfl|exact .inr rfl|(intros; rfl)) (by first|rfl|decide|exact .inl rfl|exact .inr rfl|(intros; rfl))) (by exact (nomark _))) (@pss_one _ _ _ (@ps_ret _ _ _ _ pe_bl)) pss_nil)))))))))))) (by first|rfl|decide|exact .inl rfl|exact .inr rfl|(intros; rfl))) (@pss_one _ _ _ (@ps_ret _ _ _ _ pe_bl)))), ?_⟩
  refine ⟨_, rfl, a, ns, rfl, ha, fun p H0 s0 pen0 => ?_⟩
  refine ⟨3, rfl, by decide, by decide, for_range (n := 3) (fun i σ H2 => (∃ o2 o3 o4 o5 o6 o7 o8 o9 o10 o11 o12 o13 o14, σ = [some (.ref a), some (.ref p), o2, o3, o4, o5, o6, o7, o8, o9, o10, o11, o12, o13, o14]) ∧ Pen H2 p (300 * i)) ⟨⟨_, _, _, _, _, _, _, _, _, _, _, _, _, rfl⟩, pen0⟩ ?_ ?_⟩
  · rintro i σ H2 hi ⟨⟨o2, o3, o4, o5, o6, o7, o8, o9, o10, o11, o12, o13, o14, rfl⟩, pen2⟩
    refine ⟨_, rfl, _, rfl, p, i, _, (by rw [Int.zero_add]; rfl), hi, pen2, by omega, fun t n b many H3 ht sz pen3 x3 => ?_⟩
    refine ⟨t, _, rfl, SqT.of ht, rfl, _, _, rfl, _, _, rfl, _, _, rfl, rfl, ?_⟩
    have n1 := sz.n1
    have n6 := sz.n6
    refine ⟨_, rfl, _, rfl, _, rfl, p, n, b, _, rfl, n1, n6, sz.b40, pen3, by omega, fun d F H4 hd cn ne f4 pen4 x4 => ?_⟩
    apply joinB (C := fun (l : Addr) (o : Option V) H' => Pen H' p (300 * i + 225) ∧ H' d = some (dI F) ∧ ∃ w : List Int, H' l = some (.lst (iv w)) ∧ ∀ F' : Mp, Cnt F' n b 120 → F' ≠ [] → F'.length ≤ 4 → Caps w F' n b many)
    case main =>
      intro key
      refine ⟨_, rfl, _, rfl, p, _, _, rfl, pen4, by omega, by omega, by omega, fun lw w H5 hw wl w0 S0 pen5 x5 => ?_⟩
      have hd5 := pen4.keep x5 hd
      refine ⟨_, rfl, rfl, _, rfl, ?_⟩
      refine ite2 (fun c => ?_) (fun c => ?_)
      rotate_left 1
      · have hi2 : i < 2 := by
          have : i ≠ 2 := fun z => c (by rw [z]; decide)
          omega
        generalize o12 = z12
        exact key lw z12 H5 ⟨pen5.mono (by omega), hd5, w, hw, fun F' c1 c2 c3 => caps_of sz hi2 c1 c2 c3 (by omega) w0 S0⟩
      · have wne : w ≠ [] := fun z => by rw [z] at wl; simp at wl; omega
        refine ⟨_, rfl, .inl ⟨rfl, _, SqL.of hw⟩, _, rfl, lw, w, rfl, SqB.of (b := true) hw, wne, fun M hM hmax => ?_⟩
        obtain ⟨lone, l1, l2, l3⟩ := first_at hM
        refine ⟨lw, _, _, lone, rfl, rfl, hw, flat_iv w, rfl, by simpa using l1, l2, l3, ?_⟩
        refine ⟨_, rfl, _, rfl, by omega, by omega, comp_rng (n := (n : Int).toNat) (lo := 0) (fs := [some (.int (lone : Nat))]) (fun acc j ys H' => Same H5 H' ∧ ys = iv ((hotF n lone).take j)) (by omega) ?_ ?_ ?_⟩
        · exact fun acc hacc => ⟨same_new hacc _, rfl⟩
        · rintro acc j ys H' hacc hj hl ⟨s', rfl⟩ hH' Q' hQ
          refine ⟨_, rfl, _, rfl, rfl, .inr ⟨_, rfl, hQ _ _ hH' ⟨same_updN hacc s' _, ?_⟩⟩⟩
          rw [hot_take (by omega)]
          have e : (decide (V.int (0 + (j : Int)) = V.int (lone : Nat)) = true) ↔ j = lone := by
            rw [decide_eq_true_iff]
            constructor
            · intro z; have := V.int.inj z; omega
            · intro z; subst z; rw [Int.zero_add]
          show _ = List.map V.int _
          rw [List.map_append]
          congr 1
          by_cases z : j = lone
          · rw [if_pos z, if_pos (e.mpr z)]; rfl
          · rw [if_neg z, if_neg (fun q => z (e.mp q))]; rfl
        · rintro acc ys H' hacc ⟨s', rfl⟩ hH' hlen
          refine key acc _ H' ⟨(pen5.same s').mono (by omega), s' _ _ hd5, hotF n lone, ?_, fun F' c1 c2 c3 => caps_hot sz c1 c2 c3 (by omega)⟩
          rw [hH', List.take_of_length_le (by rw [hot_len]; omega)]
    clear hd pen4 x4
    have hi' := hi
    rintro lw' o12' H6 ⟨pen6, hd6, w', hw6, caps⟩
    apply joinA (C := fun (d : Addr) (H' : Hp) => Pen H' p (300 * i + 270) ∧ H' lw' = some (.lst (iv w')) ∧ ∃ F, H' d = some (dI F) ∧ Caps w' F n b many)
    case main =>
      intro key
      refine ⟨_, rfl, p, _, _, rfl, pen6, by omega, by decide, by decide, fun r H7 r0 r1 pen7 x7 => ⟨rfl, _, rfl, ?_⟩⟩
      have hd7 := pen6.keep x7 hd6
      have hw7 := pen6.keep x7 hw6
      refine ite2 (fun c => ?_) (fun c => ?_)
      rotate_left 1
      · generalize d = dz at hd7 ⊢
        exact key dz H7 ⟨pen7.mono (by omega), hw7, F, hd7, caps F cn ne f4⟩
      intro q hq
      have s8 := same_new hq (.dT [])
      refine ⟨_, rfl, _, rfl, _, rfl, p, n, b, _, rfl, n1, n6, sz.b40, pen7.same s8, by omega, fun la ld H8 hla ldok pen8 x8 => ?_⟩
      have hq8 : H8 q = some (.dT []) := (pen7.same s8).keep x8 upd_same
      refine ⟨la, _, rfl, key_iv hla, hq8, ?_⟩
      obtain ⟨pen9, x9⟩ := penX_upd hq pen7 ((Same.x s8).trans x8) pen8 (dI [(ld, 1)])
      have hla9 : upd H8 q (dI [(ld, 1)]) la = some (.tup (iv ld)) := by rw [upd_ne (ne_of hla hq8 (by intro z; cases z))]; exact hla
      have hq9 : upd H8 q (dI [(ld, 1)]) q = some (dI [(ld, 1)]) := upd_same
      have hw9 := pen7.keep x9 hw7
      have cn9 := one_cnt ldok
      have cp9 := caps _ cn9 (by simp) (by simp)
      have gd : Good (dSp [(ld, (1 : Rat))]) := by
        have := cp9.good (j := 0) (.inl (Nat.zero_le _))
        rw [it0, Int.pow_zero, Int.mul_one] at this
        rwa [one_spr] at this
      obtain ⟨D1, e1⟩ := opq (dSp [(ld, (1 : Rat))])
      rw [← e1] at gd
      show gName 3 (V.ref q) _ (upd H8 q (dI [(ld, 1)])) _
      generalize upd H8 q (dI [(ld, 1)]) = H9 at pen9 x9 hla9 hq9 hw9
      refine ⟨_, rfl, q, _, [ld], rfl, .inl hq9, rfl, fun l bs hl tb => ?_⟩
      have s10 := same_new hl (.lst (bs.map V.ref))
      obtain ⟨b0, rfl⟩ : ∃ b0, bs = [b0] := by
        have := Paired.length tb
        cases bs with
        | nil => simp at this
        | cons b0 bs => cases bs with
          | nil => exact ⟨b0, rfl⟩
          | cons _ _ => simp at this
      have hb0 : H9 b0 = some (.tup (iv ld)) := by cases tb with | cons h _ => exact h
      refine ⟨l, _, _, _, rfl, rfl, SqL.of upd_same, rfl, ?_⟩
      refine ⟨b0, ld, rfl, s10 _ _ hb0, fun l1 H11 s11 _ sp1 => ?_⟩
      refine ⟨_, D1, rfl, (by rw [e1]; exact sp_data sp1), gd.sh, gd.ld, gd.dp, gd.ln, ?_⟩
      refine ⟨_, rfl, q, [(ld, 1)], rfl, (s10.trans s11) _ _ hq9, cn9.nd, k_ne cn9 n1, by simp, fun k hk => Int.le_of_lt (cn9.pos k hk), cn9.W0 (by simp), one_bt ld, fun l2 H12 s12 _ sp2 => ?_⟩
      rw [one_spr] at sp2
      refine ⟨_, D1, rfl, (by rw [e1]; exact sp_data sp2), gd.sh, gd.ld, gd.dp, gd.ln, rfl, _, rfl, iteNS (Eq.refl _) ?_⟩
      have sA := s10.trans (s11.trans s12)
      exact key q H12 ⟨(pen9.same sA).mono (by omega), sA _ _ hw9, _, sA _ _ hq9, cp9⟩
    clear cn ne f4 hd6 hw6 pen6 caps
    rintro d' H7 ⟨pen7, hw7, F', hd7, C⟩
    have c0 := C.cn
    obtain ⟨W0, W1⟩ := C.W1
    have S0 := C.S0
    have S1 := C.S1
    have gk := C.kept
    obtain ⟨DK, eK⟩ := opq (dKp (ruleQ w') (sprF F' (valsM F').sum))
    rw [← eK] at gk
    refine ⟨_, rfl, d', F', rfl, hd7, c0.nd, k_ne c0 n1, by have := C.f4; omega, fun k hk => Int.le_of_lt (c0.pos k hk), W0, (bt119 (by omega) (by omega)).mono (by decide), fun ls H8 s8 _ sp8 => ?_⟩
    refine ⟨_, rfl, lw', w', rfl, s8 _ _ hw7, C.nn, S0, by omega, by rw [C.wl]; omega, fun rl ys H9 s9 hrl prs9 => ?_⟩
    rw [rule_prs S0] at prs9
    have shs9 := shs_of prs9
    clear prs9
    have sp9 := sp8.same s9
    have s79 := s8.trans s9
    refine ⟨_, rfl, _, rfl, (by show 2 ≤ sizeLine; decide), fun tk htk => ?_⟩
    have s10 := same_new htk (.tup [.ref rl, .ref ls])
    refine ⟨_, DK, rfl, (by rw [eK]; exact data_kp upd_same (s10 _ _ hrl) (shs9.same s10) (sp9.same s10)), gk.sh, gk.ld, gk.dp, gk.ln, ?_⟩
    have s7A := s79.trans s10
    have pen10 := pen7.same s7A
    have hd10 := s7A _ _ hd7
    have hw10 := s7A _ _ hw7
    have hrl10 := s10 _ _ hrl
    have shs10 := shs9.same s10
    have sp10 := sp9.same s10
    clear sp8 sp9 shs9 hrl s8 s9 s79 hd7 hw7
    generalize upd H9 tk (.tup [.ref rl, .ref ls]) = H10 at pen10 hd10 hw10 hrl10 shs10 sp10 s10 s7A
    refine ⟨_, rfl, _, _, rfl, rfl, (many : Int) + 1, rfl, by omega, by have := C.m60; omega, for_range (n := ((many : Int) + 1).toNat) (fun j σ H' => Same H10 H' ∧ ∃ (dd : Addr) (o8 o13 o14 : Option V), H' dd = some (dI (itF w' j F')) ∧ σ = [some (.ref a), some (.ref p), some (.int (0 + i)), some (.ref dd), some (.ref lw'), some (.ref ls), some (.ref rl), some (.str DK.shown), o8, some (.int n), some (.int b), some (.int many), o12', o13, o14]) ?_ ?_ ?_⟩
    · exact ⟨Same.refl _, d', _, _, _, by rw [it0]; exact hd10, rfl⟩
    · rintro j σ H11 hj ⟨s11, dd, o8', o13', o14', hdd, rfl⟩
      have hj' : j ≤ many := by omega
      have cj := C.at j
      have bg := C.big (j := j) (.inl hj')
      have gj := C.good (j := j) (.inl hj')
      obtain ⟨DJ, eJ⟩ := opq (dSp (sprF (itF w' j F') ((valsM F').sum * w'.sum ^ j)))
      rw [← eJ] at gj
      apply joinB (C := fun (x y : Option V) H' => Same H11 H')
      case main =>
        intro key
        refine ⟨_, rfl, _, rfl, _, _, rfl, rfl, ⟨by decide, by decide⟩, _, rfl, (by show 5 ≤ sizeLine; decide), fun t2 ht2 => ?_⟩
        refine ⟨t2, _, rfl, .inr (SqT.of upd_same), rfl, rfl, _, rfl, ?_⟩
        have sx := same_new ht2 (.tup [.int 0, .int 1, .int 2, .int ((many : Int) / 2), .int (many : Int)])
        generalize upd H11 t2 (.tup [.int 0, .int 1, .int 2, .int ((many : Int) / 2), .int (many : Int)]) = Hx at sx ⊢
        refine ite2 (fun c => ?_) (fun c => ?_)
        rotate_left 1
        · generalize o13' = z13
          generalize o14' = z14
          exact key z13 z14 Hx sx
        refine ⟨_, rfl, dd, itF w' j F', rfl, sx _ _ hdd, cj.1.nd, k_ne cj.1 n1, by have := C.len j (.inl hj'); omega, fun k hk => Int.le_of_lt (cj.1.pos k hk), by rw [cj.2]; exact bg.1, by rw [cj.2]; exact (bt119 (Int.le_of_lt bg.1) bg.2).mono (by decide), fun l1 H12 s12 _ sp12 => ?_⟩
        rw [cj.2] at sp12
        refine ⟨_, DJ, rfl, (by rw [eJ]; exact sp_data sp12), gj.sh, gj.ld, gj.dp, gj.ln, ?_⟩
        have sA := s11.trans (sx.trans s12)
        refine ⟨_, rfl, _, rfl, _, rfl, rl, ls, ys, ruleQ w', sprF F' (valsM F').sum, j, (by rw [Int.zero_add]; rfl), sA _ _ hrl10, shs10.same sA, sp10.same sA, C.fit (.inl hj'), fun l2 H13 s13 n13 sp13 => ?_⟩
        rw [after_eq c0.nd S0 W0] at sp13
        refine ⟨_, rfl, _, DJ, rfl, (by rw [eJ]; exact sp_data sp13), gj.sh, gj.ld, gj.dp, gj.ln, _, rfl, rfl, _, rfl, iteNS (Eq.refl _) ?_⟩
        have sB := sA.trans s13
        refine ⟨_, rfl, _, rfl, (by show 2 ≤ sizeLine; decide), fun tk2 htk2 => ?_⟩
        have s14 := same_new htk2 (.tup [.ref rl, .ref ls])
        have sC := sB.trans s14
        refine ⟨_, DK, rfl, (by rw [eK]; exact data_kp upd_same (sC _ _ hrl10) (shs10.same sC) (sp10.same sC)), gk.sh, gk.ld, gk.dp, gk.ln, _, rfl, rfl, _, rfl, iteNS (Eq.refl _) ?_⟩
        obtain ⟨xs2, hl2, pr2⟩ := sp13.same s14
        have xl : xs2.length ≤ 60 := by rw [Paired.length pr2]; exact (C.rows (.inl hj')).2
        refine ⟨_, rfl, .inl ⟨rfl, _, SqL.of hl2⟩, l2, _, _, rfl, rfl, hl2, by rw [sizeLine_eq]; omega, ?_⟩
        have s15 := same_updN n13 (s13.trans s14) (.lst (xs2 ++ [.non]))
        have sD := sA.trans s15
        refine ⟨_, rfl, _, rfl, _, rfl, rl, ls, ys, ruleQ w', sprF F' (valsM F').sum, j, (by rw [Int.zero_add]; rfl), sD _ _ hrl10, shs10.same sD, sp10.same sD, C.fit (.inl hj'), fun l3 H16 s16 n16 sp16 => ?_⟩
        rw [after_eq c0.nd S0 W0] at sp16
        refine ⟨_, DJ, rfl, (by rw [eJ]; exact sp_data sp16), gj.sh, gj.ld, gj.dp, gj.ln, _, rfl, rfl, _, rfl, iteNS (Eq.refl _) ?_⟩
        exact key _ _ H16 (sx.trans (s12.trans (s15.trans s16)))
      rintro x13 x14 H12 s12
      have sE := s11.trans s12
      refine ⟨_, rfl, _, rfl, dd, lw', w', itF w' j F', rfl, sE _ _ hw10, s12 _ _ hdd, cj.1.nd, by have := C.len j (.inl hj'); omega, fun k hk => by rw [(cj.1.ld k hk).len, C.wl], by rw [C.wl]; exact n6, fun x hx => ?_, fun x hx => ?_, fun e H13 s13 ne13 he => ?_⟩
      · have := C.w0 x hx
        exact (bt119 (by omega) (by omega)).mono (by decide)
      · have v0 := vals_nn cj.1.nd cj.1.pos
        have x0 := v0 x hx
        have x1 := mem_le_sum (fun y hy => Int.le_of_lt (v0 y hy)) x hx
        rw [cj.2] at x1
        exact (bt119 (Int.le_of_lt x0) (by omega)).mono (by decide)
      · exact ⟨sE.trans s13, e, _, _, _, by rw [it1]; exact he, rfl⟩
    · rintro σ H11 ⟨s11, dd, o8', o13', o14', hdd, rfl⟩
      have g1 := C.good (j := 1) (.inr rfl)
      obtain ⟨DJ, eJ⟩ := opq (dSp (sprF (itF w' 1 F') ((valsM F').sum * w'.sum ^ 1)))
      rw [← eJ] at g1
      refine ⟨_, rfl, _, rfl, rl, ls, ys, ruleQ w', sprF F' (valsM F').sum, rfl, s11 _ _ hrl10, shs10.same s11, sp10.same s11, C.fit (.inr rfl), fun l1 H12 s12 n12 sp12 => ?_⟩
      obtain ⟨xs1, hl1, _⟩ := id sp12
      refine ⟨.inl ⟨rfl, _, SqL.of hl1⟩, l1, _, rfl, rfl, hl1, ?_⟩
      have sF := s11.trans (same_updN n12 s12 (.lst []))
      generalize upd H12 l1 (.lst []) = H13 at sF ⊢
      refine ⟨_, rfl, _, rfl, rl, ls, ys, ruleQ w', sprF F' (valsM F').sum, rfl, sF _ _ hrl10, shs10.same sF, sp10.same sF, C.fit (.inr rfl), fun l2 H14 s14 n14 sp14 => ?_⟩
      rw [after_eq c0.nd S0 W0] at sp14
      refine ⟨_, DJ, rfl, (by rw [eJ]; exact sp_data sp14), g1.sh, g1.ld, g1.dp, g1.ln, ?_⟩
      have sG := sF.trans s14
      refine ⟨_, rfl, _, rfl, rl, ls, ys, ruleQ w', sprF F' (valsM F').sum, 1, rfl, sG _ _ hrl10, shs10.same sG, sp10.same sG, C.fit (.inr rfl), fun l3 H15 s15 n15 sp15 => ?_⟩
      rw [after_eq c0.nd S0 W0] at sp15
      refine ⟨_, DJ, rfl, (by rw [eJ]; exact sp_data sp15), g1.sh, g1.ld, g1.dp, g1.ln, rfl, _, rfl, iteNS (Eq.refl _) ?_⟩
      exact ⟨⟨_, _, _, _, _, _, _, _, _, _, _, _, _, rfl⟩, (pen10.same (sG.trans s15)).mono (by omega)⟩
  · rintro σ H2 ⟨⟨o2, o3, o4, o5, o6, o7, o8, o9, o10, o11, o12, o13, o14, rfl⟩, pen⟩
    exact k _
end
end My

set_option Elab.async false
set_option linter.all false
set_option maxRecDepth 100000
set_option maxHeartbeats 4000000
namespace My
open PySem L2 MA
structure Funs (K : PySem.W.Frag) (mg : Str → Option Value) : Prop where
  f_falling : FunAt K mg "falling" ["numbers"] s_falling
  f_put_at : FunAt K mg "put_at" ["load", "rank"] s_put_at
  f_measure : FunAt K mg "measure" ["a", "b"] s_measure
  f_parted : FunAt K mg "parted" ["top", "bottoms"] s_parted
  f_weighed : FunAt K mg "weighed" ["some"] s_weighed
  f_alone : FunAt K mg "alone" ["load"] s_alone
  f_gathered : FunAt K mg "gathered" ["rows"] s_gathered
  f_weights_of : FunAt K mg "weights_of" ["spread"] s_weights_of
  f_spread_of : FunAt K mg "spread_of" ["weights", "bottoms"] s_spread_of
  f_come : FunAt K mg "come" ["chances", "weights"] s_come
  f_ask_boxes : FunAt K mg "ask_boxes" ["ranks", "load"] s_ask_boxes
  f_after : FunAt K mg "after" ["rule", "spread", "many"] s_after
  f_put : FunAt K mg "put" ["rule", "spread"] s_put
  f_l_pen : FunAt K mg "_law_pen" ["_law_script"] s_l_pen
  f_l_draw : FunAt K mg "_law_draw" ["_law_pen_here", "_law_many"] s_l_draw
  f_l_measure : FunAt K mg "_law_measure" ["_law_a", "_law_b"] s_l_measure
  f_l_lowest : FunAt K mg "_law_lowest" ["_law_top", "_law_bottom"] s_l_lowest
  f_l_weights : FunAt K mg "_law_weights" ["_law_pen_here", "_law_n"] s_l_weights
  f_l_rule : FunAt K mg "_law_rule" ["_law_weights_here"] s_l_rule
  f_l_load : FunAt K mg "_law_load" ["_law_pen_here", "_law_n", "_law_balls"] s_l_load
  f_l_counted : FunAt K mg "_law_counted" ["_law_pen_here", "_law_n", "_law_balls"] s_l_counted
  f_l_spread : FunAt K mg "_law_spread" ["_law_found"] s_l_spread
  f_l_come : FunAt K mg "_law_come" ["_law_found", "_law_weights_here"] s_l_come
  f_l_sizes : FunAt K mg "_law_sizes" ["_law_pen_here", "_law_way"] s_l_sizes
theorem all_mk {l : PySem.W.OpenLaw} {w : World} {K : PySem.W.Frag} {h : Heap} {mg : Str → Option Value} {fa f3 : Addr} (X : K.In h) (G : h.Ns mainGlobals mg) (hfa : mg "law" = some (.ref fa))
    {od3 an3 : Option Addr} {sl3 : Array (Option Value)} {oc3 kV3 dc3 pm3 cd3 ct3 : Value} (T : Txt2 mg) (FA : Funs K mg) {tk_MOST_LOADS : Tok} (h_MOST_LOADS : mg "MOST_LOADS" = some (.int 60 tk_MOST_LOADS))
    (a3 : PySem.W.nsIn K mainGlobals "law" = some (some (.ref f3))) (l3 : K.lookup f3 = some ⟨oc3, od3, .func (PySem.W.fnOf "law" "law" (defArgs s_law) (defBody s_law) (defScope s_law) .none kV3 dc3 pm3 an3 cd3 ct3), sl3⟩) (c3 : PySem.W.codeIn K cd3 "law" = true) (k3 : PySem.W.keepIn K (.ref f3) = true) :
    ∃ fd : FuncData, (∀ (s : Shared) (v : Value), BindsTo s fd ⟨[v], []⟩ [("_law_script", v)]) ∧ ∀ base : Heap, K.In base → base.Ns mainGlobals mg → FnOk l.prog w K mg base CX0 6 fa fd ["_law_script"] (spLaw K) := by
  have e := hfa.symm.trans (PySem.W.mg_of X G a3)
  cases e
  have F3 := fun_mk (st := s_law) l3 c3 k3
  refine ⟨PySem.W.fnOf "law" "law" (defArgs s_law) (defBody s_law) (defScope s_law) .none kV3 dc3 pm3 an3 cd3 ct3, fun s v => .of_eq rfl, fun base _ _ => ?_⟩
  have c_measure := ok_measure (P := l.prog) (w := w) (base := base) T.toTxt FA.f_measure
  have c_falling := ok_falling (P := l.prog) (w := w) (base := base) T FA.f_falling
  have c_putat := ok_putat T c_falling FA.f_put_at
  have c_weighed := ok_weighQ c_measure FA.f_weighed
  have c_parted := ok_parted c_measure FA.f_parted
  have c_gathered := ok_gathered (P := l.prog) (w := w) (base := base) FA.f_gathered
  have c_spreadof := ok_spreadof T c_parted FA.f_spread_of
  have c_weightsof := ok_weightsof T c_weighed FA.f_weights_of
  have c_come := ok_come T c_putat c_gathered FA.f_come
  have c_askb := ok_askB (P := l.prog) (w := w) (base := base) T FA.f_ask_boxes
  have c_after := ok_after T h_MOST_LOADS c_askb c_weighed c_weightsof c_come c_spreadof FA.f_after
  have c_put := ok_put c_after FA.f_put
  have c_alone := ok_alone (P := l.prog) (w := w) (base := base) FA.f_alone
  have c_pen := ok_pen (P := l.prog) (w := w) (base := base) FA.f_l_pen
  have c_draw := ok_draw2 (P := l.prog) (w := w) (base := base) T.toTxt FA.f_l_draw
  have c_lmeasure := ok_lmeasure (P := l.prog) (w := w) (base := base) FA.f_l_measure
  have c_lowest := ok_lowest c_lmeasure FA.f_l_lowest
  have c_weights := ok_weights T c_draw FA.f_l_weights
  have c_rule := ok_rule T c_lowest FA.f_l_rule
  have c_load := ok_lload T c_draw FA.f_l_load
  have c_counted := ok_counted T c_draw c_load FA.f_l_counted
  have c_lspread := ok_lspread T c_lowest FA.f_l_spread
  have c_lcome := ok_lcome (P := l.prog) (w := w) (base := base) T FA.f_l_come
  have c_sizes := ok_sizes T c_draw FA.f_l_sizes
  exact ok_law T c_pen c_draw c_sizes c_counted c_weights c_load c_alone c_lspread c_rule c_after c_lcome c_put F3
theorem walk {l : PySem.W.OpenLaw} {q : Program} {loose : List Str} {XP : (Str → Option Value) → Heap → Prop} {YP : World → Heap → Prop} {d : DefRec} {K : Params → PySem.W.Frag} (hn : l.most = some 63) (hdf : d.params.defaults = [])
    (hY : ∀ (w : World) (h : Heap), YP w h → (K w.params).In h)
    (F : ∀ (w : World) (mg : Str → Option Value) (fa : Addr) (h : Heap), (K w.params).In h → h.Ns mainGlobals mg → mg d.name = some (.ref fa) →
      ∃ fd : FuncData, (∀ (s : Shared) (u : Value), BindsTo s fd ⟨[u], []⟩ [("_law_script", u)]) ∧ ∀ base : Heap, (K w.params).In base → base.Ns mainGlobals mg → FnOk l.prog w (K w.params) mg base CX0 6 fa fd ["_law_script"] (spLaw (K w.params))) :
    PySem.W.WalkO q loose XP YP l.row.toRowW d [] (fun f vs => PySem.call f vs) :=
  L2.walk_of (n := 63) (k := 6) (x := "_law_script") (CX := fun _ => CX0) (sp := fun w => spLaw (K w.params)) hn (by decide) hdf ⟨rfl, by decide, by decide, rfl⟩ hY F (fun _ _ a ns hl _ hS => ⟨a, ns, rfl, hS, hl, fun _ => rfl⟩) fun _ _ _ _ _ z => z
theorem mr_MOST_LOADS {K : PySem.W.Frag} {h : Heap} {mg : Str → Option Value} {tk : Tok} (X : K.In h) (G : h.Ns mainGlobals mg) (a : PySem.W.nsIn K mainGlobals "MOST_LOADS" = some (some (.int 60 tk))) : ∃ tk : Tok, mg "MOST_LOADS" = some (.int 60 tk) := ⟨tk, PySem.W.mg_of X G a⟩
theorem txt_mk {K : PySem.W.Frag} {h : Heap} {mg : Str → Option Value} (X : K.In h) (G : h.Ns mainGlobals mg)
    (z_abs : PySem.W.nsIn K mainGlobals "abs" = some none)
    (z_len : PySem.W.nsIn K mainGlobals "len" = some none)
    (z_isinstance : PySem.W.nsIn K mainGlobals "isinstance" = some none)
    (z_range : PySem.W.nsIn K mainGlobals "range" = some none)
    (z_int : PySem.W.nsIn K mainGlobals "int" = some none)
    (z_bool : PySem.W.nsIn K mainGlobals "bool" = some none)
    (z_tuple : PySem.W.nsIn K mainGlobals "tuple" = some none)
    (z_list : PySem.W.nsIn K mainGlobals "list" = some none)
    (z_all : PySem.W.nsIn K mainGlobals "all" = some none)
    (z_str : PySem.W.nsIn K mainGlobals "str" = some none)
    (z_repr : PySem.W.nsIn K mainGlobals "repr" = some none)
    (z_dict : PySem.W.nsIn K mainGlobals "dict" = some none)
    (z_sum : PySem.W.nsIn K mainGlobals "sum" = some none)
    (z_sorted : PySem.W.nsIn K mainGlobals "sorted" = some none)
    (z_max : PySem.W.nsIn K mainGlobals "max" = some none)
    (z_min : PySem.W.nsIn K mainGlobals "min" = some none)
    (z_any : PySem.W.nsIn K mainGlobals "any" = some none)
    (z_enumerate : PySem.W.nsIn K mainGlobals "enumerate" = some none)
    (z_zip : PySem.W.nsIn K mainGlobals "zip" = some none)
    (z_set : PySem.W.nsIn K mainGlobals "set" = some none)
    (z_reversed : PySem.W.nsIn K mainGlobals "reversed" = some none)
    (z_ValueError : PySem.W.nsIn K mainGlobals "ValueError" = some none)
    : Txt2 mg := ⟨⟨PySem.W.mg_none_of X G z_abs, PySem.W.mg_none_of X G z_len, PySem.W.mg_none_of X G z_isinstance, PySem.W.mg_none_of X G z_range, PySem.W.mg_none_of X G z_int, PySem.W.mg_none_of X G z_bool, PySem.W.mg_none_of X G z_tuple, PySem.W.mg_none_of X G z_list, PySem.W.mg_none_of X G z_all⟩, PySem.W.mg_none_of X G z_str, PySem.W.mg_none_of X G z_repr, PySem.W.mg_none_of X G z_dict, PySem.W.mg_none_of X G z_sum, PySem.W.mg_none_of X G z_sorted, PySem.W.mg_none_of X G z_max, PySem.W.mg_none_of X G z_min, PySem.W.mg_none_of X G z_any, PySem.W.mg_none_of X G z_enumerate, PySem.W.mg_none_of X G z_zip, PySem.W.mg_none_of X G z_set, PySem.W.mg_none_of X G z_reversed, PySem.W.mg_none_of X G z_ValueError⟩
end My
open PySem PySem.W PyProof.Rows
set_option maxRecDepth 100000 in
set_option maxHeartbeats 0 in
theorem PySem.Challenge.cw_emptierbox_k18_balls_that_come_holds : PySem.Challenge.rw_emptierbox_k18_balls_that_come.Holds := by
  w_on; o_law; k_head; (case hw => w_witness2)
  k_fill
  refine My.walk (l := PySem.Challenge.rw_emptierbox_k18_balls_that_come) rfl rfl (fun w h Y => PySem.W.kIn_of Y) ?F
  case F =>
    intro w mg fa h KX G hmg
    have T : My.Txt2 mg := by
      refine' My.txt_mk KX G ?z0 ?z1 ?z2 ?z3 ?z4 ?z5 ?z6 ?z7 ?z8 ?z9 ?z10 ?z11 ?z12 ?z13 ?z14 ?z15 ?z16 ?z17 ?z18 ?z19 ?z20 ?z21
      (case z0 => k_is)
      (case z1 => k_is)
      (case z2 => k_is)
      (case z3 => k_is)
      (case z4 => k_is)
      (case z5 => k_is)
      (case z6 => k_is)
      (case z7 => k_is)
      (case z8 => k_is)
      (case z9 => k_is)
      (case z10 => k_is)
      (case z11 => k_is)
      (case z12 => k_is)
      (case z13 => k_is)
      (case z14 => k_is)
      (case z15 => k_is)
      (case z16 => k_is)
      (case z17 => k_is)
      (case z18 => k_is)
      (case z19 => k_is)
      (case z20 => k_is)
      (case z21 => k_is)
    have f_falling : L2.FunAt (L2.KOf KX) mg "falling" ["numbers"] My.s_falling := by
      dsimp only [L2.KOf]
      refine' L2.funAt_mk KX G (fun _ _ _ _ _ _ us hl => match us, hl with | [_], _ => rfl) ?a ?l ?c ?k
      (case a => k_is); (case l => k_is); (case c => k_is); (case k => k_is)
    have f_put_at : L2.FunAt (L2.KOf KX) mg "put_at" ["load", "rank"] My.s_put_at := by
      dsimp only [L2.KOf]
      refine' L2.funAt_mk KX G (fun _ _ _ _ _ _ us hl => match us, hl with | [_, _], _ => rfl) ?a ?l ?c ?k
      (case a => k_is); (case l => k_is); (case c => k_is); (case k => k_is)
    have f_measure : L2.FunAt (L2.KOf KX) mg "measure" ["a", "b"] My.s_measure := by
      dsimp only [L2.KOf]
      refine' L2.funAt_mk KX G (fun _ _ _ _ _ _ us hl => match us, hl with | [_, _], _ => rfl) ?a ?l ?c ?k
      (case a => k_is); (case l => k_is); (case c => k_is); (case k => k_is)
    have f_parted : L2.FunAt (L2.KOf KX) mg "parted" ["top", "bottoms"] My.s_parted := by
      dsimp only [L2.KOf]
      refine' L2.funAt_mk KX G (fun _ _ _ _ _ _ us hl => match us, hl with | [_, _], _ => rfl) ?a ?l ?c ?k
      (case a => k_is); (case l => k_is); (case c => k_is); (case k => k_is)
    have f_weighed : L2.FunAt (L2.KOf KX) mg "weighed" ["some"] My.s_weighed := by
      dsimp only [L2.KOf]
      refine' L2.funAt_mk KX G (fun _ _ _ _ _ _ us hl => match us, hl with | [_], _ => rfl) ?a ?l ?c ?k
      (case a => k_is); (case l => k_is); (case c => k_is); (case k => k_is)
    have f_alone : L2.FunAt (L2.KOf KX) mg "alone" ["load"] My.s_alone := by
      dsimp only [L2.KOf]
      refine' L2.funAt_mk KX G (fun _ _ _ _ _ _ us hl => match us, hl with | [_], _ => rfl) ?a ?l ?c ?k
      (case a => k_is); (case l => k_is); (case c => k_is); (case k => k_is)
    have f_gathered : L2.FunAt (L2.KOf KX) mg "gathered" ["rows"] My.s_gathered := by
      dsimp only [L2.KOf]
      refine' L2.funAt_mk KX G (fun _ _ _ _ _ _ us hl => match us, hl with | [_], _ => rfl) ?a ?l ?c ?k
      (case a => k_is); (case l => k_is); (case c => k_is); (case k => k_is)
    have f_weights_of : L2.FunAt (L2.KOf KX) mg "weights_of" ["spread"] My.s_weights_of := by
      dsimp only [L2.KOf]
      refine' L2.funAt_mk KX G (fun _ _ _ _ _ _ us hl => match us, hl with | [_], _ => rfl) ?a ?l ?c ?k
      (case a => k_is); (case l => k_is); (case c => k_is); (case k => k_is)
    have f_spread_of : L2.FunAt (L2.KOf KX) mg "spread_of" ["weights", "bottoms"] My.s_spread_of := by
      dsimp only [L2.KOf]
      refine' L2.funAt_mk KX G (fun _ _ _ _ _ _ us hl => match us, hl with | [_, _], _ => rfl) ?a ?l ?c ?k
      (case a => k_is); (case l => k_is); (case c => k_is); (case k => k_is)
    have f_come : L2.FunAt (L2.KOf KX) mg "come" ["chances", "weights"] My.s_come := by
      dsimp only [L2.KOf]
      refine' L2.funAt_mk KX G (fun _ _ _ _ _ _ us hl => match us, hl with | [_, _], _ => rfl) ?a ?l ?c ?k
      (case a => k_is); (case l => k_is); (case c => k_is); (case k => k_is)
    have f_ask_boxes : L2.FunAt (L2.KOf KX) mg "ask_boxes" ["ranks", "load"] My.s_ask_boxes := by
      dsimp only [L2.KOf]
      refine' L2.funAt_mk KX G (fun _ _ _ _ _ _ us hl => match us, hl with | [_, _], _ => rfl) ?a ?l ?c ?k
      (case a => k_is); (case l => k_is); (case c => k_is); (case k => k_is)
    have f_after : L2.FunAt (L2.KOf KX) mg "after" ["rule", "spread", "many"] My.s_after := by
      dsimp only [L2.KOf]
      refine' L2.funAt_mk KX G (fun _ _ _ _ _ _ us hl => match us, hl with | [_, _, _], _ => rfl) ?a ?l ?c ?k
      (case a => k_is); (case l => k_is); (case c => k_is); (case k => k_is)
    have f_put : L2.FunAt (L2.KOf KX) mg "put" ["rule", "spread"] My.s_put := by
      dsimp only [L2.KOf]
      refine' L2.funAt_mk KX G (fun _ _ _ _ _ _ us hl => match us, hl with | [_, _], _ => rfl) ?a ?l ?c ?k
      (case a => k_is); (case l => k_is); (case c => k_is); (case k => k_is)
    have f_l_pen : L2.FunAt (L2.KOf KX) mg "_law_pen" ["_law_script"] My.s_l_pen := by
      dsimp only [L2.KOf]
      refine' L2.funAt_mk KX G (fun _ _ _ _ _ _ us hl => match us, hl with | [_], _ => rfl) ?a ?l ?c ?k
      (case a => k_is); (case l => k_is); (case c => k_is); (case k => k_is)
    have f_l_draw : L2.FunAt (L2.KOf KX) mg "_law_draw" ["_law_pen_here", "_law_many"] My.s_l_draw := by
      dsimp only [L2.KOf]
      refine' L2.funAt_mk KX G (fun _ _ _ _ _ _ us hl => match us, hl with | [_, _], _ => rfl) ?a ?l ?c ?k
      (case a => k_is); (case l => k_is); (case c => k_is); (case k => k_is)
    have f_l_measure : L2.FunAt (L2.KOf KX) mg "_law_measure" ["_law_a", "_law_b"] My.s_l_measure := by
      dsimp only [L2.KOf]
      refine' L2.funAt_mk KX G (fun _ _ _ _ _ _ us hl => match us, hl with | [_, _], _ => rfl) ?a ?l ?c ?k
      (case a => k_is); (case l => k_is); (case c => k_is); (case k => k_is)
    have f_l_lowest : L2.FunAt (L2.KOf KX) mg "_law_lowest" ["_law_top", "_law_bottom"] My.s_l_lowest := by
      dsimp only [L2.KOf]
      refine' L2.funAt_mk KX G (fun _ _ _ _ _ _ us hl => match us, hl with | [_, _], _ => rfl) ?a ?l ?c ?k
      (case a => k_is); (case l => k_is); (case c => k_is); (case k => k_is)
    have f_l_weights : L2.FunAt (L2.KOf KX) mg "_law_weights" ["_law_pen_here", "_law_n"] My.s_l_weights := by
      dsimp only [L2.KOf]
      refine' L2.funAt_mk KX G (fun _ _ _ _ _ _ us hl => match us, hl with | [_, _], _ => rfl) ?a ?l ?c ?k
      (case a => k_is); (case l => k_is); (case c => k_is); (case k => k_is)
    have f_l_rule : L2.FunAt (L2.KOf KX) mg "_law_rule" ["_law_weights_here"] My.s_l_rule := by
      dsimp only [L2.KOf]
      refine' L2.funAt_mk KX G (fun _ _ _ _ _ _ us hl => match us, hl with | [_], _ => rfl) ?a ?l ?c ?k
      (case a => k_is); (case l => k_is); (case c => k_is); (case k => k_is)
    have f_l_load : L2.FunAt (L2.KOf KX) mg "_law_load" ["_law_pen_here", "_law_n", "_law_balls"] My.s_l_load := by
      dsimp only [L2.KOf]
      refine' L2.funAt_mk KX G (fun _ _ _ _ _ _ us hl => match us, hl with | [_, _, _], _ => rfl) ?a ?l ?c ?k
      (case a => k_is); (case l => k_is); (case c => k_is); (case k => k_is)
    have f_l_counted : L2.FunAt (L2.KOf KX) mg "_law_counted" ["_law_pen_here", "_law_n", "_law_balls"] My.s_l_counted := by
      dsimp only [L2.KOf]
      refine' L2.funAt_mk KX G (fun _ _ _ _ _ _ us hl => match us, hl with | [_, _, _], _ => rfl) ?a ?l ?c ?k
      (case a => k_is); (case l => k_is); (case c => k_is); (case k => k_is)
    have f_l_spread : L2.FunAt (L2.KOf KX) mg "_law_spread" ["_law_found"] My.s_l_spread := by
      dsimp only [L2.KOf]
      refine' L2.funAt_mk KX G (fun _ _ _ _ _ _ us hl => match us, hl with | [_], _ => rfl) ?a ?l ?c ?k
      (case a => k_is); (case l => k_is); (case c => k_is); (case k => k_is)
    have f_l_come : L2.FunAt (L2.KOf KX) mg "_law_come" ["_law_found", "_law_weights_here"] My.s_l_come := by
      dsimp only [L2.KOf]
      refine' L2.funAt_mk KX G (fun _ _ _ _ _ _ us hl => match us, hl with | [_, _], _ => rfl) ?a ?l ?c ?k
      (case a => k_is); (case l => k_is); (case c => k_is); (case k => k_is)
    have f_l_sizes : L2.FunAt (L2.KOf KX) mg "_law_sizes" ["_law_pen_here", "_law_way"] My.s_l_sizes := by
      dsimp only [L2.KOf]
      refine' L2.funAt_mk KX G (fun _ _ _ _ _ _ us hl => match us, hl with | [_, _], _ => rfl) ?a ?l ?c ?k
      (case a => k_is); (case l => k_is); (case c => k_is); (case k => k_is)
    have h_MOST_LOADS : ∃ tk : Tok, mg "MOST_LOADS" = some (.int 60 tk) := by
      refine' My.mr_MOST_LOADS KX G ?a
      (case a => first | k_is | exact rfl)
    obtain ⟨tk_MOST_LOADS, h_MOST_LOADS⟩ := h_MOST_LOADS
    refine' My.all_mk KX G hmg T ⟨f_falling, f_put_at, f_measure, f_parted, f_weighed, f_alone, f_gathered, f_weights_of, f_spread_of, f_come, f_ask_boxes, f_after, f_put, f_l_pen, f_l_draw, f_l_measure, f_l_lowest, f_l_weights, f_l_rule, f_l_load, f_l_counted, f_l_spread, f_l_come, f_l_sizes⟩ h_MOST_LOADS ?a3 ?l3 ?c3 ?k3
    (case a3 => k_is); (case l3 => k_is); (case c3 => k_is); (case k3 => k_is)

