import PyProof.Rows.All
import KE.KRevIter
import PyProof.FactsAll.range_2
import Wide.All
import OpenK.AllK
import Wide.FinOn
import PyProof.EqAt
import PyProof.EqKinds
import PyProof.NeKinds
import PyProof.TupleCall
import PyProof.CompFree
import PyProof.CompMap
import PyProof.ReprRoads
import PyProof.CallFns
import PyProof.ReprBulk
import PyProof.CompUse
import KE.KRevSl
import PyProof.Rows.SetFrom
import PyProof.AttrMissSeq
import KE.KDictOf
import PyProof.DictUpdate
import PyProof.ListRange
import PyProof.Rows.SumAny
import PyProof.Rows.SortRev
import PyProof.Rows.CallKwBuiltin
import PyProof.ListMulAny
import PyProof.TupleOps
import PyProof.ZipIter
import PyProof.Draws
import PyProof.TupleIter
import PyProof.EnumMake
import PyProof.DictCompW
import PyProof.DictItems
import PyProof.DictItemsLoops
import PyProof.ExcAttrAll.ValueError
import KE.KTryMore
import KE.KLam
import KE.KTupSum
import KE.KMinKey
import PyProof.FactsAll.tuple_0
import PyProof.FactsAll.tuple_2
import PyProof.FactsAll.tuple_3
import KE.KSortTup
import PyProof.DictValues
import PyProof.DictWalks
import PyProof.SumWalkG
import PyProof.CollectWalk
import PyProof.FactsAll.dict_values
import KE.KDictList
import KE.KItemsList
import PyProof.TupleKey
import PyProof.DictDisplay
import PyProof.DictTable
import PySem.Challenge.RW_emptierbox_k21_means
set_option Elab.async false
set_option linter.all false
set_option maxRecDepth 100000
set_option maxHeartbeats 4000000
namespace MA
/-- the greatest common measure, as an int -/
def gI (a b : Int) : Int := (Int.gcd a b : Int)
theorem gI_abs (a b : Int) : gI (if a < 0 then -a else a) (if b < 0 then -b else b) = gI a b := by
  unfold gI Int.gcd
  congr 2 <;> (split <;> omega)
theorem gI_step {a b : Int} (ha : 0 ≤ a) : gI b (a % b) = gI a b := by
  unfold gI
  congr 1
  rw [Int.gcd_comm a b]
  unfold Int.gcd
  have e : (a % b).natAbs = a.natAbs % b.natAbs := by
    rw [Int.natAbs_emod_of_nonneg ha]
  rw [e, Nat.gcd_comm b.natAbs (a.natAbs % b.natAbs), ← Nat.gcd_rec]
theorem gI_zero {a : Int} (ha : 0 ≤ a) : gI a 0 = a := by
  unfold gI
  rw [Int.gcd_zero_right]
  omega
theorem gI_pos_right {a b : Int} (hb : b ≠ 0) : 0 < gI a b := by
  have h : Int.gcd a b ≠ 0 := fun h => hb (Int.gcd_eq_zero_iff.mp h).2
  unfold gI; omega
theorem gI_dvd_left (a b : Int) : gI a b ∣ a := Int.gcd_dvd_left ..
theorem gI_dvd_right (a b : Int) : gI a b ∣ b := Int.gcd_dvd_right ..
theorem gI_comm (a b : Int) : gI a b = gI b a := by unfold gI; rw [Int.gcd_comm]
/-- share's answer -/
theorem share_pos {t b : Int} (hb : 0 < b) : t / gI t b = (Rat.divInt t b).num ∧ b / gI t b = ((Rat.divInt t b).den : Int) := by
  rw [Rat.num_divInt, Rat.den_divInt, if_neg (by omega), Int.sign_eq_one_of_pos hb, Int.one_mul, Int.gcd_comm b t]
  refine ⟨rfl, ?_⟩
  unfold gI
  rw [Int.natCast_ediv]
  congr 1
  omega
end MA

set_option Elab.async false
set_option linter.all false
set_option maxRecDepth 100000
set_option maxHeartbeats 4000000
/-! THE HAND LAYER, for ints, bools, texts, own classes, LISTS and tuples (index, slices, in, append, pop ..), calls, loops. Paste it whole ahead of your own text; what your proof does not reach may be deleted. -/
namespace L2
open PySem PySem.Spec PyProof.Rows

/-- a key: an int or a str -/
abbrev Key := Sum Int Str
def keyIs : Key → Value → Bool
  | .inl k, v => Value.isInt k v
  | .inr x, v => Value.isStrOf x v
def keyH (w : World) : Key → Int
  | .inl k => hashInt k
  | .inr x => hashStr w x
theorem keyIs_shape : ∀ {k : Key} {v : Value}, keyIs k v = true → (∃ i t, k = Sum.inl i ∧ v = Value.int i t) ∨ (∃ x t, k = Sum.inr x ∧ v = Value.str x t)
  | .inl i, v, h => by
    obtain ⟨t, e⟩ := Value.isInt_shape (k := i) (v := v) h
    exact .inl ⟨i, t, rfl, e⟩
  | .inr x, v, h => by
    obtain ⟨t, e⟩ := Value.isStrOf_shape (x := x) (v := v) h
    exact .inr ⟨x, t, rfl, e⟩
theorem keyIs_int (i : Int) (t : Tok) : keyIs (.inl i) (.int i t) = true := by simp [keyIs, Value.isInt]
theorem keyIs_str (x : Str) (t : Tok) : keyIs (.inr x) (.str x t) = true := by simp [keyIs, Value.isStrOf]
theorem key_ll (a b : Int) : decide ((Sum.inl a : Key) = Sum.inl b) = (a == b) := by
  by_cases e : a = b
  · subst e; simp
  · have h : ¬ (Sum.inl a : Key) = Sum.inl b := fun q => e (Sum.inl.inj q)
    rw [decide_eq_false h]
    exact (beq_eq_false_iff_ne.mpr e).symm
theorem key_rr (a b : Str) : decide ((Sum.inr a : Key) = Sum.inr b) = decide (a = b) := by
  by_cases e : a = b
  · subst e; simp
  · have h : ¬ (Sum.inr a : Key) = Sum.inr b := fun q => e (Sum.inr.inj q)
    rw [decide_eq_false h, decide_eq_false e]
theorem key_lr (a : Int) (b : Str) : decide ((Sum.inl a : Key) = Sum.inr b) = false := decide_eq_false (fun q => nomatch q)
theorem key_rl (a : Str) (b : Int) : decide ((Sum.inr a : Key) = Sum.inl b) = false := decide_eq_false (fun q => nomatch q)

def mixKind (prog : Program) (w : World) : PySem.KeyKind prog w Key where
  is := keyIs
  hash := keyH w
  inj := fun v a b ha hb => by
    rcases keyIs_shape ha with ⟨i, t, rfl, rfl⟩ | ⟨x, t, rfl, rfl⟩
    · rcases keyIs_shape hb with ⟨j, u, rfl, e⟩ | ⟨y, u, rfl, e⟩
      · injection e with e1 _; rw [e1]
      · exact nomatch e
    · rcases keyIs_shape hb with ⟨j, u, rfl, e⟩ | ⟨y, u, rfl, e⟩
      · exact nomatch e
      · injection e with e1 _; rw [e1]
  byValue := fun k v h => by
    rcases keyIs_shape h with ⟨i, t, rfl, rfl⟩ | ⟨x, t, rfl, rfl⟩ <;> rfl
  pyHash := fun hv h => by
    rcases keyIs_shape hv with ⟨i, t, rfl, rfl⟩ | ⟨x, t, rfl, rfl⟩
    · exact wpAny_pyHash_int h
    · exact wpAny_pyHash_str h
  eqBool := fun hu hv h => by
    rcases keyIs_shape hu with ⟨i, t, rfl, rfl⟩ | ⟨x, t, rfl, rfl⟩
    · rcases keyIs_shape hv with ⟨j, u, rfl, rfl⟩ | ⟨y, u, rfl, rfl⟩
      · rw [key_ll] at h; exact wpAny_eqBool_int h
      · rw [key_lr] at h; exact SeqAt.EqAt.int_str i t y u _ _ _ _ h
    · rcases keyIs_shape hv with ⟨j, u, rfl, rfl⟩ | ⟨y, u, rfl, rfl⟩
      · rw [key_rl] at h; exact SeqAt.EqAt.str_int x t j u _ _ _ _ h
      · rw [key_rr] at h; exact wpAny_eqBool_str h
  «strs» := fun k x t v h => by
    rcases keyIs_shape h with ⟨i, u, rfl, e⟩ | ⟨y, u, rfl, e⟩
    · exact nomatch e
    · injection e with e1 _
      subst e1
      cases v <;> rfl

theorem mixKind_int (prog : Program) (w : World) (i : Int) (t : Tok) : (mixKind prog w).is (.inl i) (.int i t) = true := keyIs_int i t
theorem mixKind_str (prog : Program) (w : World) (x : Str) (t : Tok) : (mixKind prog w).is (.inr x) (.str x t) = true := keyIs_str x t
end L2

namespace L2
open PySem PySem.Spec PyProof.Rows

/-- a value, without the heap -/
inductive V where
  | non | bl (b : Bool) | int (i : Int) | str (x : Str) | byt (b : Array UInt8) | flt (b : UInt64) | ref (a : Addr) | ty (n : String)
  deriving DecidableEq

def RelV : V → Value → Prop
  | .non, u => u = Value.none
  | .bl b, u => u = Value.bool b
  | .int i, u => ∃ t, u = Value.int i t
  | .str x, u => ∃ t, u = Value.str x t
  | .byt b, u => ∃ t, u = Value.bytes b t
  | .flt b, u => ∃ t, u = Value.float b t
  | .ref a, u => u = Value.ref a
  | .ty n, u => u = Value.type n

abbrev Vals : List V → List Value → Prop := Paired RelV
theorem Vals.length {xs : List V} {us : List Value} (r : Vals xs us) : xs.length = us.length := Paired.length r
theorem Vals.get : ∀ {xs : List V} {us : List Value} {i : Nat} {x : V}, Vals xs us → xs[i]? = some x → ∃ u, us[i]? = some u ∧ RelV x u
  | _, _, _, _, .nil, e => by simp at e
  | _, _, 0, _, .cons r _, e => by simp at e; subst e; exact ⟨_, rfl, r⟩
  | _, _, i + 1, x, .cons _ t, e => by
    obtain ⟨u, h1, h2⟩ := Vals.get (i := i) (x := x) t (by simpa using e)
    exact ⟨u, by simpa using h1, h2⟩
theorem Vals.set {x : V} {u : Value} (r : RelV x u) : ∀ {xs : List V} {us : List Value} (i : Nat), Vals xs us → Vals (xs.set i x) (us.set i u)
  | _, _, _, .nil => .nil
  | _, _, 0, .cons _ t => .cons r t
  | _, _, i + 1, .cons q t => .cons q (Vals.set r i t)
theorem Vals.append : ∀ {xs ys : List V} {us ws : List Value}, Vals xs us → Vals ys ws → Vals (xs ++ ys) (us ++ ws)
  | _, _, _, _, .nil, s => s
  | _, _, _, _, .cons r t, s => .cons r (Vals.append t s)
theorem Vals.take : ∀ {xs : List V} {us : List Value} (n : Nat), Vals xs us → Vals (xs.take n) (us.take n)
  | _, _, 0, _ => .nil
  | _, _, _ + 1, .nil => .nil
  | _, _, n + 1, .cons r t => .cons r (Vals.take n t)
theorem Vals.drop : ∀ {xs : List V} {us : List Value} (n : Nat), Vals xs us → Vals (xs.drop n) (us.drop n)
  | _, _, 0, r => r
  | _, _, _ + 1, .nil => .nil
  | _, _, n + 1, .cons _ t => Vals.drop n t
def RelO : Option V → Option Value → Prop
  | some v, some u => RelV v u
  | none, none => True
  | _, _ => False
def KV {κ : Type} : List (κ × V) → List (κ × Value) → Prop := Paired fun (p : κ × V) (q : κ × Value) => p.1 = q.1 ∧ RelV p.2 q.2

/-- a key of a dict (00_mix): an int or a text -/
def kV : Key → V
  | .inl i => .int i
  | .inr x => .str x

/-- what stands at a tracked address -/
inductive HO where
  /-- a list -/
  | lst (xs : List V)
  /-- a tuple (never changes) -/
  | tup (xs : List V)
  /-- a dict whose keys are ints and texts; one whose keys are tuples of ints and texts (the empty one is both) -/
  | dK (kvs : List (Key × V)) | dT (kvs : List (List Key × V))
  /-- a set of ints: its members, its size -/
  | set (S : Int → Bool) (n : Nat)
  /-- an instance of the class at C, its dict at dx, its attributes -/
  | ins (C dx : Addr) (fs : List (Str × V))
  /-- the dict of the instance at x -/
  | own (x : Addr)
  /-- the dict of an exception -/
  | xd (fs : List (Str × V))
  /-- a bound method, f of x -/
  | met (f x : Addr)
  /-- a range object lo, lo + 1, .. below hi -/
  | rng (lo hi : Int)
  /-- a thing that is known to the object (the script; a dict while a loop walks it): read, never written while it is so -/
  | frz (o : Obj) (u : HO)
  /-- a code object's table -/
  | tbl (ps : Array Value)
  /-- the table of the lambdas of a def, whose qualname is q -/
  | tab (q : Str)
  /-- any other thing, by what is true of its one object (a def of one's own: SetO a S n := HO.ext fun h => ..) -/
  | ext (φ : Heap → Prop)

abbrev Hp := Addr → Option HO
def upd (H : Hp) (a : Addr) (o : HO) : Hp := fun b => if b = a then some o else H b
theorem upd_same {H : Hp} {a : Addr} {o : HO} : upd H a o a = some o := by unfold upd; rw [if_pos rfl]
theorem upd_ne {H : Hp} {a b : Addr} {o : HO} (h : b ≠ a) : upd H a o b = H b := by unfold upd; rw [if_neg h]
theorem upd_upd {H : Hp} {a : Addr} {o u : HO} : upd (upd H a o) a u = upd H a u := by
  funext b; unfold upd; split <;> rfl
/-- two objects of different content stand apart -/
theorem ne_of {H : Hp} {a b : Addr} {o u : HO} (h : H a = some o) (h' : H b = some u) (d : o ≠ u) : a ≠ b := by
  intro e; subst e; rw [h] at h'; exact d (Option.some.inj h')
theorem ne_of_none {H : Hp} {a b : Addr} {o : HO} (h : H a = some o) (h' : H b = none) : a ≠ b := by
  intro e; subst e; rw [h] at h'; cases h'

/-- a tuple, with no dict of its own -/
def IsTupN (h : Heap) (a : Addr) (items : Array Value) : Prop := ∃ o, h.get? a = some o ∧ o.cls = .type "tuple" ∧ ∃ n, o.data = .seq items n ∧ o.dict = none
theorem IsTupN.tup {h : Heap} {a : Addr} {items : Array Value} (x : IsTupN h a items) : PyProof.Rows.IsTup h a items := let ⟨o, e, c, n, d, _⟩ := x; ⟨o, e, c, n, d⟩
theorem IsTupN.new (h : Heap) (items : Array Value) : IsTupN (h.push { cls := .type "tuple", data := .seq items }) h.objs.size items := ⟨_, Heap.get?_push_size _ rfl, rfl, _, rfl, rfl⟩
theorem IsTupN.lt {h : Heap} {a : Addr} {items : Array Value} (x : IsTupN h a items) : a < h.objs.size := let ⟨_, e, _⟩ := x; Heap.lt_size e

section
variable (P : Program) (w : World)
def ObjOk (H : Hp) (h : Heap) (a : Addr) : HO → Prop
  | .lst xs => xs.length ≤ sizeLine ∧ ∃ (its : List Value) (n : Nat), Vals xs its ∧ h.get? a = some { cls := .type "list", data := .seq its.toArray n }
  | .tup xs => xs.length ≤ sizeLine ∧ ∃ its : List Value, Vals xs its ∧ IsTupN h a its.toArray
  | .dK kvs => kvs.length ≤ sizeLine ∧ (a == sysModules) = false ∧ ∃ vs, KV kvs vs ∧ h.DictOf (mixKind P w) a vs
  | .dT kvs => kvs.length ≤ sizeLine ∧ (a == sysModules) = false ∧ ∃ xs : List (List Key × Addr × Value),
      Paired (fun (p : List Key × V) (q : List Key × Addr × Value) => p.1 = q.1 ∧ H q.2.1 = some (.tup (p.1.map kV)) ∧ RelV p.2 q.2.2) kvs xs ∧
      ∃ o es ep, h.get? a = some o ∧ o.ExactDict ∧ o.data = .dict es ep ∧ es.toList = xs.map (entryOfKey (tupleKind (mixKind P w))) ∧ (xs.map (·.1)).Nodup
  | .set S n => h.SetOf (intKind P w) a S n
  | .ins C dx fs => H dx = some (.own a) ∧ fs.length ≤ 1000 ∧ dx ≠ a ∧ h.get? a = some (PySem.W.instObj C dx) ∧
      ∃ mA, h.Ns1 dx mA ∧ (∀ f, RelO (fs.lookup f) (mA f)) ∧ PySem.Within mA (fs.map (·.1))
  | .own _ => ∃ o, h.get? a = some o
  | .xd fs => ∃ mA, h.Ns1 a mA ∧ ∀ f, RelO (fs.lookup f) (mA f)
  | .rng lo hi => ∃ t u v, h.get? a = some { cls := .type "range", data := .fields #[.int lo t, .int hi u, .int 1 v] }
  | .frz o u => h.get? a = some o ∧ ObjOk H h a u
  | .tbl ps => h.get? a = some { cls := .none, data := .fields ps }
  | .tab q => ∃ ps : Array Value, h.get? a = some { cls := .none, data := .fields ps } ∧ TriplesOk ps.toList ∧ ∀ pos cv, codeAmong pos ps.toList = some cv →
      ∃ c oc vs t, cv = .ref c ∧ H c = some (.frz oc (.own 0)) ∧ oc.data = .fields vs ∧ vs[1]? = some (.str q t)
  | .met f x => h.get? a = some (PySem.W.methodObj (.ref f) (.ref x))
  | .ext φ => φ h ∧ (∃ o, h.get? a = some o) ∧ ∀ h1 h2 : Heap, φ h1 → (∀ o, h1.get? a = some o → h2.get? a = some o) → φ h2
/-- the abstract heap is held -/
def HOk (H : Hp) (h : Heap) : Prop := ∀ a o, H a = some o → ObjOk P w H h a o
end

section
variable {P : Program} {w : World} {H H' : Hp} {h h' : Heap} {a : Addr} {o : HO}
theorem ObjOk.lt (x : ObjOk P w H h a o) : a < h.objs.size := by
  cases o with
  | lst xs => obtain ⟨_, _, _, _, e⟩ := x; exact Heap.lt_size e
  | tup xs => obtain ⟨_, _, _, p⟩ := x; exact p.lt
  | dK kvs => obtain ⟨_, _, _, _, o, _, _, e, _⟩ := x; exact Heap.lt_size e
  | dT kvs => obtain ⟨_, _, _, _, o, _, _, e, _⟩ := x; exact Heap.lt_size e
  | set S n => obtain ⟨o, _, _, _, e, _⟩ := x; exact Heap.lt_size e
  | ins C dx fs => obtain ⟨_, _, _, e, _⟩ := x; exact Heap.lt_size e
  | own y => obtain ⟨_, e⟩ := x; exact Heap.lt_size e
  | xd fs => obtain ⟨_, ⟨_, _, _, e, _⟩, _⟩ := x; exact Heap.lt_size e
  | rng lo hi => obtain ⟨_, _, _, e⟩ := x; exact Heap.lt_size e
  | frz ob u => obtain ⟨e, _⟩ := x; exact Heap.lt_size e
  | tbl ps => exact Heap.lt_size (show h.get? a = some _ from x)
  | tab q => obtain ⟨_, e, _⟩ := x; exact Heap.lt_size e
  | met f y => exact Heap.lt_size (show h.get? a = some _ from x)
  | ext φ => obtain ⟨_, ⟨_, e⟩, _⟩ := x; exact Heap.lt_size e
theorem Paired.mapP {α β : Type} {F G : α → β → Prop} : ∀ {l₁ : List α} {l₂ : List β}, Paired F l₁ l₂ → (∀ a b, F a b → G a b) → Paired G l₁ l₂
  | _, _, .nil, _ => .nil
  | _, _, .cons r t, f => .cons (f _ _ r) (Paired.mapP t f)
/-- what an object's description leans on: its own object, its own dict, the tuples -/
theorem ObjOk.stay (x : ObjOk P w H h a o) (k : ∀ b u, (b = a ∨ H b = some (.own a)) → h.get? b = some u → h'.get? b = some u)
    (ho : ∀ b, H b = some (.own a) → H' b = some (.own a)) (ht : ∀ b xs, H b = some (.tup xs) → H' b = some (.tup xs)) (hz : ∀ b ob, H b = some (.frz ob (.own 0)) → H' b = some (.frz ob (.own 0)) := by exact fun _ _ q => q) : ObjOk P w H' h' a o := by
  induction o with
  | lst xs => obtain ⟨z, its, n, r, e⟩ := x; exact ⟨z, its, n, r, k _ _ (.inl rfl) e⟩
  | tup xs => obtain ⟨z, its, r, ob, e, c⟩ := x; exact ⟨z, its, r, ob, k _ _ (.inl rfl) e, c⟩
  | dK kvs => obtain ⟨z, y, vs, r, ob, es, ep, e, c⟩ := x; exact ⟨z, y, vs, r, ob, es, ep, k _ _ (.inl rfl) e, c⟩
  | dT kvs =>
    obtain ⟨z, y, xs, r, ob, es, ep, e, c⟩ := x
    exact ⟨z, y, xs, Paired.mapP r fun p q z => ⟨z.1, ht _ _ z.2.1, z.2.2⟩, ob, es, ep, k _ _ (.inl rfl) e, c⟩
  | set S n => obtain ⟨ob, es, ep, t, e, c⟩ := x; exact ⟨ob, es, ep, t, k _ _ (.inl rfl) e, c⟩
  | ins C dx fs =>
    obtain ⟨d, z, ne, e, mA, ⟨od, es, ep, e2, c⟩, r⟩ := x
    exact ⟨ho _ d, z, ne, k _ _ (.inl rfl) e, mA, ⟨od, es, ep, k _ _ (.inr d) e2, c⟩, r⟩
  | own y => obtain ⟨ob, e⟩ := x; exact ⟨ob, k _ _ (.inl rfl) e⟩
  | xd fs => obtain ⟨mA, ⟨od, es, ep, e, c⟩, r⟩ := x; exact ⟨mA, ⟨od, es, ep, k _ _ (.inl rfl) e, c⟩, r⟩
  | rng lo hi => obtain ⟨t, u, v, e⟩ := x; exact ⟨t, u, v, k _ _ (.inl rfl) e⟩
  | frz ob u ih => obtain ⟨e, q⟩ := x; exact ⟨k _ _ (.inl rfl) e, ih q⟩
  | tab q =>
    obtain ⟨ps, e, tr, cs⟩ := x
    refine ⟨ps, k a _ (.inl rfl) e, tr, fun pos cv hc => ?_⟩
    obtain ⟨c, oc, vs, t, h1, h2, h3⟩ := cs pos cv hc
    exact ⟨c, oc, vs, t, h1, hz c oc h2, h3⟩
  | tbl ps =>
    have e : h.get? a = some { cls := .none, data := .fields ps } := x
    show h'.get? a = some { cls := .none, data := .fields ps }
    exact k a _ (.inl rfl) e
  | met f y =>
    have e : h.get? a = some (PySem.W.methodObj (.ref f) (.ref y)) := x
    show h'.get? a = some (PySem.W.methodObj (.ref f) (.ref y))
    exact k a _ (.inl rfl) e
  | ext φ => obtain ⟨p, ⟨o, e⟩, st⟩ := x; exact ⟨st _ _ p fun o q => k _ _ (.inl rfl) q, ⟨o, k _ _ (.inl rfl) e⟩, st⟩
theorem HOk.lt (x : HOk P w H h) (e : H a = some o) : a < h.objs.size := (x a o e).lt
theorem HOk.fresh (x : HOk P w H h) (e : h.objs.size ≤ a) : H a = none := by
  cases q : H a with
  | none => rfl
  | some u => exact absurd (Nat.lt_of_lt_of_le (x.lt q) e) (Nat.lt_irrefl _)
/-- every object of the heap is kept -/
theorem HOk.kept (x : HOk P w H h) (k : ∀ b u, h.get? b = some u → h'.get? b = some u) : HOk P w H h' := fun a o e =>
  (x a o e).stay (fun b u _ q => k b u q) (fun _ q => q) fun _ _ q => q
/-- a new object is laid and tracked -/
theorem HOk.laid (x : HOk P w H h) (k : ∀ b u, h.get? b = some u → h'.get? b = some u) (hp : h.objs.size ≤ a) (new : ObjOk P w (upd H a o) h' a o) : HOk P w (upd H a o) h' := fun b u e => by
  have hn := x.fresh hp
  by_cases hb : b = a
  · subst hb; rw [upd_same] at e; cases e; exact new
  · rw [upd_ne hb] at e
    exact (x b u e).stay (fun c v _ q => k c v q) (fun c q => by rw [upd_ne (ne_of_none q hn)]; exact q) (fun c xs q => by rw [upd_ne (ne_of_none q hn)]; exact q) fun c ob q => by rw [upd_ne (ne_of_none q hn)]; exact q
end

/-- what may be read as u: it is u, or a known u -/
def Rd (H : Hp) (a : Addr) (u : HO) : Prop := H a = some u ∨ ∃ o, H a = some (.frz o u)
theorem Rd.ok {P : Program} {w : World} {H : Hp} {h : Heap} {a : Addr} {u : HO} (r : Rd H a u) (x : HOk P w H h) : ObjOk P w H h a u := by
  rcases r with r | ⟨o, r⟩
  · exact x a u r
  · obtain ⟨_, q⟩ := x a _ r
    exact q
/-- what may be written -/
def Mut : Option HO → Prop
  | some (.lst _) => True
  | some (.dK _) => True
  | some (.dT _) => True
  | some (.set _ _) => True
  | some (.ins _ _ _) => True
  | some (.ext _) => True
  | some (.tab _) => True
  | _ => False
section
variable {P : Program} {w : World} {H : Hp} {h h' : Heap} {x e : Addr} {o' : HO}
/-- the object at e is changed: x itself, or the dict of the instance x -/
theorem HOk.write (ok : HOk P w H h) (mu : Mut (H x)) (he : e = x ∨ H e = some (.own x)) (k : ∀ b u, b ≠ e → h.get? b = some u → h'.get? b = some u) (heo : ∃ u, h'.get? e = some u)
    (new : ObjOk P w (upd H x o') h' x o') : HOk P w (upd H x o') h' := fun b u q => by
  have nown : ∀ c y, H c = some (.own y) → c ≠ x := fun c y r z => by subst z; rw [r] at mu; exact mu
  have ntup : ∀ c xs, H c = some (.tup xs) → c ≠ x := fun c xs r z => by subst z; rw [r] at mu; exact mu
  by_cases hb : b = x
  · subst hb; rw [upd_same] at q; cases q; exact new
  · rw [upd_ne hb] at q
    by_cases hbe : b = e
    · have q' : H b = some (.own x) := by
        rcases he with z | z
        · exact absurd (hbe.trans z) hb
        · rw [hbe]; exact z
      rw [q] at q'; cases q'
      obtain ⟨v, hv⟩ := heo
      exact ⟨v, by rw [hbe]; exact hv⟩
    · refine (ok b u q).stay (fun c v hc r => k c v ?_ r) (fun c r => by rw [upd_ne (nown c b r)]; exact r) (fun c xs r => by rw [upd_ne (ntup c xs r)]; exact r) (fun c ob r => by rw [upd_ne (fun z => by subst z; rw [r] at mu; exact mu)]; exact r)
      rcases hc with rfl | hc
      · exact hbe
      · rintro rfl
        rcases he with z | z
        · exact nown c b hc z
        · rw [hc] at z; cases z; exact hb rfl
end

/-! ### kept unless tracked; of the frames at fs (the callers') the slots may change (an exception that passes writes there); of the records at ex (iterators) nothing is said -/
structure Un (fs ex : List Addr) (H H' : Hp) (h h' : Heap) : Prop where
  keep : ∀ b o, h.get? b = some o → H b = none → b ∉ fs → b ∉ ex → h'.get? b = some o
  slot : ∀ b o, h.get? b = some o → H b = none → b ∈ fs → b ∉ ex → ∃ sl, h'.get? b = some { o with slots := sl }
  free : ∀ b o, h.get? b = some o → H b = none → b ∉ ex → H' b = none
  there : ∀ b o, h.get? b = some o → b ∉ ex → ∃ o', h'.get? b = some o'
  tups : ∀ b xs, H b = some (.tup xs) → H' b = some (.tup xs)
  frzs : ∀ b o u, H b = some (.frz o u) → H' b = some (.frz o u)
  tbls : ∀ b ps, H b = some (.tbl ps) → ∃ more, H' b = some (.tbl (ps ++ more))
section
variable {fs fs' ex ex' : List Addr} {H H1 H2 : Hp} {h h1 h2 h' : Heap} {a x e : Addr} {o : HO}
theorem Un.any (u : Un fs ex H H1 h h1) {b : Addr} {ob : Obj} (q : h.get? b = some ob) (n : H b = none) (hx : b ∉ ex) : ∃ sl, h1.get? b = some { ob with slots := sl } := by
  by_cases hb : b ∈ fs
  · exact u.slot b ob q n hb hx
  · exact ⟨ob.slots, u.keep b ob q n hb hx⟩
theorem Un.kept (k : ∀ b u, h.get? b = some u → h'.get? b = some u) : Un fs ex H H h h' :=
  ⟨fun b ob q _ _ _ => k b ob q, fun b ob q _ _ _ => ⟨ob.slots, k b ob q⟩, fun _ _ _ n _ => n, fun b ob q _ => ⟨ob, k b ob q⟩, fun _ _ q => q, fun _ _ _ q => q, fun _ ps q => ⟨#[], by rw [q]; simp⟩⟩
theorem Un.refl : Un fs ex H H h h := Un.kept fun _ _ q => q
theorem Un.laid (k : ∀ b u, h.get? b = some u → h'.get? b = some u) (hp : h.objs.size ≤ a) (hn : H a = none) : Un fs ex H (upd H a o) h h' where
  keep := fun b u q _ _ _ => k b u q
  slot := fun b u q _ _ _ => ⟨u.slots, k b u q⟩
  free := fun b u q n _ => by rw [upd_ne (Nat.ne_of_lt (Nat.lt_of_lt_of_le (Heap.lt_size q) hp))]; exact n
  there := fun b u q _ => ⟨u, k b u q⟩
  tups := fun b xs q => by rw [upd_ne (ne_of_none q hn)]; exact q
  frzs := fun b u xs q => by rw [upd_ne (ne_of_none q hn)]; exact q
  tbls := fun b ps q => ⟨#[], by rw [upd_ne (ne_of_none q hn), q]; simp⟩
theorem Un.write (mu : Mut (H x)) (he : e = x ∨ H e = some (.own x)) (k : ∀ b u, b ≠ e → h.get? b = some u → h'.get? b = some u) (heo : ∃ u, h'.get? e = some u) : Un fs ex H (upd H x o) h h' := by
  have hx : ∀ b, H b = none → b ≠ x := fun b n z => by subst z; rw [n] at mu; exact mu
  have hb : ∀ b, H b = none → b ≠ e := fun b n z => by
    subst z
    rcases he with r | r
    · exact hx b n r
    · rw [n] at r; cases r
  have hm : ∀ b u, H b = some u → ¬ Mut (some u) → b ≠ x := fun b u q nm z => by subst z; rw [q] at mu; exact nm mu
  refine ⟨fun b u q n _ _ => k b u (hb b n) q, fun b u q n _ _ => ⟨u.slots, k b u (hb b n) q⟩, fun b u q n _ => by rw [upd_ne (hx b n)]; exact n, fun b u q _ => ?_,
    fun b xs q => by rw [upd_ne (hm b _ q fun z => z)]; exact q, fun b u xs q => by rw [upd_ne (hm b _ q fun z => z)]; exact q, fun b ps q => ⟨#[], by rw [upd_ne (hm b _ q fun z => z), q]; simp⟩⟩
  by_cases hbe : b = e
  · subst hbe; exact heo
  · exact ⟨u, k b u hbe q⟩
end

/-! ### the heap without what is tracked -/
def trk (h : Heap) (H : Hp) : List Addr := (List.range h.objs.size).filter fun a => (H a).isSome
def hidT (h : Heap) (H : Hp) : Heap := PySem.W.hideAll h (trk h H)
theorem hidT_size (h : Heap) (H : Hp) : (hidT h H).objs.size = h.objs.size := PySem.W.hideAll_size _ _
theorem hidT_get {h : Heap} {H : Hp} {b : Addr} {o : Obj} (e : h.get? b = some o) (n : H b = none) : (hidT h H).get? b = some o :=
  PySem.W.hideAll_get _ e fun hm => by
    have q : (H b).isSome = true := (List.mem_filter.mp hm).2
    rw [n] at q; simp at q
theorem of_hidT {h : Heap} {H : Hp} {b : Addr} {o : Obj} (e : (hidT h H).get? b = some o) : h.get? b = some o ∧ H b = none := by
  have e' : h.get? b = some o := PySem.W.of_hideAll (trk h H) e
  refine ⟨e', ?_⟩
  cases q : H b with
  | none => rfl
  | some x =>
    have hm : b ∈ trk h H := List.mem_filter.mpr ⟨List.mem_range.mpr (Heap.lt_size e'), by simp [q]⟩
    have z : (hidT h H).get? b = none := PySem.W.hideAll_none (trk h H) hm
    rw [z] at e; cases e

/-! ### OpenK's ledger, filled with every new object but one -/
end L2

namespace L2
open PySem PySem.Spec PyProof.Rows

/-- the module's facts, over the base: the heap at the law's entry without what is tracked there -/
structure Mod (K : PySem.W.Frag) (mg : Str → Option Value) (base : Heap) : Prop where
  kin : K.In base
  glob : base.Ns mainGlobals mg
  blt : ∃ mb, base.Ns builtinsNs mb ∧ ∀ x : Str, x ≠ "__name__" → mb x = bootBuiltins x
  nolimit : base.NoLimit

/-- the context: a def's body (or a comprehension's block) running. base: fixed through the whole law; s₀, H₀: the entry; outer: the frames whose slots others may change (a def's callers); stack: all frames that run;
   ex: iterators that were made ahead of the entry and are walked here (a comprehension's); fn: the names whose cells were made at the entry (a def: all; a comprehension's block: its own); calm: not within an except suite; pn: pins that every state bears; xe: what is wanted of an exception that leaves the code -/
structure Cx where
  prog : Program
  w : World
  K : PySem.W.Frag
  mg : Str → Option Value
  base : Heap
  A : Around
  N : List Str
  s₀ : Shared
  H₀ : Hp
  env : Env
  outer : List Env
  stack : List Env
  ex : List Addr
  fn : Str → Bool
  calm : Bool
  pn : List (Addr × Obj)
  xe : Value → Shared → Prop
/-- the callers' frames -/
def frs (l : List Env) : List Addr := l.filterMap (·.frame)
abbrev Cx.fs (X : Cx) : List Addr := frs X.outer

def Vis (sc : Scope) (x : Str) : Prop := sc.names.lookup x = some .local ∨ sc.names.lookup x = some .cell ∨ sc.names.lookup x = some .free
def Loc (sc : Scope) (x : Str) : Prop := sc.names.lookup x = some .local ∨ sc.names.lookup x = some .cell
def Look (env : Env) (h : Heap) (m : Str → Option Value) (x : Str) (u : Value) : Prop :=
  (env.kindOf x = some .local ∧ m x = some u) ∨ ((env.kindOf x = some .cell ∨ env.kindOf x = some .free) ∧ ∃ c, env.cells.lookup x = some c ∧ h.IsCell c (some u))

structure Cx.Ok (X : Cx) : Prop where
  mod : Mod X.K X.mg X.base
  kind : X.env.scope.kind = .function
  glob : X.env.globals = mainGlobals
  blt : X.env.builtins = builtinsNs
  above : X.s₀.heap.objs.size ≤ X.env.locals
  inj : ∀ x y c, X.env.cells.lookup x = some c → X.env.cells.lookup y = some c → x = y
  has : ∀ x, (X.env.kindOf x = some .cell ∨ X.env.kindOf x = some .free) → ∃ c, X.env.cells.lookup x = some c
  cab : ∀ x c, X.fn x = true → X.env.cells.lookup x = some c → X.s₀.heap.objs.size ≤ c
  hd : X.calm = true → X.A.handled = none
  frames : X.A.frames = some X.stack
  stk : X.stack = X.outer ∨ (X.stack = X.env :: X.outer ∧ X.env.frame = some X.env.locals)
  exf : ∀ b ∈ X.ex, b ≠ X.env.locals ∧ ∀ x c, X.env.cells.lookup x = some c → c ≠ b
  bs : ∀ b o, X.base.get? b = some o → X.s₀.heap.get? b = some o ∧ X.H₀ b = none
  bsz : X.base.objs.size ≤ X.s₀.heap.objs.size
  noex : ∀ b o, X.base.get? b = some o → b ∉ X.ex
  exfs : ∀ b ∈ X.ex, b ∉ X.fs
  funs : X.s₀.heap.FunFrames X.base X.outer
  frf : ∀ b ∈ X.fs, X.H₀ b = none

structure Inv (X : Cx) (pins : List (Addr × Obj)) (σ : List (Option V)) (H : Hp) (s : Shared) : Prop where
  ok : X.Ok
  os : s.os = X.s₀.os
  bare : AllBare s.gens
  base : Un X.fs X.ex X.H₀ H X.s₀.heap s.heap
  loc : ∃ m, s.heap.Ns X.env.locals m ∧ ∀ (i : Nat) (x : Str) (v : V), X.N[i]? = some x → σ[i]? = some (some v) → Vis X.env.scope x → ∃ u, RelV v u ∧ Look X.env s.heap m x u
  cell : ∀ x c, X.env.cells.lookup x = some c → ∃ v, s.heap.IsCell c v
  free : H X.env.locals = none
  freeC : ∀ x c, X.env.cells.lookup x = some c → H c = none
  pin : ∀ p ∈ X.pn ++ pins, s.heap.get? p.1 = some p.2 ∧ H p.1 = none ∧ p.1 ≠ X.env.locals ∧ p.1 ∉ X.fs ∧ ∀ v, p.2.data ≠ .cell v
  hok : HOk X.prog X.w H s.heap
  len : σ.length = X.N.length

section
variable {X : Cx} {pins : List (Addr × Obj)} {σ : List (Option V)} {H H' : Hp} {s : Shared} {h' : Heap}

theorem Cx.Ok.nofr (ok : X.Ok) {b : Addr} {o : Obj} (e : X.base.get? b = some o) : b ∉ X.fs := fun hb => by
  have := (ok.funs.mem hb).1
  rw [e] at this; cases this
theorem Inv.bs (I : Inv X pins σ H s) : ∀ b o, X.base.get? b = some o → s.heap.get? b = some o ∧ H b = none := fun b o e =>
  ⟨I.base.keep b o (I.ok.bs b o e).1 (I.ok.bs b o e).2 (I.ok.nofr e) (I.ok.noex b o e), I.base.free b o (I.ok.bs b o e).1 (I.ok.bs b o e).2 (I.ok.noex b o e)⟩
theorem Inv.bk (I : Inv X pins σ H s) : ∀ b o, X.base.get? b = some o → s.heap.get? b = some o := fun b o e => (I.bs b o e).1
theorem Inv.mod (I : Inv X pins σ H s) : Mod X.K X.mg X.base := I.ok.mod
theorem Inv.kIn (I : Inv X pins σ H s) : X.K.In s.heap := I.ok.mod.kin.keeps I.bk
theorem Inv.lt (I : Inv X pins σ H s) : X.env.locals < s.heap.objs.size := let ⟨_, hn, _⟩ := I.loc; hn.lt
theorem Inv.sz (I : Inv X pins σ H s) : X.s₀.heap.objs.size ≤ s.heap.objs.size := Nat.le_trans I.ok.above (Nat.le_of_lt I.lt)
theorem Inv.nofs (I : Inv X pins σ H s) {a : Addr} (h : s.heap.objs.size ≤ a) : a ∉ X.fs := fun hb => by
  obtain ⟨_, o, ho, _⟩ := I.ok.funs.mem hb
  exact absurd (Nat.lt_of_lt_of_le (Heap.lt_size ho) (Nat.le_trans I.sz h)) (Nat.lt_irrefl _)
theorem Inv.cne (I : Inv X pins σ H s) : ∀ x c, X.env.cells.lookup x = some c → c ≠ X.env.locals := fun x c e z => by
  obtain ⟨v, o, ho, hd⟩ := I.cell x c e
  obtain ⟨m, ⟨o', es, ep, ho', hd', _⟩, _⟩ := I.loc
  rw [z, ho'] at ho; cases ho; rw [hd'] at hd; cases hd
theorem Inv.funs (I : Inv X pins σ H s) : s.heap.FunFrames X.base X.outer := by
  have all : ∀ (l : List Env), (∀ b ∈ frs l, b ∈ X.fs) → X.s₀.heap.FunFrames X.base l → s.heap.FunFrames X.base l := by
    intro l
    induction l with
    | nil => intro _ _; trivial
    | cons env r ih =>
      intro hs hl
      obtain ⟨hk, ⟨L, o, hf, hn, ho, hd⟩, hr⟩ := hl
      have hL : L ∈ X.fs := hs L (by unfold frs; rw [List.filterMap_cons, hf]; exact List.mem_cons_self)
      obtain ⟨sl, e⟩ := I.base.slot L o ho (I.ok.frf L hL) hL fun z => I.ok.exfs L z hL
      exact ⟨hk, ⟨L, _, hf, hn, e, hd⟩, ih (fun b hb => hs b (by unfold frs; rw [List.filterMap_cons, hf]; exact List.mem_cons_of_mem _ hb)) hr⟩
  exact all X.outer (fun _ hb => hb) I.ok.funs

/-- the frames that run, for a call -/
theorem Inv.stack (I : Inv X pins σ H s) : s.heap.FunFrames X.base X.stack := by
  rcases I.ok.stk with e | ⟨e, hf⟩
  · rw [e]; exact I.funs
  · rw [e]
    obtain ⟨m, hn, _⟩ := I.loc
    refine .cons (by rw [I.ok.kind]; decide) hf hn ?_ I.funs
    exact Heap.get?_none_of_le (Nat.le_trans I.ok.bsz I.ok.above)
theorem Inv.stkSub (I : Inv X pins σ H s) : ∀ b ∈ frs X.stack, b ∈ X.env.locals :: X.fs := fun b hb => by
  rcases I.ok.stk with e | ⟨e, hf⟩
  · rw [e] at hb; exact List.mem_cons_of_mem _ hb
  · rw [e] at hb
    unfold frs at hb
    rw [List.filterMap_cons, hf] at hb
    exact hb
theorem Inv.stkFree (I : Inv X pins σ H s) : ∀ b ∈ frs X.stack, H b = none := fun b hb => by
  rcases List.mem_cons.mp (I.stkSub b hb) with e | hb
  · rw [e]; exact I.free
  · obtain ⟨_, o, ho, _⟩ := I.ok.funs.mem hb
    exact I.base.free b o ho (I.ok.frf b hb) fun z => I.ok.exfs b z hb

/-- THE STEP: the untracked objects but the frame and the records at ch are kept (the callers' frames up to slots), the frame's map is kept, the new abstract heap is held -/
theorem Inv.step {g' : Array GenState} {t' : Nat} {d' : Drawn} {ch : List Addr} (I : Inv X pins σ H s)
    (hch : ∀ b ∈ ch, (b ∈ X.ex ∨ X.s₀.heap.objs.size ≤ b) ∧ b ≠ X.env.locals ∧ (∀ x c, X.env.cells.lookup x = some c → c ≠ b) ∧ ∀ p ∈ X.pn ++ pins, p.1 ≠ b)
    (keep : ∀ b o, b ≠ X.env.locals → b ∉ X.fs → b ∉ ch → s.heap.get? b = some o → H b = none → h'.get? b = some o)
    (slot : ∀ b o, b ≠ X.env.locals → b ∈ X.fs → b ∉ ch → s.heap.get? b = some o → H b = none → ∃ sl, h'.get? b = some { o with slots := sl }) (free : ∀ b o, b ∉ ch → s.heap.get? b = some o → H b = none → H' b = none)
    (there : ∀ b o, b ∉ ch → s.heap.get? b = some o → ∃ o', h'.get? b = some o')
    (tups : ∀ b xs, H b = some (.tup xs) → H' b = some (.tup xs)) (frzs : ∀ b o u, H b = some (.frz o u) → H' b = some (.frz o u)) (tbls : ∀ b ps, H b = some (.tbl ps) → ∃ more, H' b = some (.tbl (ps ++ more)))
    (ns : ∀ m, s.heap.Ns X.env.locals m → h'.Ns X.env.locals m) (hok : HOk X.prog X.w H' h') (hg : AllBare g') :
    Inv X pins σ H' { s with heap := h', gens := g', drawn := d', toks := t' } := by
  have neL : ∀ b o, X.s₀.heap.get? b = some o → b ≠ X.env.locals := fun b o e => Nat.ne_of_lt (Nat.lt_of_lt_of_le (Heap.lt_size e) I.ok.above)
  have neC : ∀ b o, X.s₀.heap.get? b = some o → b ∉ X.ex → b ∉ ch := fun b o e hx hb => by
    rcases (hch b hb).1 with z | z
    · exact hx z
    · exact absurd (Nat.lt_of_lt_of_le (Heap.lt_size e) z) (Nat.lt_irrefl _)
  have cellK : ∀ x c, X.env.cells.lookup x = some c → ∀ v, s.heap.IsCell c v → h'.IsCell c v := fun x c e v ⟨o, ho, hd⟩ => by
    have nch : c ∉ ch := fun z => (hch c z).2.2.1 x c e rfl
    by_cases hc : c ∈ X.fs
    · obtain ⟨sl, q⟩ := slot c o (I.cne x c e) hc nch ho (I.freeC x c e)
      exact ⟨_, q, hd⟩
    · exact ⟨o, keep c o (I.cne x c e) hc nch ho (I.freeC x c e), hd⟩
  refine ⟨I.ok, I.os, hg, ⟨fun b o e n hb hx => ?_, fun b o e n hb hx => ?_, fun b o e n hx => ?_, fun b o e hx => ?_, fun b xs e => tups b xs (I.base.tups b xs e), fun b o xs e => frzs b o xs (I.base.frzs b o xs e), fun b ps e => ?_⟩, ?_, fun x c e => ?_, ?_, fun x c e => ?_, fun p hp => ?_, hok, I.len⟩
  · exact keep b o (neL b o e) hb (neC b o e hx) (I.base.keep b o e n hb hx) (I.base.free b o e n hx)
  · obtain ⟨sl, e1⟩ := I.base.slot b o e n hb hx
    obtain ⟨sl', e2⟩ := slot b _ (neL b o e) hb (neC b o e hx) e1 (I.base.free b o e n hx)
    exact ⟨sl', e2⟩
  · obtain ⟨o', e1⟩ := I.base.there b o e hx
    exact free b o' (neC b o e hx) e1 (I.base.free b o e n hx)
  · obtain ⟨o', e1⟩ := I.base.there b o e hx
    exact there b o' (neC b o e hx) e1
  · obtain ⟨m1, e1⟩ := I.base.tbls b ps e
    obtain ⟨m2, e2⟩ := tbls b _ e1
    exact ⟨m1 ++ m2, by rw [e2, Array.append_assoc]⟩
  · obtain ⟨m, hn, hl⟩ := I.loc
    refine ⟨m, ns m hn, fun i x v e1 e2 e3 => ?_⟩
    obtain ⟨u, r, l⟩ := hl i x v e1 e2 e3
    refine ⟨u, r, ?_⟩
    rcases l with l | ⟨k, c, e, z⟩
    · exact .inl l
    · exact .inr ⟨k, c, e, cellK x c e _ z⟩
  · obtain ⟨v, z⟩ := I.cell x c e
    exact ⟨v, cellK x c e v z⟩
  · obtain ⟨m, ⟨o, _, _, ho, _⟩, _⟩ := I.loc
    exact free _ o (fun z => (hch _ z).2.1 rfl) ho I.free
  · obtain ⟨v, o, ho, hd⟩ := I.cell x c e
    exact free c o (fun z => (hch c z).2.2.1 x c e rfl) ho (I.freeC x c e)
  · obtain ⟨e, n, ne, nf, d⟩ := I.pin p hp
    have nch : p.1 ∉ ch := fun z => (hch p.1 z).2.2.2 p hp rfl
    exact ⟨keep p.1 p.2 ne nf nch e n, free p.1 p.2 nch e n, ne, nf, d⟩
/-- .. where the frame's own object is kept too -/
theorem Inv.un {t' : Nat} (I : Inv X pins σ H s) (u : Un X.fs [] H H' s.heap h') (hok : HOk X.prog X.w H' h') : Inv X pins σ H' { s with heap := h', toks := t' } := by
  obtain ⟨m, ⟨o, es, ep, ho, r⟩, _⟩ := id I.loc
  obtain ⟨sl, hL⟩ := u.any ho I.free (by simp)
  exact I.step (g' := s.gens) (d' := s.drawn) (ch := []) (fun _ z => nomatch z) (fun b o _ hb _ e n => u.keep b o e n hb (by simp)) (fun b o _ hb _ e n => u.slot b o e n hb (by simp)) (fun b o _ e n => u.free b o e n (by simp)) (fun b o _ e => u.there b o e (by simp)) u.tups u.frzs u.tbls (fun m' hm => by
    obtain ⟨o', es', ep', ho', r'⟩ := hm
    rw [ho] at ho'; cases ho'
    exact ⟨_, es', ep', hL, r'⟩) hok I.bare
/-- behind a call (or a comprehension's block): the slots of this frame may have changed too, the records at ch may have turned -/
theorem Inv.call {g' : Array GenState} {t' : Nat} {d' : Drawn} {ch : List Addr} (I : Inv X pins σ H s) (u : Un (frs X.stack) ch H H' s.heap h') (hok : HOk X.prog X.w H' h') (hg : AllBare g')
    (hch : ∀ b ∈ ch, (b ∈ X.ex ∨ X.s₀.heap.objs.size ≤ b) ∧ b ≠ X.env.locals ∧ (∀ x c, X.env.cells.lookup x = some c → c ≠ b) ∧ ∀ p ∈ X.pn ++ pins, p.1 ≠ b) :
    Inv X pins σ H' { s with heap := h', gens := g', drawn := d', toks := t' } := by
  obtain ⟨m, ⟨o, es, ep, ho, r⟩, _⟩ := id I.loc
  obtain ⟨sl, hL⟩ := u.any ho I.free fun z => (hch _ z).2.1 rfl
  exact I.step (ch := ch) hch (fun b o hL hb hc e n => u.keep b o e n (fun z => (List.mem_cons.mp (I.stkSub b z)).elim hL hb) hc) (fun b o _ _ hc e n => u.any e n hc) (fun b o hc e n => u.free b o e n hc) (fun b o hc e => u.there b o e hc) u.tups u.frzs u.tbls (fun m' hm => by
    obtain ⟨o', es', ep', ho', r'⟩ := hm
    rw [ho] at ho'; cases ho'
    exact ⟨_, es', ep', hL, r'⟩) hok hg
/-- an untracked record of ours (an iterator) has turned -/
theorem Inv.turned {t' : Nat} {it : Addr} (I : Inv X pins σ H s) (k : ∀ b o, b ≠ it → s.heap.get? b = some o → h'.get? b = some o) (hn : H it = none) (hL : it ≠ X.env.locals)
    (h1 : it ∈ X.ex ∨ X.s₀.heap.objs.size ≤ it) (h2 : ∀ x c, X.env.cells.lookup x = some c → c ≠ it) (h3 : ∀ p ∈ X.pn ++ pins, p.1 ≠ it) : Inv X pins σ H { s with heap := h', toks := t' } := by
  have nit : ∀ b u, H b = some u → b ≠ it := fun b u e z => by rw [z, hn] at e; cases e
  refine I.step (g' := s.gens) (d' := s.drawn) (ch := [it]) (fun b hb => ?_) (fun b o _ _ hc e _ => k b o (fun z => hc (by simp [z])) e) (fun b o _ _ hc e _ => ⟨o.slots, k b o (fun z => hc (by simp [z])) e⟩) (fun _ _ _ _ n => n)
    (fun b o hc e => ⟨o, k b o (fun z => hc (by simp [z])) e⟩) (fun _ _ e => e) (fun _ _ _ e => e) (fun b ps e => ⟨#[], by rw [e]; simp⟩) (fun m hm => ?_) (fun b u e => ?_) I.bare
  · have e : b = it := by simpa using hb
    subst e
    exact ⟨h1, hL, h2, h3⟩
  · obtain ⟨o, es, ep, ho, r⟩ := hm
    exact ⟨o, es, ep, k _ o (Ne.symm hL) ho, r⟩
  · refine (I.hok b u e).stay (fun c v hc q => k c v ?_ q) (fun _ q => q) fun _ _ q => q
    rcases hc with z | z
    · rw [z]; exact nit b u e
    · exact nit c _ z
theorem Inv.tok (I : Inv X pins σ H s) (t : Nat) : Inv X pins σ H { s with toks := t } := I.un (h' := s.heap) (t' := t) Un.refl I.hok
/-- all objects kept -/
theorem Inv.kept {t' : Nat} (I : Inv X pins σ H s) (k : ∀ b u, s.heap.get? b = some u → h'.get? b = some u) : Inv X pins σ H { s with heap := h', toks := t' } := I.un (Un.kept k) (I.hok.kept k)
/-- a new object laid and tracked -/
theorem Inv.laid {a : Addr} {o : HO} {t' : Nat} (I : Inv X pins σ H s) (k : ∀ b u, s.heap.get? b = some u → h'.get? b = some u) (hp : s.heap.objs.size ≤ a) (new : ObjOk X.prog X.w (upd H a o) h' a o) :
    Inv X pins σ (upd H a o) { s with heap := h', toks := t' } := I.un (Un.laid k hp (I.hok.fresh hp)) (I.hok.laid k hp new)
/-- an object written -/
theorem Inv.write {x e : Addr} {o : HO} {t' : Nat} (I : Inv X pins σ H s) (mu : Mut (H x)) (he : e = x ∨ H e = some (.own x)) (k : ∀ b u, b ≠ e → s.heap.get? b = some u → h'.get? b = some u) (heo : ∃ u, h'.get? e = some u)
    (new : ObjOk X.prog X.w (upd H x o) h' x o) : Inv X pins σ (upd H x o) { s with heap := h', toks := t' } := I.un (Un.write mu he k heo) (I.hok.write mu he k heo new)
theorem Inv.pins_of {pins' : List (Addr × Obj)} (I : Inv X pins σ H s) (h : ∀ p ∈ pins', s.heap.get? p.1 = some p.2 ∧ H p.1 = none ∧ p.1 ≠ X.env.locals ∧ p.1 ∉ X.fs ∧ ∀ v, p.2.data ≠ .cell v) : Inv X pins' σ H s :=
  ⟨I.ok, I.os, I.bare, I.base, I.loc, I.cell, I.free, I.freeC, fun p hp => (List.mem_append.mp hp).elim (fun z => I.pin p (List.mem_append_left _ z)) (h p), I.hok, I.len⟩

theorem nodup_ix {N : List Str} (hN : N.Nodup) {i j : Nat} {x : Str} (a : N[i]? = some x) (b : N[j]? = some x) : i = j := by
  obtain ⟨h1, e1⟩ := List.getElem?_eq_some_iff.mp a
  obtain ⟨h2, e2⟩ := List.getElem?_eq_some_iff.mp b
  exact (List.getElem_inj hN).mp (e1.trans e2.symm)

/-- a name is stored; what changed -/
theorem store_ok2 {M : Model} {A : Around} {E : Value → Shared → Prop} {i : Nat} {x : Str} {v : V} {u : Value} {Q : Unit → Shared → Prop} (I : Inv X pins σ H s) (hN : X.N.Nodup) (hi : X.N[i]? = some x) (hx : Loc X.env.scope x) (r : RelV v u)
    (h : ∀ s', Inv X pins (σ.set i (some v)) H s' → (∃ a, Heap.SameBut a s.heap s'.heap ∧ (a = X.env.locals ∨ X.env.cells.lookup x = some a)) → Q () s') (hf : X.fn x = true ∨ X.env.scope.names.lookup x = some .local := by first | exact .inl rfl | exact .inr rfl | assumption) : wpAny M A (storeName X.env x u) Q E s := by
  obtain ⟨m, hn, hl⟩ := id I.loc
  have hcls : (X.env.scope.kind == .class || (X.env.scope.kind == .module && X.env.locals != X.env.globals)) = false := by rw [I.ok.kind]; rfl
  have hiσ : i < σ.length := by rw [I.len]; exact (List.getElem?_eq_some_iff.mp hi).1
  have cne := I.cne
  have tracked : ∀ {a : Addr} {h' : Heap}, (∃ o, s.heap.get? a = some o ∧ H a = none) → Heap.SameBut a s.heap h' → HOk X.prog X.w H h' := fun {a h'} ha hs b ob e => by
    obtain ⟨_, _, hfree⟩ := ha
    refine (I.hok b ob e).stay (fun c w' hc q => (hs.2 c ?_).trans q) (fun _ q => q) fun _ _ q => q
    rintro rfl
    rcases hc with rfl | hc
    · rw [hfree] at e; cases e
    · rw [hfree] at hc; cases hc
  rcases hx with hk | hk
  · refine wpAny_storeName_local hk hn (fun h' hn' hs => ?_) hcls
    obtain ⟨oL, _, _, hoL, _⟩ := id hn
    refine h _ ⟨I.ok, I.os, I.bare, ⟨fun b o e n hb hx => ?_, fun b o e n hb hx => ?_, I.base.free, fun b o e hx => ?_, I.base.tups, I.base.frzs, I.base.tbls⟩, ⟨_, hn', fun j y v' e1 e2 e3 => ?_⟩, fun y c e => ?_, I.free, I.freeC, fun p hp => ?_, tracked ⟨oL, hoL, I.free⟩ hs, by simpa using I.len⟩ ⟨_, hs, .inl rfl⟩
    · exact (hs.2 b (Nat.ne_of_lt (Nat.lt_of_lt_of_le (Heap.lt_size e) I.ok.above))).trans (I.base.keep b o e n hb hx)
    · obtain ⟨sl, e1⟩ := I.base.slot b o e n hb hx
      exact ⟨sl, (hs.2 b (Nat.ne_of_lt (Nat.lt_of_lt_of_le (Heap.lt_size e) I.ok.above))).trans e1⟩
    · obtain ⟨o', e1⟩ := I.base.there b o e hx
      exact ⟨o', (hs.2 b (Nat.ne_of_lt (Nat.lt_of_lt_of_le (Heap.lt_size e) I.ok.above))).trans e1⟩
    · by_cases hj : j = i
      · subst hj
        rw [hi] at e1; cases e1
        rw [List.getElem?_set_self hiσ] at e2
        cases e2
        exact ⟨u, r, .inl ⟨hk, by simp⟩⟩
      · rw [List.getElem?_set_ne (Ne.symm hj)] at e2
        obtain ⟨u', r', q⟩ := hl j y v' e1 e2 e3
        refine ⟨u', r', ?_⟩
        rcases q with ⟨k, e⟩ | ⟨k, c, e, z⟩
        · refine .inl ⟨k, ?_⟩
          have : y ≠ x := fun e => hj (nodup_ix hN e1 (e ▸ hi))
          simp [this, e]
        · exact .inr ⟨k, c, e, z.sameBut hs (cne y c e)⟩
    · obtain ⟨w', z⟩ := I.cell y c e
      exact ⟨w', z.sameBut hs (cne y c e)⟩
    · obtain ⟨e, n, ne, nf, d⟩ := I.pin p hp
      exact ⟨(hs.2 p.1 ne).trans e, n, ne, nf, d⟩
  · have hfn : X.fn x = true := by
      rcases hf with z | z
      · exact z
      · rw [z] at hk; cases hk
    obtain ⟨c, hc⟩ := I.ok.has x (.inl hk)
    obtain ⟨w', z⟩ := I.cell x c hc
    refine wpAny_storeName_cell I.ok.kind hk hc z (fun h' hc' hs => ?_)
    obtain ⟨oc, hoc, hocd⟩ := id z
    refine h { s with heap := h' } ⟨I.ok, I.os, I.bare, ⟨fun b o e n hb hx => ?_, fun b o e n hb hx => ?_, I.base.free, fun b o e hx => ?_, I.base.tups, I.base.frzs, I.base.tbls⟩, ⟨m, hn.sameBut hs (Ne.symm (cne x c hc)), fun j y v' e1 e2 e3 => ?_⟩, fun y c' e => ?_, I.free, I.freeC, fun p hp => ?_, tracked ⟨oc, hoc, I.freeC x c hc⟩ hs, by simpa using I.len⟩ ⟨c, hs, .inr hc⟩
    · exact (hs.2 b (Nat.ne_of_lt (Nat.lt_of_lt_of_le (Heap.lt_size e) (I.ok.cab x c hfn hc)))).trans (I.base.keep b o e n hb hx)
    · obtain ⟨sl, e1⟩ := I.base.slot b o e n hb hx
      exact ⟨sl, (hs.2 b (Nat.ne_of_lt (Nat.lt_of_lt_of_le (Heap.lt_size e) (I.ok.cab x c hfn hc)))).trans e1⟩
    · obtain ⟨o', e1⟩ := I.base.there b o e hx
      exact ⟨o', (hs.2 b (Nat.ne_of_lt (Nat.lt_of_lt_of_le (Heap.lt_size e) (I.ok.cab x c hfn hc)))).trans e1⟩
    · by_cases hj : j = i
      · subst hj
        rw [hi] at e1; cases e1
        rw [List.getElem?_set_self hiσ] at e2
        cases e2
        exact ⟨u, r, .inr ⟨.inl hk, c, hc, hc'⟩⟩
      · rw [List.getElem?_set_ne (Ne.symm hj)] at e2
        obtain ⟨u', r', q⟩ := hl j y v' e1 e2 e3
        refine ⟨u', r', ?_⟩
        rcases q with q | ⟨k, c', e, z'⟩
        · exact .inl q
        · refine .inr ⟨k, c', e, z'.sameBut hs ?_⟩
          rintro rfl
          exact hj (nodup_ix hN e1 (I.ok.inj _ _ _ e hc ▸ hi))
    · by_cases hcc : c' = c
      · subst hcc; exact ⟨_, hc'⟩
      · obtain ⟨w2, z2⟩ := I.cell y c' e
        exact ⟨w2, z2.sameBut hs hcc⟩
    · obtain ⟨e, n, ne, nf, d⟩ := I.pin p hp
      refine ⟨(hs.2 p.1 ?_).trans e, n, ne, nf, d⟩
      intro q
      rw [q, hoc] at e
      have q' : oc = p.2 := Option.some.inj e
      exact d w' (by rw [← q']; exact hocd)
theorem store_ok {M : Model} {A : Around} {E : Value → Shared → Prop} {i : Nat} {x : Str} {v : V} {u : Value} {Q : Unit → Shared → Prop} (I : Inv X pins σ H s) (hN : X.N.Nodup) (hi : X.N[i]? = some x) (hx : Loc X.env.scope x) (r : RelV v u)
    (h : ∀ s', Inv X pins (σ.set i (some v)) H s' → Q () s') (hf : X.fn x = true ∨ X.env.scope.names.lookup x = some .local := by first | exact .inl rfl | exact .inr rfl | assumption) : wpAny M A (storeName X.env x u) Q E s :=
  store_ok2 I hN hi hx r (fun s' I' _ => h s' I') hf
/-- behind a call or a block, the state as it is -/
theorem Inv.call' {s' : Shared} {ch : List Addr} (I : Inv X pins σ H s) (ho : s'.os = s.os) (u : Un (frs X.stack) ch H H' s.heap s'.heap) (hok : HOk X.prog X.w H' s'.heap) (hg : AllBare s'.gens)
    (hch : ∀ b ∈ ch, (b ∈ X.ex ∨ X.s₀.heap.objs.size ≤ b) ∧ b ≠ X.env.locals ∧ (∀ x c, X.env.cells.lookup x = some c → c ≠ b) ∧ ∀ p ∈ X.pn ++ pins, p.1 ≠ b) : Inv X pins σ H' s' := by
  obtain ⟨h', g', d', t', o'⟩ := s'
  have e : o' = s.os := ho
  subst e
  exact I.call (g' := g') (t' := t') (d' := d') u hok hg hch
end

/-! ### the judgements -/
/-- an exception: its class, its own dict's address (where it has one), the abstract heap behind it -/
abbrev XK := Value → Option Addr → Hp → Prop
abbrev St := List (Option V)
abbrev VK := V → Hp → Prop
/-- an expression's reading; a test's; an argument list's -/
abbrev TE := St → Hp → VK → Prop
abbrev TT := St → Hp → (Bool → Hp → Prop) → Prop
abbrev TA := St → Hp → (List V → Hp → Prop) → Prop
/-- what is wanted behind a statement -/
structure Ends where
  nx : St → Hp → Prop
  rt : VK
  bk : St → Hp → Prop := fun _ _ => False
  ct : St → Hp → Prop := fun _ _ => False
abbrev TS := Ends → St → Hp → Prop

def EP (X : Cx) (pins : List (Addr × Obj)) (σ : St) (Q : VK) (u : Value) (s' : Shared) : Prop := ∃ v H', Inv X pins σ H' s' ∧ RelV v u ∧ Q v H'
def TP (X : Cx) (pins : List (Addr × Obj)) (σ : St) (Q : Bool → Hp → Prop) (b : Bool) (s' : Shared) : Prop := ∃ H', Inv X pins σ H' s' ∧ Q b H'
def AP (X : Cx) (pins : List (Addr × Obj)) (σ : St) (Q : List V → Hp → Prop) (us : List Value) (s' : Shared) : Prop := ∃ vs H', Inv X pins σ H' s' ∧ Vals vs us ∧ Q vs H'
def SP (X : Cx) (pins : List (Addr × Obj)) (D : Ends) (f : Flow) (s' : Shared) : Prop :=
  match f with
  | .next => ∃ σ' H', Inv X pins σ' H' s' ∧ D.nx σ' H'
  | .brk => ∃ σ' H', Inv X pins σ' H' s' ∧ D.bk σ' H'
  | .cont => ∃ σ' H', Inv X pins σ' H' s' ∧ D.ct σ' H'
  | .ret u => ∃ v σ' H', Inv X pins σ' H' s' ∧ RelV v u ∧ D.rt v H'

def PE (X : Cx) (e : Expr) (t : TE) : Prop :=
  ∀ (pins : List (Addr × Obj)) (s : Shared) (σ : St) (H : Hp) (Q : VK), Inv X pins σ H s → t σ H Q → wpAny (model X.prog X.w) X.A (eval e X.env) (EP X pins σ Q) X.xe s
def PT (X : Cx) (e : Expr) (t : TT) : Prop :=
  ∀ (pins : List (Addr × Obj)) (s : Shared) (σ : St) (H : Hp) (Q : Bool → Hp → Prop), Inv X pins σ H s → t σ H Q → wpAny (model X.prog X.w) X.A (isTrue e X.env (eval e X.env)) (TP X pins σ Q) X.xe s
/-- a test whatever its 'whole' is (and, or) -/
def PW (X : Cx) (e : Expr) (t : TT) : Prop :=
  ∀ (whole : Sem Value) (pins : List (Addr × Obj)) (s : Shared) (σ : St) (H : Hp) (Q : Bool → Hp → Prop), Inv X pins σ H s → t σ H Q → wpAny (model X.prog X.w) X.A (isTrue e X.env whole) (TP X pins σ Q) X.xe s
theorem PW.pt {X : Cx} {e : Expr} {t : TT} (h : PW X e t) : PT X e t := h _
/-- an argument list (no star), from the left -/
def PA (X : Cx) (es : List Expr) (t : TA) : Prop :=
  ∀ (pos : Pos) (pins : List (Addr × Obj)) (s : Shared) (σ : St) (H : Hp) (Q : List V → Hp → Prop), Inv X pins σ H s → t σ H Q → wpAny (model X.prog X.w) X.A (spliced (backTo pos (starEach es X.env))) (AP X pins σ Q) X.xe s
def PS (X : Cx) (st : Stmt) (t : TS) : Prop :=
  ∀ (pins : List (Addr × Obj)) (s : Shared) (σ : St) (H : Hp) (D : Ends), Inv X pins σ H s → t D σ H → wpAny (model X.prog X.w) X.A (exec st X.env) (SP X pins D) X.xe s
def PSs (X : Cx) (st : List Stmt) (t : TS) : Prop :=
  ∀ (pins : List (Addr × Obj)) (s : Shared) (σ : St) (H : Hp) (D : Ends), Inv X pins σ H s → t D σ H → wpAny (model X.prog X.w) X.A (execs st X.env) (SP X pins D) X.xe s
/-- weaken the end -/
theorem thn {α : Type} {t : Sem α} {Q Q' : α → Shared → Prop} {M : Model} {A : Around} {E : Value → Shared → Prop} {s : Shared} (h : wpAny M A t Q E s) (hQ : ∀ a s, Q a s → Q' a s) : wpAny M A t Q' E s := wpAny_mono h hQ fun _ _ x => x
end L2

namespace L2
open PySem PySem.Spec PyProof.Rows
section
variable {X : Cx}

/-! ### names and constants -/
def tVar (i : Nat) : TE := fun σ H Q => ∃ v, σ[i]? = some (some v) ∧ Q v H
def tC (v : V) : TE := fun _ H Q => Q v H
theorem pe_var {i : Nat} {x : Str} {pos : Pos} (hN : X.N[i]? = some x) (hv : Vis X.env.scope x) (hd : (x == ("__debug__" : Str)) = false := by decide) (hcd : (x == ("__classdict__" : Str)) = false := by decide) : PE X (.Name x pos) (tVar i) := by
  intro pins s σ H Q I h
  obtain ⟨v, e, h⟩ := h
  obtain ⟨m, hn, hl⟩ := I.loc
  obtain ⟨u, r, l⟩ := hl i x v hN e hv
  have fin : EP X pins σ Q u s := ⟨v, H, I, r, h⟩
  rcases l with ⟨hk, hm⟩ | ⟨hk, c, hc, hcell⟩
  · exact wpAny_Name (wpAny_loadName_local I.ok.kind hk hn hm fin) hd
  · rcases hk with hk | hk
    · exact wpAny_Name (wpAny_loadName_cell I.ok.kind hk hc hcell fin) hd
    · exact wpAny_Name (wpAny_loadName_free I.ok.kind hk hc hcell fin hcd) hd
theorem pe_int {i j pos} : PE X (.Constant (.int i) j pos) (tC (.int i)) := fun _ _ _ H _ I h => wpAny_Constant_int ⟨.int i, H, I.tok _, ⟨_, rfl⟩, h⟩
theorem pe_bl {b j pos} : PE X (.Constant (.bool b) j pos) (tC (.bl b)) := fun _ _ _ H _ I h => Constant_bool ⟨.bl b, H, I, rfl, h⟩
theorem pe_str {x j pos} : PE X (.Constant (.str x) j pos) (tC (.str x)) := fun _ _ _ H _ I h => Calls.Constant_str ⟨.str x, H, I.tok _, ⟨_, rfl⟩, h⟩

/-- a global name of the def -/
def Gl (X : Cx) (x : Str) : Prop := X.env.kindOf x = some .globalImplicit
theorem ld_glob {E : Value → Shared → Prop} {pins : List (Addr × Obj)} {s : Shared} {σ : St} {H : Hp} {x : Str} {u : Value} {pos : Pos} {Q : Value → Shared → Prop} (I : Inv X pins σ H s) (hg : Gl X x) (hm : X.mg x = some u) (h : Q u s)
    (hd : (x == ("__debug__" : Str)) = false := by decide) : wpAny (model X.prog X.w) X.A (eval (.Name x pos) X.env) Q E s :=
  Calls.Name_function_global I.ok.kind hg (Calls.loadGlobal_global (by rw [I.ok.glob]; exact I.mod.glob.keeps I.bk) hm h) hd
theorem ld_blt {E : Value → Shared → Prop} {pins : List (Addr × Obj)} {s : Shared} {σ : St} {H : Hp} {x : Str} {u : Value} {pos : Pos} {Q : Value → Shared → Prop} (I : Inv X pins σ H s) (hg : Gl X x) (hm : X.mg x = none) (hv : bootBuiltins x = some u) (h : Q u s)
    (hn : x ≠ "__name__" := by decide) (hd : (x == ("__debug__" : Str)) = false := by decide) : wpAny (model X.prog X.w) X.A (eval (.Name x pos) X.env) Q E s := by
  obtain ⟨mb, h1, h2⟩ := I.mod.blt
  exact Calls.Name_function_global I.ok.kind hg (Calls.loadGlobal_builtin (by rw [I.ok.glob]; exact I.mod.glob.keeps I.bk) hm (by rw [I.ok.blt]; exact h1.keeps I.bk) ((h2 x hn).trans hv) h) hd
/-! ### arithmetic -/
variable {a b : Expr} {ta tb : TE} {pos : Pos}
/-! ### comparisons -/
/-! ### and, or, not -/
variable {tA tB' : TT} {rest : List Expr}
def tAnd (t u : TT) : TT := fun σ H Q => t σ H fun c H1 => if c = true then u σ H1 Q else Q false H1
theorem pw_and1 (ha : PT X a tA) : PW X (.BoolOp .And [a] pos) tA := by
  intro wh pins s σ H Q I h
  refine isTrue_and (thn (ha pins s σ H Q I h) fun c s1 e => ?_)
  cases c with
  | true => exact isTrue_and_nil e
  | false => exact e
theorem pw_and (ha : PT X a tA) (hb : PW X (.BoolOp .And (b :: rest) pos) tB') : PW X (.BoolOp .And (a :: b :: rest) pos) (tAnd tA tB') := by
  intro wh pins s σ H Q I h
  refine isTrue_and (thn (ha pins s σ H _ I h) fun c s1 ⟨H1, I1, q1⟩ => ?_)
  cases c with
  | true => exact hb wh pins s1 σ H1 Q I1 q1
  | false => exact ⟨H1, I1, q1⟩
end
end L2

namespace L2
open PySem PySem.Spec PyProof.Rows

/-! ### a list, a tuple that is read: tracked, frozen, or an object of the module -/
def SqL (K : PySem.W.Frag) (H : Hp) (a : Addr) (xs : List V) : Prop :=
  Rd H a (.lst xs) ∨
    ∃ (o : Obj) (its : Array Value) (n : Nat), K.lookup a = some o ∧ o.cls = .type "list" ∧ o.dict = none ∧ o.data = .seq its n ∧ its.size ≤ sizeLine ∧ Vals xs its.toList
def SqT (K : PySem.W.Frag) (H : Hp) (a : Addr) (xs : List V) : Prop :=
  Rd H a (.tup xs) ∨
    ∃ (o : Obj) (its : Array Value) (n : Nat), K.lookup a = some o ∧ o.cls = .type "tuple" ∧ o.data = .seq its n ∧ its.size ≤ sizeLine ∧ Vals xs its.toList
def absV : Value → Option V
  | .none => some .non
  | .bool b => some (.bl b)
  | .int i _ => some (.int i)
  | .str x _ => some (.str x)
  | .bytes b _ => some (.byt b)
  | .float b _ => some (.flt b)
  | .ref a => some (.ref a)
  | .type n => some (.ty n)
  | _ => none
theorem RelV.abs {x : V} {u : Value} (r : RelV x u) : absV u = some x := by
  cases x with
  | non => cases r; rfl
  | bl _ => cases r; rfl
  | int _ => obtain ⟨t, rfl⟩ := r; rfl
  | str _ => obtain ⟨t, rfl⟩ := r; rfl
  | byt _ => obtain ⟨t, rfl⟩ := r; rfl
  | flt _ => obtain ⟨t, rfl⟩ := r; rfl
  | ref _ => cases r; rfl
  | ty _ => cases r; rfl
theorem RelV.inj {x y : V} {u : Value} (r : RelV x u) (q : RelV y u) : x = y := Option.some.inj (r.abs.symm.trans q.abs)
theorem Vals.inj : ∀ {xs ys : List V} {us : List Value}, Vals xs us → Vals ys us → xs = ys
  | _, _, _, .nil, .nil => rfl
  | _, _, _, .cons r t, .cons r' t' => by rw [r.inj r', Vals.inj t t']
section
variable {X : Cx} {pins : List (Addr × Obj)} {σ : St} {H : Hp} {s : Shared} {a : Addr} {xs ys : List V}
theorem SqL.of {K : PySem.W.Frag} (h : H a = some (.lst xs)) : SqL K H a xs := .inl (.inl h)
theorem SqT.of {K : PySem.W.Frag} (h : H a = some (.tup xs)) : SqT K H a xs := .inl (.inl h)
theorem Inv.list (I : Inv X pins σ H s) (h : SqL X.K H a xs) : ∃ its : List Value, Vals xs its ∧ PlainL s.heap a its.toArray ∧ xs.length ≤ sizeLine := by
  rcases h with h | ⟨o, its, n, hk, hc, hd, hs, hz, r⟩
  · obtain ⟨z, its, n, r, e⟩ := h.ok I.hok
    exact ⟨its, r, ⟨_, n, e, rfl, rfl, rfl⟩, z⟩
  · refine ⟨its.toList, r, ⟨o, n, I.kIn a o hk, hc, hd, by simpa using hs⟩, ?_⟩
    have e := r.length
    simp only [Array.length_toList] at e
    omega
theorem Inv.tuple (I : Inv X pins σ H s) (h : SqT X.K H a xs) : ∃ its : List Value, Vals xs its ∧ IsTup s.heap a its.toArray ∧ xs.length ≤ sizeLine := by
  rcases h with h | ⟨o, its, n, hk, hc, hs, hz, r⟩
  · obtain ⟨z, its, r, p⟩ := h.ok I.hok
    exact ⟨its, r, p.tup, z⟩
  · refine ⟨its.toList, r, ⟨o, I.kIn a o hk, hc, n, by simpa using hs⟩, ?_⟩
    have e := r.length
    simp only [Array.length_toList] at e
    omega
theorem Inv.list_inj (I : Inv X pins σ H s) (h : SqL X.K H a xs) (h' : SqL X.K H a ys) : xs = ys := by
  obtain ⟨its, r, ⟨o, n, e, _, _, d⟩, _⟩ := I.list h
  obtain ⟨its', r', ⟨o', n', e', _, _, d'⟩, _⟩ := I.list h'
  rw [e] at e'; cases e'
  rw [d] at d'
  injection d' with d1 _
  have : its = its' := by simpa using congrArg Array.toList d1
  subst this
  exact r.inj r'
theorem Inv.tuple_inj (I : Inv X pins σ H s) (h : SqT X.K H a xs) (h' : SqT X.K H a ys) : xs = ys := by
  obtain ⟨its, r, ⟨o, e, _, n, d⟩, _⟩ := I.tuple h
  obtain ⟨its', r', ⟨o', e', _, n', d'⟩, _⟩ := I.tuple h'
  rw [e] at e'; cases e'
  rw [d] at d'
  injection d' with d1 _
  have : its = its' := by simpa using congrArg Array.toList d1
  subst this
  exact r.inj r'
end

/-! ### another wish about exceptions -/
abbrev Cx.wish (X : Cx) (E : Value → Shared → Prop) : Cx := { X with xe := E }
/-- no exception leaves -/
abbrev Cx.nox (X : Cx) : Cx := X.wish fun _ _ => False
theorem Cx.Ok.wish {X : Cx} (ok : X.Ok) (E : Value → Shared → Prop) : (X.wish E).Ok :=
  ⟨ok.mod, ok.kind, ok.glob, ok.blt, ok.above, ok.inj, ok.has, ok.cab, ok.hd, ok.frames, ok.stk, ok.exf, ok.bs, ok.bsz, ok.noex, ok.exfs, ok.funs, ok.frf⟩
theorem Cx.Ok.unwish {X : Cx} {E : Value → Shared → Prop} (ok : (X.wish E).Ok) : X.Ok :=
  ⟨ok.mod, ok.kind, ok.glob, ok.blt, ok.above, ok.inj, ok.has, ok.cab, ok.hd, ok.frames, ok.stk, ok.exf, ok.bs, ok.bsz, ok.noex, ok.exfs, ok.funs, ok.frf⟩
section
variable {X : Cx} {pins : List (Addr × Obj)} {σ : St} {H : Hp} {s : Shared} {E : Value → Shared → Prop}
theorem Inv.wish (I : Inv X pins σ H s) (E : Value → Shared → Prop) : Inv (X.wish E) pins σ H s := ⟨I.ok.wish E, I.os, I.bare, I.base, I.loc, I.cell, I.free, I.freeC, I.pin, I.hok, I.len⟩
theorem Inv.unwish (I : Inv (X.wish E) pins σ H s) : Inv X pins σ H s := ⟨I.ok.unwish, I.os, I.bare, I.base, I.loc, I.cell, I.free, I.freeC, I.pin, I.hok, I.len⟩
theorem SP.unwish {D : Ends} {f : Flow} {s' : Shared} (h : SP (X.wish E) pins D f s') : SP X pins D f s' := by
  cases f with
  | next => obtain ⟨σ', H', I, q⟩ := h; exact ⟨σ', H', I.unwish, q⟩
  | brk => obtain ⟨σ', H', I, q⟩ := h; exact ⟨σ', H', I.unwish, q⟩
  | cont => obtain ⟨σ', H', I, q⟩ := h; exact ⟨σ', H', I.unwish, q⟩
  | ret u => obtain ⟨v, σ', H', I, r, q⟩ := h; exact ⟨v, σ', H', I.unwish, r, q⟩
theorem PSs.nox {st : List Stmt} {t : TS} (h : PSs X.nox st t) : PSs X st t := fun pins s σ H D I hw =>
  wpAny_mono (h pins s σ H D (I.wish _) hw) (fun _ _ q => q.unwish) fun _ _ z => False.elim z
end

/-! ### blocks and small statements -/
section
variable {X : Cx} {st : Stmt} {rest : List Stmt} {t u : TS} {e : Expr} {te : TE} {pos : Pos}
def tNext : TS := fun D σ H => D.nx σ H
def tSeq (t u : TS) : TS := fun D σ H => t { D with nx := u D } σ H
theorem pss_nil : PSs X [] tNext := fun _ _ σ H _ I h => wpAny_execs_nil ⟨σ, H, I, h⟩
theorem pss_cons (h1 : PS X st t) (h2 : PSs X rest u) : PSs X (st :: rest) (tSeq t u) := by
  intro pins s σ H D I h
  refine wpAny_execs_cons (thn (h1 pins s σ H { D with nx := u D } I h) fun f s1 q => ?_)
  cases f with
  | next =>
    obtain ⟨σ', H', I', q⟩ := q
    exact h2 pins s1 σ' H' D I' q
  | ret v => exact q
  | brk => exact q
  | cont => exact q
theorem pss_one (h1 : PS X st t) : PSs X [st] t := by
  intro pins s σ H D I h
  refine wpAny_execs_cons (thn (h1 pins s σ H D I h) fun f s1 q => ?_)
  cases f with
  | next => exact wpAny_execs_nil q
  | ret v => exact q
  | brk => exact q
  | cont => exact q
def tRet (te : TE) : TS := fun D σ H => te σ H D.rt
theorem ps_ret (he : PE X e te) : PS X (.Return (some e) pos) (tRet te) := by
  intro pins s σ H D I h
  exact wpAny_Return_some (thn (he pins s σ H _ I h) fun v s1 ⟨x, H1, I1, r1, q1⟩ => ⟨x, σ, H1, I1, r1, q1⟩)
def tIfS (c : TT) (t u : TS) : TS := fun D σ H => c σ H fun b H1 => if b = true then t D σ H1 else u D σ H1
theorem ps_if {c : Expr} {a b : List Stmt} {tc : TT} (hc : PT X c tc) (ha : PSs X a t) (hb : PSs X b u) : PS X (.If c a b pos) (tIfS tc t u) := by
  intro pins s σ H D I h
  refine wpAny_If (thn (hc pins s σ H _ I h) fun d s1 ⟨H1, I1, q1⟩ => ?_)
  cases d with
  | true => exact ha pins s1 σ H1 D I1 q1
  | false => exact hb pins s1 σ H1 D I1 q1
end

/-! ### targets -/
abbrev TG := V → St → Hp → (St → Hp → Prop) → Prop
abbrev TGs := List V → St → Hp → (St → Hp → Prop) → Prop
def PG (X : Cx) (target : Expr) (t : TG) : Prop :=
  ∀ (pins : List (Addr × Obj)) (s : Shared) (σ : St) (H : Hp) (v : V) (u : Value) (Q : St → Hp → Prop), Inv X pins σ H s → RelV v u → t v σ H Q →
    wpAny (model X.prog X.w) X.A (assign target X.env u) (fun _ s' => ∃ σ' H', Inv X pins σ' H' s' ∧ Q σ' H') X.xe s
/-- several targets, one after another -/
def PGs (X : Cx) (ts : List Expr) (t : TGs) : Prop :=
  ∀ (pins : List (Addr × Obj)) (s : Shared) (σ : St) (H : Hp) (vs : List V) (us : List Value) (Q : St → Hp → Prop), Inv X pins σ H s → Vals vs us → t vs σ H Q →
    wpAny (model X.prog X.w) X.A (assignInOrder ((assignEach ts X.env).map (·.2)) us) (fun _ s' => ∃ σ' H', Inv X pins σ' H' s' ∧ Q σ' H') X.xe s
/-- o[i] = v, by values -/
abbrev TSet := V → V → V → Hp → (Hp → Prop) → Prop
def PSet (X : Cx) (t : TSet) : Prop :=
  ∀ (pins : List (Addr × Obj)) (s : Shared) (σ : St) (H : Hp) (o i v : V) (ov iv u : Value) (Q : Hp → Prop), Inv X pins σ H s → RelV o ov → RelV i iv → RelV v u → t o i v H Q →
    wpAny (model X.prog X.w) X.A (setItem ov iv u) (fun _ s' => ∃ H', Inv X pins σ H' s' ∧ Q H') X.xe s
section
variable {X : Cx} {pos : Pos}
def gName (i : Nat) : TG := fun v σ H Q => Q (σ.set i (some v)) H
theorem pg_name {i : Nat} {x : Str} (hN : X.N.Nodup) (hi : X.N[i]? = some x) (hx : Loc X.env.scope x) (hf : X.fn x = true ∨ X.env.scope.names.lookup x = some .local := by first | exact .inl rfl | exact .inr rfl | assumption) : PG X (.Name x pos) (gName i) := by
  intro pins s σ H v u Q I r h
  exact wpAny_assign_Name (store_ok I hN hi hx r (fun s' I' => ⟨_, H, I', h⟩) hf)
def gNil : TGs := fun vs σ H Q => vs = [] ∧ Q σ H
def gCons (t : TG) (u : TGs) : TGs := fun vs σ H Q => ∃ v r, vs = v :: r ∧ t v σ H fun σ' H' => u r σ' H' Q
theorem pgs_nil : PGs X [] gNil := by
  intro pins s σ H vs us Q I r h
  obtain ⟨e, h⟩ := h
  subst e
  cases r
  exact assignInOrder_nil ⟨σ, H, I, h⟩
theorem pgs_cons {e : Expr} {es : List Expr} {t : TG} {u : TGs} (h1 : PG X e t) (h2 : PGs X es u)
    (hs : (assignEach (e :: es) X.env).map (·.2) = assign e X.env :: (assignEach es X.env).map (·.2) := by rfl) : PGs X (e :: es) (gCons t u) := by
  intro pins s σ H vs us Q I r h
  obtain ⟨v, vr, e1, h⟩ := h
  subst e1
  cases r with
  | cons r rr =>
    rw [hs]
    refine assignInOrder_cons (thn (h1 pins s σ H _ _ _ I r h) fun _ s1 ⟨σ1, H1, I1, q1⟩ => ?_)
    exact h2 pins s1 σ1 H1 _ _ Q I1 rr q1
/-- (a, b, ..) = a tuple of that length -/
def gTup (K : PySem.W.Frag) (n : Nat) (t : TGs) : TG := fun v σ H Q => ∃ a xs, v = .ref a ∧ SqT K H a xs ∧ xs.length = n ∧ t xs σ H Q
theorem pg_tup {es : List Expr} {k : Nat} {t : TGs} {n : Nat} (hc : X.calm = true) (h : PGs X es t)
    (hn : (assignEach es X.env).length = n := by rfl) (hst : (assignEach es X.env).findIdx? (·.1) = none := by rfl) : PG X (.Tuple es k pos) (gTup X.K n t) := by
  intro pins s σ H v u Q I r hw
  obtain ⟨a, xs, e1, hq, hl, hw⟩ := hw
  subst e1
  cases r
  obtain ⟨its, rv, ht, hz⟩ := I.tuple hq
  refine assign_Tuple_tuple (I.ok.hd hc) ht (by simp [hn, ← hl, rv.length]) hst fun h' hx => ?_
  have I1 : Inv X pins σ H { s with heap := h' } := I.kept (t' := s.toks) fun b o e => hx b o (Nat.ne_of_lt (Heap.lt_size e)) e
  exact h pins _ σ H xs _ Q I1 (by simpa using rv) hw
/-- o[i] = .. -/
def gSub (to ti : TE) (t : TSet) : TG := fun v σ H Q => to σ H fun o H1 => ti σ H1 fun i H2 => t o i v H2 fun H3 => Q σ H3
theorem pg_sub {o i : Expr} {to ti : TE} {t : TSet} (ho : PE X o to) (hi : PE X i ti) (hs : PSet X t)
    (ha : ∀ v, assign (.Subscript o i pos) X.env v = (do
      let ov ← holding [v] (eval o X.env)
      let iv ← holding [v, ov] (eval i X.env)
      standAt pos
      holding [v, ov, iv] (setItem ov iv v)
      release [v, ov, iv] []) := by intro _; rfl) : PG X (.Subscript o i pos) (gSub to ti t) := by
  intro pins s σ H v u Q I r h
  rw [ha]
  refine wpAny_bind (wpAny_holding (thn (ho pins s σ H _ I h) fun ov s1 ⟨x, H1, I1, r1, q1⟩ => ?_))
  refine wpAny_bind (wpAny_holding (thn (hi pins s1 σ H1 _ I1 q1) fun iv s2 ⟨y, H2, I2, r2, q2⟩ => ?_))
  refine wpAny_bind (wpAny_standAt (wpAny_bind (wpAny_holding (thn (hs pins s2 σ H2 x y v ov iv u _ I2 r1 r2 r q2) fun _ s3 ⟨H3, I3, q3⟩ => ?_))))
  exact wpAny_release ⟨σ, H3, I3, q3⟩
/-- target = value -/
def tAsg (te : TE) (g : TG) : TS := fun D σ H => te σ H fun x H1 => g x σ H1 D.nx
theorem ps_asg {tg e : Expr} {te : TE} {g : TG} (he : PE X e te) (hg : PG X tg g) (hs : swapsWithSole [tg] e pos.line X.env = pure false := by rfl) (hw : swappedStores [tg] e X.env = pure none := by rfl)
    (h1 : (assignEach [tg] X.env).map (·.2) = [assign tg X.env] := by rfl) : PS X (.Assign [tg] e pos) (tAsg te g) := by
  intro pins s σ H D I h
  refine wpAny_Assign_stores (thn (he pins s σ H _ I h) fun v s1 ⟨x, H1, I1, r1, q1⟩ => ?_) hs hw
  rw [h1]
  exact thn (hg pins s1 σ H1 x v _ I1 r1 q1) fun _ s2 q => q
/-- name = value -/
theorem ps_set {i : Nat} {x : Str} {e : Expr} {te : TE} {pos' : Pos} (hN : X.N.Nodup) (hi : X.N[i]? = some x) (hx : Loc X.env.scope x) (he : PE X e te) (hs : swapsWith e (some (.Name x pos')) pos.line X.env = pure false := by rfl) (hf : X.fn x = true ∨ X.env.scope.names.lookup x = some .local := by first | exact .inl rfl | exact .inr rfl | assumption) :
    PS X (.Assign [.Name x pos'] e pos) (tAsg te (gName i)) := by
  intro pins s σ H D I h
  refine wpAny_Assign_Name (thn (he pins s σ H _ I h) fun v s1 ⟨y, H1, I1, r1, q1⟩ => ?_) hs
  exact store_ok I1 hN hi hx r1 (fun s2 I2 => ⟨_, H1, I2, q1⟩) hf
/-- a, b = x, y with plain local names: stored from the right; the pair itself is not tracked (the opening rows as in PyProof/Rows/TupAssign.lean:23) -/
def tPar (i j : Nat) (ta : TA) : TS := fun D σ H => ta σ H fun vs H1 => ∃ v w, vs = [v, w] ∧ D.nx ((σ.set i (some v)).set j (some w)) H1
theorem ps_par {i j : Nat} {x y : Str} {a b : Expr} {ta : TA} {px py pt : Pos} {kt k2 pt2} (hc : X.calm = true) (hN : X.N.Nodup) (hi : X.N[i]? = some x) (hj : X.N[j]? = some y) (hij : i ≠ j)
    (hx : X.env.scope.names.lookup x = some .local) (hy : X.env.scope.names.lookup y = some .local) (ha : PA X [a, b] ta)
    (hw : swappedStores [.Tuple [.Name x px, .Name y py] kt pt] (.Tuple [a, b] k2 pt2) X.env = pure (some [x, y]))
    (hs : swapsWithSole [.Tuple [.Name x px, .Name y py] kt pt] (.Tuple [a, b] k2 pt2) pos.line X.env = pure false := by rfl) :
    PS X (.Assign [.Tuple [.Name x px, .Name y py] kt pt] (.Tuple [a, b] k2 pt2) pos) (tPar i j ta) := by
  intro pins s σ H D I h
  rw [exec_Assign_arm]
  refine wpAny_bind (wpAny_standAt ?_)
  rw [hs]
  refine wpAny_bind (wpAny_pure ?_)
  rw [if_neg (by decide)]
  refine wpAny_bind (Tuple_ (thn (ha _ pins s σ H _ I h) fun us s1 ⟨vs, H1, I1, r1, q1⟩ => ?_))
  obtain ⟨v, w, e1, q1⟩ := q1
  subst e1
  obtain ⟨u1, u2, rfl, rv, rw'⟩ : ∃ u1 u2, us = [u1, u2] ∧ RelV v u1 ∧ RelV w u2 := by
    cases r1 with
    | cons p q =>
      cases q with
      | cons p' q' =>
        cases q'
        exact ⟨_, _, rfl, p, p'⟩
  refine wpAny_newObj_type ?_ (by show 2 ≤ sizeLine; decide)
  have I2 : Inv X pins σ H1 { s1 with heap := s1.heap.push { cls := .type "tuple", data := .seq [u1, u2].toArray } } := I1.kept (t' := s1.toks) fun b o e => Heap.get?_push_of_some _ e
  rw [hw]
  refine wpAny_bind (wpAny_pure ?_)
  show wpAny (model X.prog X.w) X.A (do rule "assign.swapped-stores"; let items ← unpackItems (.ref s1.heap.objs.size) 2 none; assignInOrder [fun v => bindName X.env y v, fun v => bindName X.env x v] items.reverse; pure Flow.next) _ _ _
  refine wpAny_bind (wpAny_rule (wpAny_bind (unpackItems_tuple (items := #[u1, u2]) (I.ok.hd hc) (IsTup.new s1.heap _) fun h' hx' => ?_)))
  have I3 := I2.kept (h' := h') (t' := s1.toks) fun b o e => hx' b o (Nat.ne_of_lt (Heap.lt_size e)) e
  show wpAny _ _ (assignInOrder [fun v => bindName X.env y v, fun v => bindName X.env x v] [u2, u1] >>= fun _ => pure Flow.next) _ _ _
  refine wpAny_bind (assignInOrder_cons (wpAny_bindName (store_ok I3 hN hj (.inl hy) rw' (fun s2 I4 => ?_) (.inr hy))))
  refine assignInOrder_cons (wpAny_bindName (store_ok I4 hN hi (.inl hx) rv (fun s3 I5 => assignInOrder_nil (wpAny_pure ?_)) (.inr hx)))
  rw [List.set_comm _ _ (Ne.symm hij)] at I5
  exact ⟨_, H1, I5, q1⟩
end

/-! ### while -/
section
variable {X : Cx} {pos : Pos}
/-- the invariant W with its measure -/
def tWhile (c : TT) (tb : TS) : TS := fun D σ H => ∃ W : Nat → St → Hp → Prop, (∃ m, W m σ H) ∧ ∀ m σ H, W m σ H →
  c σ H fun b H1 => if b = true then ∃ N : St → Hp → Prop, (∀ σ' H', N σ' H' → ∃ m', m' < m ∧ W m' σ' H') ∧ tb { D with nx := N, ct := N, bk := D.nx } σ H1 else D.nx σ H1
theorem ps_while {c : Expr} {body : List Stmt} {tc : TT} {tb : TS} (hp : PassesOwn (model X.prog X.w) X.A X.env X.xe) (hc : PT X c tc) (hb : PSs X body tb) : PS X (.While c body [] pos) (tWhile tc tb) := by
  intro pins s σ H D I h
  obtain ⟨W, ⟨m0, w0⟩, turn⟩ := h
  refine wpAny_While (codeAny_whileLoop (fun n s' => ∃ σ' H', Inv X pins σ' H' s' ∧ W n σ' H') ?_ m0 ⟨σ, H, I, w0⟩)
  rintro n s1 ⟨σ1, H1, I1, w1⟩
  refine wpAny_passesOwn hp (thn (hc pins s1 σ1 H1 _ I1 (turn n σ1 H1 w1)) fun b s2 ⟨H2, I2, q2⟩ => ?_)
  cases b with
  | true =>
    obtain ⟨N, hN, q2⟩ := q2
    rw [if_pos rfl]
    refine wpAny_passesOwn hp (thn (hb pins s2 σ1 H2 _ I2 q2) fun f s3 q3 => ?_)
    cases f with
    | next =>
      obtain ⟨σ3, H3, I3, n3⟩ := q3
      obtain ⟨m', hm, w3⟩ := hN σ3 H3 n3
      exact ⟨m', hm, σ3, H3, I3, w3⟩
    | cont =>
      obtain ⟨σ3, H3, I3, n3⟩ := q3
      obtain ⟨m', hm, w3⟩ := hN σ3 H3 n3
      exact ⟨m', hm, σ3, H3, I3, w3⟩
    | brk => exact q3
    | ret v => exact q3
  | false =>
    rw [if_neg Bool.false_ne_true]
    exact wpAny_execs_nil ⟨σ1, H2, I2, q2⟩
end

/-! ### what a loop or a comprehension walks -/
/-- at turn i: it yields x (the heap may grow), or it stops -/
structure It where
  go : Nat → Hp → Prop
  yld : Nat → Hp → V → Hp → Prop
  stop : Nat → Hp → Prop
/-- the iterator's own objects may turn: they are not the frame's, not pinned, younger than the entry (or a comprehension's own) -/
def FpOk (X : Cx) (pins : List (Addr × Obj)) (H : Hp) (b : Addr) : Prop :=
  H b = none ∧ b ≠ X.env.locals ∧ b ∉ X.fs ∧ (b ∈ X.ex ∨ X.s₀.heap.objs.size ≤ b) ∧ (∀ x c, X.env.cells.lookup x = some c → c ≠ b) ∧ ∀ p ∈ X.pn ++ pins, p.1 ≠ b
theorem Inv.fpOk {X : Cx} {pins : List (Addr × Obj)} {σ : St} {H H' : Hp} {s : Shared} {b : Addr} (I : Inv X pins σ H s) (hb : s.heap.objs.size ≤ b) (hn : H' b = none) : FpOk X pins H' b := by
  refine ⟨hn, Nat.ne_of_gt (Nat.lt_of_lt_of_le I.lt hb), I.nofs hb, .inr (Nat.le_trans I.sz hb), fun x c e z => ?_, fun p hp z => ?_⟩
  · obtain ⟨v, q⟩ := I.cell x c e
    exact absurd (Nat.lt_of_lt_of_le q.lt (by rw [z]; exact hb)) (Nat.lt_irrefl _)
  · exact absurd (Nat.lt_of_lt_of_le (Heap.lt_size (I.pin p hp).1) (by rw [z]; exact hb)) (Nat.lt_irrefl _)
structure Turn (P : Program) (w : World) (K : PySem.W.Frag) (tg : Expr) (J : It) (fp : List Addr) (it : Addr) (tn : Nat → Heap → Prop) : Prop where
  mem : it ∈ fp
  obj : ∀ i h, tn i h → ∀ b ∈ fp, ∃ o, h.get? b = some o ∧ ∀ v, o.data ≠ .cell v
  keep : ∀ i h h', tn i h → (∀ b ∈ fp, ∀ o, h.get? b = some o → h'.get? b = some o) → tn i h'
  item : ∀ (X : Cx), X.prog = P → X.w = w → X.K = K → X.calm = true → ∀ (i : Nat) (pins : List (Addr × Obj)) (s : Shared) (σ : St) (H : Hp) (E : Value → Shared → Prop), Inv X pins σ H s → (∀ b ∈ fp, FpOk X pins H b) → tn i s.heap → J.go i H →
    wpAny (model P w) X.A (pyNext (.ref it)) (fun r s1 => ∃ u, r = some u ∧
      wpAny (model P w) X.A (letOwnedTupleGo tg (.ref it) u) (fun _ s2 => ∃ x H', Inv X pins σ H' s2 ∧ RelV x u ∧ J.yld i H x H' ∧ tn (i + 1) s2.heap ∧ ∀ b ∈ fp, H' b = none) E s1) E s
  done : ∀ (X : Cx), X.prog = P → X.w = w → X.K = K → X.calm = true → ∀ (i : Nat) (pins : List (Addr × Obj)) (s : Shared) (σ : St) (H : Hp) (E : Value → Shared → Prop), Inv X pins σ H s → (∀ b ∈ fp, FpOk X pins H b) → tn i s.heap → J.stop i H →
    wpAny (model P w) X.A (pyNext (.ref it)) (fun r s1 => r = none ∧ Inv X pins σ H s1) E s
  self : ∀ (A : Around) (i : Nat) (s : Shared) (Q : Value → Shared → Prop) (E : Value → Shared → Prop), tn i s.heap → Q (.ref it) s → wpAny (model P w) A (pyIter (.ref it)) Q E s
abbrev TI := St → Hp → (It → Hp → Prop) → Prop
/-- an iterator has come -/
def PIE (X : Cx) (pins : List (Addr × Obj)) (σ : St) (tg : Expr) (R : It → Hp → Prop) (itv : Value) (s2 : Shared) : Prop :=
  ∃ (it : Addr) (fp : List Addr) (tn : Nat → Heap → Prop) (J : It) (H' : Hp), itv = .ref it ∧ Inv X pins σ H' s2 ∧ Turn X.prog X.w X.K tg J fp it tn ∧ tn 0 s2.heap ∧ (∀ b ∈ fp, FpOk X pins H' b) ∧ R J H'
def PI (X : Cx) (tg iter : Expr) (wi : TI) : Prop :=
  ∀ (pins : List (Addr × Obj)) (s : Shared) (σ : St) (H : Hp) (R : It → Hp → Prop), Inv X pins σ H s → wi σ H R →
    wpAny (model X.prog X.w) X.A (eval iter X.env) (fun v s1 => wpAny (model X.prog X.w) X.A (pyIter v) (PIE X pins σ tg R) X.xe s1) X.xe s

/-- the step ahead of the store is nothing for an iterator that keeps no tuple -/
theorem go_of {M : Model} {A : Around} {E : Value → Shared → Prop} {s : Shared} {tg : Expr} {it : Addr} {u : Value} {o : Obj} {n : String} {vs : Array Value} {Q : Unit → Shared → Prop} (ho : s.heap.get? it = some o) (hc : o.cls = .type n) (hd : o.data = .fields vs)
    (hn : ["enumerate", "zip", "dict_itemiterator", "dict_reverseitemiterator", "odict_iterator", "itertools.zip_longest", "itertools.pairwise"].contains n = false) (hQ : Q () s) : wpAny M A (letOwnedTupleGo tg (.ref it) u) Q E s := by
  unfold letOwnedTupleGo
  cases tg <;> first
    | exact wpAny_pure hQ
    | (cases u <;> first
        | exact wpAny_pure hQ
        | (refine wpAny_bind (wpAny_load ho ?_)
           rw [hc, hd]
           show wpAny M A (if (["enumerate", "zip", "dict_itemiterator", "dict_reverseitemiterator", "odict_iterator", "itertools.zip_longest", "itertools.pairwise"].contains n && vs[0]? == some (rawInt _)) = true then _ else _) Q E s
           rw [if_neg (by intro h; rw [hn, Bool.false_and] at h; cases h)]
           exact wpAny_pure hQ))

/-- the list at a, as it stands at each turn (a loop may append to it) -/
def Itl (K : PySem.W.Frag) (a : Addr) : It :=
  ⟨fun i H => ∃ xs x, SqL K H a xs ∧ xs[i]? = some x, fun i H x H' => H' = H ∧ ∀ xs, SqL K H a xs → xs[i]? = some x, fun i H => ∃ xs, SqL K H a xs ∧ xs.length ≤ i⟩
def Itt (K : PySem.W.Frag) (a : Addr) : It :=
  ⟨fun i H => ∃ xs x, SqT K H a xs ∧ xs[i]? = some x, fun i H x H' => H' = H ∧ ∀ xs, SqT K H a xs → xs[i]? = some x, fun i H => ∃ xs, SqT K H a xs ∧ xs.length ≤ i⟩
/-- lo, lo + 1, .. (n of them) -/
def Itr (lo : Int) (n : Nat) : It := ⟨fun i _ => i < n, fun i H x H' => H' = H ∧ x = .int (lo + i), fun i _ => n ≤ i⟩
theorem turn_list {P : Program} {w : World} {K : PySem.W.Frag} {tg : Expr} (a it : Addr) : Turn P w K tg (Itl K a) [it] it (fun i h => h.IsListIter it a i) where
  mem := by simp
  obj := fun i h st b hb => by
    have e : b = it := by simpa using hb
    subst e
    obtain ⟨o, e, c, d⟩ := st
    exact ⟨o, e, fun v z => by rw [d] at z; cases z⟩
  keep := fun i h h' st k => st.at fun o e => k it (by simp) o e
  item := by
    intro X hP hw hK hc i pins s σ H E I hf st hg
    subst hP hw hK
    obtain ⟨xs, x, hq, hx⟩ := hg
    obtain ⟨its, rv, p, hz⟩ := I.list hq
    obtain ⟨u, hu, ru⟩ := rv.get hx
    obtain ⟨f0, f1, f2, f3, f4, f5⟩ := hf it (by simp)
    refine wpAny_pyNext_list_item st p.isList (x := u) (by simpa using hu) fun h' st' sb => ?_
    have I1 : Inv X pins σ H { s with heap := h' } := I.turned (t' := s.toks) (fun b o hb e => (sb.2 b hb).trans e) f0 f1 f3 f4 f5
    obtain ⟨o, e, c, d⟩ := id st'
    exact ⟨u, rfl, go_of (s := { s with heap := h' }) e c d (by decide) ⟨x, H, I1, ru, ⟨rfl, fun ys hy => by rw [I.list_inj hy hq]; exact hx⟩, st', fun b hb => (hf b hb).1⟩⟩
  done := by
    intro X hP hw hK hc i pins s σ H E I hf st hg
    subst hP hw hK
    obtain ⟨xs, hq, hx⟩ := hg
    obtain ⟨its, rv, p, hz⟩ := I.list hq
    obtain ⟨f0, f1, f2, f3, f4, f5⟩ := hf it (by simp)
    have hl := rv.length
    exact wpAny_pyNext_list_end (I.ok.hd hc) st p.isList (by simp; omega) fun h' eb => ⟨rfl, I.turned (t' := s.toks) (fun b o hb e => eb b o hb e) f0 f1 f3 f4 f5⟩
  self := fun _ _ _ _ _ st h => wpAny_pyIter_listiter st h
theorem turn_tuple {P : Program} {w : World} {K : PySem.W.Frag} {tg : Expr} (a it : Addr) : Turn P w K tg (Itt K a) [it] it (fun i h => h.IsTupleIter it a i) where
  mem := by simp
  obj := fun i h st b hb => by
    have e : b = it := by simpa using hb
    subst e
    obtain ⟨o, e, c, d⟩ := st
    exact ⟨o, e, fun v z => by rw [d] at z; cases z⟩
  keep := fun i h h' st k => st.at fun o e => k it (by simp) o e
  item := by
    intro X hP hw hK hc i pins s σ H E I hf st hg
    subst hP hw hK
    obtain ⟨xs, x, hq, hx⟩ := hg
    obtain ⟨its, rv, p, hz⟩ := I.tuple hq
    obtain ⟨u, hu, ru⟩ := rv.get hx
    obtain ⟨f0, f1, f2, f3, f4, f5⟩ := hf it (by simp)
    refine wpAny_pyNext_tuple_item st (show s.heap.IsTuple a its.toArray from p) (x := u) (by simpa using hu) fun h' st' sb => ?_
    have I1 : Inv X pins σ H { s with heap := h' } := I.turned (t' := s.toks) (fun b o hb e => (sb.2 b hb).trans e) f0 f1 f3 f4 f5
    obtain ⟨o, e, c, d⟩ := id st'
    exact ⟨u, rfl, go_of (s := { s with heap := h' }) e c d (by decide) ⟨x, H, I1, ru, ⟨rfl, fun ys hy => by rw [I.tuple_inj hy hq]; exact hx⟩, st', fun b hb => (hf b hb).1⟩⟩
  done := by
    intro X hP hw hK hc i pins s σ H E I hf st hg
    subst hP hw hK
    obtain ⟨xs, hq, hx⟩ := hg
    obtain ⟨its, rv, p, hz⟩ := I.tuple hq
    obtain ⟨f0, f1, f2, f3, f4, f5⟩ := hf it (by simp)
    have hl := rv.length
    exact wpAny_pyNext_tuple_end (I.ok.hd hc) st (show s.heap.IsTuple a its.toArray from p) (by simp; omega) fun h' eb => ⟨rfl, I.turned (t' := s.toks) (fun b o hb e => eb b o hb e) f0 f1 f3 f4 f5⟩
  self := fun _ _ _ _ _ st h => wpAny_pyIter_tupleiter st h
theorem turn_range {P : Program} {w : World} {K : PySem.W.Frag} {tg : Expr} (it : Addr) (lo : Int) (n : Nat) : Turn P w K tg (Itr lo n) [it] it (fun i h => IsRangeIter h it (lo + (i : Nat) * 1) ((n : Int) - (i : Nat)) 1) where
  mem := by simp
  obj := fun i h st b hb => by
    have e : b = it := by simpa using hb
    subst e
    exact ⟨_, st, fun v z => by
      have z' : Data.fields _ = Data.cell v := z
      cases z'⟩
  keep := fun i h h' st k => k it (by simp) _ st
  item := by
    intro X hP hw hK hc i pins s σ H E I hf st hg
    subst hP hw hK
    obtain ⟨f0, f1, f2, f3, f4, f5⟩ := hf it (by simp)
    have W := Walks.range (prog := X.prog) (w := X.w) (I.ok.hd hc) it lo 1 n
    refine W.item i s _ _ hg st fun v h' tk hv st' kk => ?_
    obtain ⟨t, rfl⟩ := hv
    have I1 : Inv X pins σ H { s with heap := h', toks := tk } := I.turned (fun b o hb e => kk b o (by simpa using hb) e) f0 f1 f3 f4 f5
    refine ⟨_, rfl, go_of (s := { s with heap := h', toks := tk }) (n := "range_iterator") st' rfl rfl (by decide) ⟨.int (lo + i), H, I1, ⟨t, ?_⟩, ⟨rfl, rfl⟩, st', fun b hb => (hf b hb).1⟩⟩
    rw [Int.mul_one]
  done := by
    intro X hP hw hK hc i pins s σ H E I hf st hg
    subst hP hw hK
    obtain ⟨f0, f1, f2, f3, f4, f5⟩ := hf it (by simp)
    exact wpAny_pyNext_range_end (I.ok.hd hc) st (by have : n ≤ i := hg; omega) fun h' eb => ⟨rfl, I.turned (t' := s.toks) (fun b o hb e => eb b o hb e) f0 f1 f3 f4 f5⟩
  self := fun _ _ _ _ _ st h => wpAny_pyIter_rangeiter st h
end L2

namespace L2
open PySem PySem.Spec PyProof.Rows
section
variable {X : Cx} {tg : Expr}
def iList (K : PySem.W.Frag) (tl : TE) : TI := fun σ H R => tl σ H fun x H1 => ∃ a, x = .ref a ∧ (∃ xs, SqL K H1 a xs) ∧ R (Itl K a) H1
def iTup (K : PySem.W.Frag) (tl : TE) : TI := fun σ H R => tl σ H fun x H1 => ∃ a, x = .ref a ∧ (∃ xs, SqT K H1 a xs) ∧ R (Itt K a) H1
theorem pi_list {l : Expr} {tl : TE} (hl : PE X l tl) : PI X tg l (iList X.K tl) := by
  intro pins s σ H R I h
  refine thn (hl pins s σ H _ I h) fun v s1 ⟨x, H1, I1, r1, q1⟩ => ?_
  obtain ⟨a, e, ⟨xs, hq⟩, q⟩ := q1
  subst e
  cases r1
  obtain ⟨its, rv, p, hz⟩ := I1.list hq
  refine wpAny_pyIter_list p.isList ?_
  refine ⟨s1.heap.objs.size, [s1.heap.objs.size], _, _, H1, rfl, I1.kept (t' := s1.toks) fun b o e => Heap.get?_push_of_some _ e, turn_list a _, ⟨_, Heap.get?_push_size _ rfl, rfl, rfl⟩, fun b hb => ?_, q⟩
  have e : b = s1.heap.objs.size := by simpa using hb
  subst e
  exact I1.fpOk (Nat.le_refl _) (I1.hok.fresh (Nat.le_refl _))
theorem pi_tup {l : Expr} {tl : TE} (hl : PE X l tl) : PI X tg l (iTup X.K tl) := by
  intro pins s σ H R I h
  refine thn (hl pins s σ H _ I h) fun v s1 ⟨x, H1, I1, r1, q1⟩ => ?_
  obtain ⟨a, e, ⟨xs, hq⟩, q⟩ := q1
  subst e
  cases r1
  obtain ⟨its, rv, p, hz⟩ := I1.tuple hq
  refine wpAny_pyIter_tuple (show s1.heap.IsTuple a its.toArray from p) ?_
  refine ⟨s1.heap.objs.size, [s1.heap.objs.size], _, _, H1, rfl, I1.kept (t' := s1.toks) fun b o e => Heap.get?_push_of_some _ e, turn_tuple a _, ⟨_, Heap.get?_push_size _ rfl, rfl, rfl⟩, fun b hb => ?_, q⟩
  have e : b = s1.heap.objs.size := by simpa using hb
  subst e
  exact I1.fpOk (Nat.le_refl _) (I1.hok.fresh (Nat.le_refl _))
/-- a range object just made, walked -/
theorem range_it {pins : List (Addr × Obj)} {σ : St} {H : Hp} {s : Shared} {R : It → Hp → Prop} {E : Value → Shared → Prop} {lo hi : Int} {t u v : Tok} {tk : Nat} (I : Inv X pins σ H s) (h1 : -(2 ^ 62) ≤ lo) (h2 : lo < 2 ^ 62) (h3 : -(2 ^ 62) ≤ hi) (h4 : hi < 2 ^ 62)
    (q : R (Itr lo (hi - lo).toNat) H) : wpAny (model X.prog X.w) X.A (pyIter (.ref s.heap.objs.size)) (PIE X pins σ tg R) E { s with heap := s.heap.push { cls := .type "range", data := .fields #[.int lo t, .int hi u, .int 1 v] }, toks := tk } := by
  refine wpAny_pyIter_range (IsRange.new ..) (small_one h1 h2 h3 h4) ?_
  have I1 : Inv X pins σ H { s with heap := s.heap.push { cls := .type "range", data := .fields #[.int lo t, .int hi u, .int 1 v] }, toks := tk } := I.kept fun b o e => Heap.get?_push_of_some _ e
  refine ⟨(s.heap.push { cls := .type "range", data := .fields #[.int lo t, .int hi u, .int 1 v] }).objs.size, [(s.heap.push { cls := .type "range", data := .fields #[.int lo t, .int hi u, .int 1 v] }).objs.size], _, _, H, rfl,
    I1.kept (t' := tk) fun b o e => Heap.get?_push_of_some _ e, turn_range _ lo (hi - lo).toNat, ?_, fun b hb => ?_, q⟩
  · have e1 : lo + ((0 : Nat) : Int) * 1 = lo := by simp
    have e2 : (((hi - lo).toNat : Nat) : Int) - ((0 : Nat) : Int) = Builtin.Range.rangeSize lo hi 1 := by rw [rangeSize_one]; split <;> omega
    show IsRangeIter _ _ (lo + ((0 : Nat) : Int) * 1) ((((hi - lo).toNat : Nat) : Int) - ((0 : Nat) : Int)) 1
    rw [e1, e2]
    exact Heap.get?_push_size _ rfl
  · have e : b = (s.heap.push { cls := .type "range", data := .fields #[.int lo t, .int hi u, .int 1 v] }).objs.size := by simpa using hb
    subst e
    exact I1.fpOk (Nat.le_refl _) (I1.hok.fresh (Nat.le_refl _))
def iRng1 (ta : TA) : TI := fun σ H R => ta σ H fun vs H1 => ∃ j : Int, vs = [.int j] ∧ -(2 ^ 62) ≤ j ∧ j < 2 ^ 62 ∧ R (Itr 0 j.toNat) H1
theorem pi_range1 {a : Expr} {ta : TA} {p pos : Pos} (hg : Gl X "range") (hm : X.mg "range" = none) (ha : PA X [a] ta) (hs : starEach [a] X.env = [(false, eval a X.env)] := by rfl) : PI X tg (.Call (.Name "range" p) [a] [] pos) (iRng1 ta) := by
  intro pins s σ H R I h
  refine Call_ (ld_blt I hg hm boot_range (PyProof.Rows.callWith_type1 (thn (ha pos pins s σ H _ I h) fun us s1 ⟨vs, H1, I1, r1, q1⟩ => ?_) hs rfl))
  obtain ⟨j, e, q1, q2, q⟩ := q1
  subst e
  cases r1 with
  | cons r rr =>
    cases rr
    obtain ⟨t, rfl⟩ := r
    exact call_range_1 (range_it I1 (by omega) (by omega) q1 q2 (by simpa using q))
/-! ### for -/
/-- W: the invariant by the turn and a measure; N: what the body is to reach -/
def tFor (wi : TI) (g : TG) (tb : TS) : TS := fun D σ H => wi σ H fun J H1 => ∃ W : Nat → Nat → St → Hp → Prop, (∃ m, W 0 m σ H1) ∧ ∀ i m σ H, W i m σ H →
  (J.stop i H ∧ D.nx σ H) ∨ (J.go i H ∧ ∃ N : St → Hp → Prop, (∀ σ' H', N σ' H' → ∃ m', m' < m ∧ W (i + 1) m' σ' H') ∧ ∀ x H', J.yld i H x H' → g x σ H' fun σ2 H2 => tb { D with nx := N, ct := N, bk := D.nx } σ2 H2)
/-- the records at fp as they stand -/
def pinsAt (fp : List Addr) (h : Heap) : List (Addr × Obj) := fp.filterMap fun b => (h.get? b).map fun o => (b, o)
theorem mem_pinsAt {fp : List Addr} {h : Heap} {b : Addr} {o : Obj} (hb : b ∈ fp) (e : h.get? b = some o) : (b, o) ∈ pinsAt fp h := List.mem_filterMap.mpr ⟨b, hb, by rw [e]; rfl⟩
theorem of_pinsAt {fp : List Addr} {h : Heap} {p : Addr × Obj} (hp : p ∈ pinsAt fp h) : p.1 ∈ fp ∧ h.get? p.1 = some p.2 := by
  obtain ⟨b, hb, e⟩ := List.mem_filterMap.mp hp
  cases q : h.get? b with
  | none => rw [q] at e; cases e
  | some o =>
    rw [q] at e
    have e' : (b, o) = p := Option.some.inj e
    subst e'
    exact ⟨hb, q⟩
theorem Inv.pinned {pins : List (Addr × Obj)} {σ : St} {H : Hp} {s : Shared} {fp : List Addr} (I : Inv X pins σ H s) (hf : ∀ b ∈ fp, FpOk X pins H b) (ho : ∀ b ∈ fp, ∃ o, s.heap.get? b = some o ∧ ∀ v, o.data ≠ .cell v) : Inv X (pins ++ pinsAt fp s.heap) σ H s :=
  I.pins_of fun p hp => (List.mem_append.mp hp).elim (fun z => I.pin p (List.mem_append_right _ z)) fun z => by
    obtain ⟨hb, e⟩ := of_pinsAt z
    obtain ⟨f0, f1, f2, _⟩ := hf p.1 hb
    obtain ⟨o, e', d⟩ := ho p.1 hb
    rw [e] at e'; cases e'
    exact ⟨e, f0, f1, f2, d⟩
theorem Inv.unpinned {pins pl : List (Addr × Obj)} {σ : St} {H : Hp} {s : Shared} (I : Inv X (pins ++ pl) σ H s) : Inv X pins σ H s := I.pins_of fun p hp => I.pin p (List.mem_append_right _ (List.mem_append_left _ hp))
theorem ps_for {iter : Expr} {body : List Stmt} {wi : TI} {g : TG} {tb : TS} {pos : Pos} (hp : PassesOwn (model X.prog X.w) X.A X.env X.xe) (hc : X.calm = true) (hi : PI X tg iter wi) (hg : PG X tg g) (hb : PSs X body tb)
    (hs : ∀ x, foldedSetIterable iter X.env x = pure x := by intro _; rfl) : PS X (.For tg iter body [] pos) (tFor wi g tb) := by
  intro pins s σ H D I h
  refine wpAny_For (thn (hi pins s σ H _ I h) fun v s1 h1 => thn h1 fun itv s2 h2 => ?_) hs
  obtain ⟨it, fp, tn, J, H2, e, I2, T, st2, f2, W, ⟨m0, w0⟩, turn⟩ := h2
  subst e
  -- what stays true of the iterator's objects through the loop
  have stat : ∀ {H' : Hp}, (∀ b ∈ fp, H' b = none) → ∀ b ∈ fp, FpOk X pins H' b := fun hn b hb => ⟨hn b hb, (f2 b hb).2⟩
  refine codeAny_forLoop_any (fun n s' => ∃ i σ' H', Inv X pins σ' H' s' ∧ tn i s'.heap ∧ (∀ b ∈ fp, H' b = none) ∧ W i n σ' H') ?_ m0 ⟨0, σ, H2, I2, st2, fun b hb => (f2 b hb).1, w0⟩
  rintro n s3 ⟨i, σ3, H3, I3, st3, fr3, w3⟩
  rcases turn i n σ3 H3 w3 with ⟨stop, qn⟩ | ⟨go, N, hN, step⟩
  · refine wpAny_passesOwn hp (thn (T.done X rfl rfl rfl hc i pins s3 σ3 H3 X.xe I3 (stat fr3) st3 stop) fun r s4 ⟨hr, I4⟩ => ?_)
    subst hr
    exact wpAny_execs_nil ⟨σ3, H3, I4, qn⟩
  · refine wpAny_passesOwn hp (thn (T.item X rfl rfl rfl hc i pins s3 σ3 H3 X.xe I3 (stat fr3) st3 go) fun r s4 ⟨u, hr, h4⟩ => ?_)
    subst hr
    refine wpAny_passesOwn hp (thn h4 fun _ s5 ⟨x, H5, I5, r5, y5, st5, fr5⟩ => ?_)
    have I5' := I5.pinned (stat fr5) (T.obj _ _ st5)
    refine wpAny_passesOwn hp (thn (hg _ s5 σ3 H5 x u _ I5' r5 (step x H5 y5)) fun _ s6 ⟨σ6, H6, I6, q6⟩ => ?_)
    refine wpAny_passesOwn hp (thn (hb _ s6 σ6 H6 _ I6 q6) fun f s7 q7 => ?_)
    have again : ∀ {σ7 : St} {H7 : Hp}, Inv X (pins ++ pinsAt fp s5.heap) σ7 H7 s7 → N σ7 H7 → ∃ m, m < n ∧ ∃ i σ' H', Inv X pins σ' H' s7 ∧ tn i s7.heap ∧ (∀ b ∈ fp, H' b = none) ∧ W i m σ' H' := fun {σ7 H7} I7 n7 => by
      obtain ⟨m', hm, w7⟩ := hN σ7 H7 n7
      refine ⟨m', hm, i + 1, σ7, H7, I7.unpinned, T.keep _ _ _ st5 fun b hb o e => (I7.pin (b, o) (List.mem_append_right _ (List.mem_append_right _ (mem_pinsAt hb e)))).1, fun b hb => ?_, w7⟩
      obtain ⟨o, e, d⟩ := T.obj _ _ st5 b hb
      exact (I7.pin (b, o) (List.mem_append_right _ (List.mem_append_right _ (mem_pinsAt hb e)))).2.1
    cases f with
    | next => obtain ⟨σ7, H7, I7, n7⟩ := q7; exact again I7 n7
    | cont => obtain ⟨σ7, H7, I7, n7⟩ := q7; exact again I7 n7
    | brk => obtain ⟨σ7, H7, I7, q7⟩ := q7; exact ⟨σ7, H7, I7.unpinned, q7⟩
    | ret v => obtain ⟨x7, σ7, H7, I7, r7, q7⟩ := q7; exact ⟨x7, σ7, H7, I7.unpinned, r7, q7⟩
end

/-! ### the forms one uses -/
/-- over a list that the body leaves as it is -/
theorem for_list {K : PySem.W.Frag} {a : Addr} {xs : List V} {g : TG} {tb : TS} {D : Ends} {σ : St} {H : Hp} (Pv : Nat → St → Hp → Prop) (h0 : Pv 0 σ H) (hl : ∀ i σ H, i ≤ xs.length → Pv i σ H → SqL K H a xs)
    (hs : ∀ i x σ H, xs[i]? = some x → Pv i σ H → g x σ H fun σ2 H2 => tb { D with nx := Pv (i + 1), ct := Pv (i + 1), bk := D.nx } σ2 H2) (hd : ∀ σ H, Pv xs.length σ H → D.nx σ H) :
    ∃ W : Nat → Nat → St → Hp → Prop, (∃ m, W 0 m σ H) ∧ ∀ i m σ H, W i m σ H →
      ((Itl K a).stop i H ∧ D.nx σ H) ∨ ((Itl K a).go i H ∧ ∃ N : St → Hp → Prop, (∀ σ' H', N σ' H' → ∃ m', m' < m ∧ W (i + 1) m' σ' H') ∧ ∀ x H', (Itl K a).yld i H x H' → g x σ H' fun σ2 H2 => tb { D with nx := N, ct := N, bk := D.nx } σ2 H2) := by
  refine ⟨fun i m σ H => m = xs.length - i ∧ i ≤ xs.length ∧ Pv i σ H, ⟨xs.length, by simp, Nat.zero_le _, h0⟩, ?_⟩
  rintro i m σ H ⟨rfl, hi, p⟩
  have q := hl i σ H hi p
  by_cases hlt : i < xs.length
  · refine .inr ⟨⟨xs, xs[i], q, by simp [hlt]⟩, Pv (i + 1), fun σ' H' p' => ⟨xs.length - (i + 1), by omega, rfl, hlt, p'⟩, fun x H' y => ?_⟩
    obtain ⟨e, y⟩ := y
    subst e
    exact hs i x σ _ (y xs q) p
  · have e : i = xs.length := by omega
    subst e
    exact .inl ⟨⟨xs, q, Nat.le_refl _⟩, hd σ H p⟩
theorem for_range {lo : Int} {n : Nat} {g : TG} {tb : TS} {D : Ends} {σ : St} {H : Hp} (Pv : Nat → St → Hp → Prop) (h0 : Pv 0 σ H)
    (hs : ∀ i σ H, i < n → Pv i σ H → g (.int (lo + i)) σ H fun σ2 H2 => tb { D with nx := Pv (i + 1), ct := Pv (i + 1), bk := D.nx } σ2 H2) (hd : ∀ σ H, Pv n σ H → D.nx σ H) :
    ∃ W : Nat → Nat → St → Hp → Prop, (∃ m, W 0 m σ H) ∧ ∀ i m σ H, W i m σ H →
      ((Itr lo n).stop i H ∧ D.nx σ H) ∨ ((Itr lo n).go i H ∧ ∃ N : St → Hp → Prop, (∀ σ' H', N σ' H' → ∃ m', m' < m ∧ W (i + 1) m' σ' H') ∧ ∀ x H', (Itr lo n).yld i H x H' → g x σ H' fun σ2 H2 => tb { D with nx := N, ct := N, bk := D.nx } σ2 H2) := by
  refine ⟨fun i m σ H => m = n - i ∧ i ≤ n ∧ Pv i σ H, ⟨n, by simp, Nat.zero_le _, h0⟩, ?_⟩
  rintro i m σ H ⟨rfl, hi, p⟩
  by_cases hlt : i < n
  · refine .inr ⟨hlt, Pv (i + 1), fun σ' H' p' => ⟨n - (i + 1), by omega, rfl, hlt, p'⟩, fun x H' y => ?_⟩
    obtain ⟨e, y⟩ := y
    subst e y
    exact hs i σ _ hlt p
  · have e : i = n := by omega
    subst e
    exact .inl ⟨Nat.le_refl _, hd σ H p⟩
/-- while, by a word and a measure of the state -/
theorem while_by {c : TT} {tb : TS} {D : Ends} {σ : St} {H : Hp} (Pv : St → Hp → Prop) (μ : St → Hp → Nat) (h0 : Pv σ H)
    (hs : ∀ σ H, Pv σ H → c σ H fun b H1 => if b = true then tb { D with nx := fun σ' H' => Pv σ' H' ∧ μ σ' H' < μ σ H, ct := fun σ' H' => Pv σ' H' ∧ μ σ' H' < μ σ H, bk := D.nx } σ H1 else D.nx σ H1)
    (mono : ∀ σ H Q Q', (∀ b H1, Q b H1 → Q' b H1) → c σ H Q → c σ H Q') : tWhile c tb D σ H := by
  refine ⟨fun m σ H => m = μ σ H ∧ Pv σ H, ⟨_, rfl, h0⟩, ?_⟩
  rintro m σ H ⟨rfl, p⟩
  refine mono σ H _ _ (fun b H1 q => ?_) (hs σ H p)
  cases b with
  | true => exact ⟨_, fun σ' H' ⟨p', l⟩ => ⟨_, l, rfl, p'⟩, q⟩
  | false => exact q
end L2

namespace L2
open PySem PySem.Spec PyProof.Rows

abbrev R2 := V → V → Hp → VK → Prop
/-- a two-place operation on values: f is binaryOp op, inplaceOp op or compareOp op -/
def OpR (X : Cx) (f : Value → Value → Sem Value) (r : R2) : Prop :=
  ∀ (pins : List (Addr × Obj)) (s : Shared) (σ : St) (H : Hp) (x y : V) (v u : Value) (Q : VK), Inv X pins σ H s → RelV x v → RelV y u → r x y H Q →
    wpAny (model X.prog X.w) X.A (f v u) (EP X pins σ Q) X.xe s
/-- a one-place operation -/
def UnR (X : Cx) (f : Value → Sem Value) (r : V → Hp → VK → Prop) : Prop :=
  ∀ (pins : List (Addr × Obj)) (s : Shared) (σ : St) (H : Hp) (x : V) (v : Value) (Q : VK), Inv X pins σ H s → RelV x v → r x H Q →
    wpAny (model X.prog X.w) X.A (f v) (EP X pins σ Q) X.xe s
/-- a call of a value that is known (a builtin, a type) with values -/
def CallR (X : Cx) (f : Value) (r : List V → Hp → VK → Prop) : Prop :=
  ∀ (pins : List (Addr × Obj)) (s : Shared) (σ : St) (H : Hp) (xs : List V) (us : List Value) (Q : VK), Inv X pins σ H s → Vals xs us → r xs H Q →
    wpAny (model X.prog X.w) X.A (call f us) (EP X pins σ Q) X.xe s
def tOp (r : R2) (ta tb : TE) : TE := fun σ H Q => ta σ H fun x H1 => tb σ H1 fun y H2 => r x y H2 Q
def tUn (r : V → Hp → VK → Prop) (ta : TE) : TE := fun σ H Q => ta σ H fun x H1 => r x H1 Q
/-- ints in, under C, and a value out -/
def rI (C : Int → Int → Prop) (g : Int → Int → V) : R2 := fun x y H Q => ∃ i j, x = .int i ∧ y = .int j ∧ C i j ∧ Q (g i j) H
def rI0 (g : Int → Int → V) : R2 := fun x y H Q => ∃ i j, x = .int i ∧ y = .int j ∧ Q (g i j) H
def rU (g : Int → V) : V → Hp → VK → Prop := fun x H Q => ∃ i, x = .int i ∧ Q (g i) H

section
variable {X : Cx} {a b c : Expr} {ta tb tc : TE} {pos : Pos}

theorem binT (ha : PE X a ta) (hb : PE X b tb) {pins : List (Addr × Obj)} {s : Shared} {σ : St} {H : Hp} {R : V → V → Hp → Prop} (I : Inv X pins σ H s)
    (h : ta σ H fun x H1 => tb σ H1 fun y H2 => R x y H2) {Q : Value → Shared → Prop} {f : Value → Value → Sem Value}
    (hf : ∀ v u s2 x y H2, Inv X pins σ H2 s2 → RelV x v → RelV y u → R x y H2 → wpAny (model X.prog X.w) X.A (f v u) Q X.xe s2) :
    wpAny (model X.prog X.w) X.A (eval a X.env) (fun v s₁ => wpAny (model X.prog X.w) X.A (eval b X.env) (fun u s₂ => wpAny (model X.prog X.w) X.A (f v u) Q X.xe s₂) X.xe s₁) X.xe s := by
  refine thn (ha pins s σ H _ I h) fun v s1 ⟨x, H1, I1, r1, q1⟩ => ?_
  refine thn (hb pins s1 σ H1 _ I1 q1) fun u s2 ⟨y, H2, I2, r2, q2⟩ => ?_
  exact hf v u s2 x y H2 I2 r1 r2 q2

theorem pe_op {op : Operator} {r : R2} (ho : OpR X (binaryOp op) r) (ha : PE X a ta) (hb : PE X b tb) : PE X (.BinOp a op b pos) (tOp r ta tb) := by
  intro pins s σ H Q I h
  exact wpAny_BinOp (binT ha hb I h fun v u s2 x y H2 I2 rx ry q => ho pins s2 σ H2 x y v u Q I2 rx ry q)
theorem pe_un {op : UnaryOp} {r : V → Hp → VK → Prop} (ho : UnR X (unaryOp op) r) (ha : PE X a ta) : PE X (.UnaryOp op a pos) (tUn r ta) := by
  intro pins s σ H Q I h
  exact UnaryOp_ (thn (ha pins s σ H _ I h) fun v s1 ⟨x, H1, I1, r1, q1⟩ => ho pins s1 σ H1 x v Q I1 r1 q1)
/-! ### ints -/
theorem opI {f : Value → Value → Sem Value} {C : Int → Int → Prop} {g : Int → Int → Int}
    (rule : ∀ (i j : Int) (t u : Tok) (s : Shared) (Q : Value → Shared → Prop) (E : Value → Shared → Prop), C i j → Q (.int (g i j) s.toks) { s with toks := s.toks + 1 } → wpAny (model X.prog X.w) X.A (f (.int i t) (.int j u)) Q E s) :
    OpR X f (rI C fun i j => .int (g i j)) := by
  intro pins s σ H x y v u Q I rx ry h
  obtain ⟨i, j, rfl, rfl, hc, q⟩ := h
  obtain ⟨t, rfl⟩ := rx
  obtain ⟨t', rfl⟩ := ry
  exact rule i j t t' s _ _ hc ⟨.int (g i j), H, I.tok _, ⟨_, rfl⟩, q⟩
theorem opI0 {f : Value → Value → Sem Value} {g : Int → Int → Int}
    (rule : ∀ (i j : Int) (t u : Tok) (s : Shared) (Q : Value → Shared → Prop) (E : Value → Shared → Prop), Q (.int (g i j) s.toks) { s with toks := s.toks + 1 } → wpAny (model X.prog X.w) X.A (f (.int i t) (.int j u)) Q E s) :
    OpR X f (rI0 fun i j => .int (g i j)) := by
  intro pins s σ H x y v u Q I rx ry h
  obtain ⟨i, j, rfl, rfl, q⟩ := h
  obtain ⟨t, rfl⟩ := rx
  obtain ⟨t', rfl⟩ := ry
  exact rule i j t t' s _ _ ⟨.int (g i j), H, I.tok _, ⟨_, rfl⟩, q⟩
theorem opB0 {f : Value → Value → Sem Value} {g : Int → Int → Bool}
    (rule : ∀ (i j : Int) (t u : Tok) (s : Shared) (Q : Value → Shared → Prop) (E : Value → Shared → Prop), Q (.bool (g i j)) s → wpAny (model X.prog X.w) X.A (f (.int i t) (.int j u)) Q E s) :
    OpR X f (rI0 fun i j => .bl (g i j)) := by
  intro pins s σ H x y v u Q I rx ry h
  obtain ⟨i, j, rfl, rfl, q⟩ := h
  obtain ⟨t, rfl⟩ := rx
  obtain ⟨t', rfl⟩ := ry
  exact rule i j t t' s _ _ ⟨.bl (g i j), H, I, rfl, q⟩

def CDiv (i j : Int) : Prop := 0 < j ∧ j < 1073741824
def CPow (i j : Int) : Prop := 0 ≤ j ∧ j ≤ 1000000 ∧ i.natAbs < 2 ^ 64
def CMul (i j : Int) : Prop := (-(2 ^ 64) < i ∧ i < 2 ^ 64) ∨ (-(2 ^ 64) < j ∧ j < 2 ^ 64)
theorem CMul.ok {i j : Int} (h : CMul i j) : IntMulOk i j := by
  rcases h with ⟨h1, h2⟩ | ⟨h1, h2⟩
  · exact .of_left (intBits_le_64 h1 h2)
  · exact .of_right (intBits_le_64 h1 h2)
theorem op_add : OpR X (binaryOp .Add) (rI0 fun i j => .int (i + j)) := opI0 fun _ _ _ _ _ _ _ q => add_int q
theorem op_sub : OpR X (binaryOp .Sub) (rI0 fun i j => .int (i - j)) := opI0 fun _ _ _ _ _ _ _ q => sub_int q
theorem op_mul : OpR X (binaryOp .Mult) (rI CMul fun i j => .int (i * j)) := opI fun _ _ _ _ _ _ _ hc q => mul_int q hc.ok
/-- // by a positive divisor -/
theorem op_fdiv : OpR X (binaryOp .FloorDiv) (rI CDiv fun i j => .int (i / j)) := opI fun i j _ _ _ _ _ hc q => by
  have h1 : (0 : Int) < j := hc.1
  have h2 : j < 1073741824 := hc.2
  exact floordiv_int (by omega) (by rw [Int.fdiv_eq_ediv_of_nonneg i (by omega)]; exact q) (.inl (PyProof.noPylong_small (by omega)))
/-- % by a positive divisor of any size -/
theorem op_mod : OpR X (binaryOp .Mod) (rI (fun _ j => 0 < j) fun i j => .int (i % j)) := opI fun i j _ _ _ _ _ hc q => by
  have h1 : (0 : Int) < j := hc
  exact mod_int' (by omega) (by rw [Int.fmod_eq_emod_of_nonneg i (by omega)]; exact q)
theorem op_pow : OpR X (binaryOp .Pow) (rI CPow fun i j => .int (i ^ j.toNat)) := opI fun _ _ _ _ _ _ _ hc q => pow_int_small hc.1 hc.2.1 hc.2.2 q
theorem unI {f : Value → Sem Value} {g : Int → Int}
    (rule : ∀ (i : Int) (t : Tok) (s : Shared) (Q : Value → Shared → Prop) (E : Value → Shared → Prop), Q (.int (g i) s.toks) { s with toks := s.toks + 1 } → wpAny (model X.prog X.w) X.A (f (.int i t)) Q E s) :
    UnR X f (rU fun i => .int (g i)) := by
  intro pins s σ H x v Q I rx h
  obtain ⟨i, rfl, q⟩ := h
  obtain ⟨t, rfl⟩ := rx
  exact rule i t s _ _ ⟨.int (g i), H, I.tok _, ⟨_, rfl⟩, q⟩
theorem un_neg : UnR X (unaryOp .USub) (rU fun i => .int (-i)) := unI fun _ _ _ _ _ q => neg_int q
/-! ### bools among ints: n += (a < b) -/
end

/-! ### comparisons -/
/-- the scalars that == tells apart as data does -/
def scal : V → V → Bool
  | .non, .non => true | .non, .int _ => true | .int _, .non => true | .non, .bl _ => true | .bl _, .non => true | .non, .str _ => true | .str _, .non => true
  | .int _, .int _ => true | .bl _, .bl _ => true | .str _, .str _ => true | .byt _, .byt _ => true
  | .int _, .str _ => true | .str _, .int _ => true | .bl _, .str _ => true | .str _, .bl _ => true
  | _, _ => false
def rNe : R2 := fun x y H Q => scal x y = true ∧ Q (.bl (!decide (x = y))) H

theorem dec_int {i j : Int} : decide (V.int i = V.int j) = (i == j) := by
  rw [Bool.eq_iff_iff]
  simp
theorem dec_bl {i j : Bool} : decide (V.bl i = V.bl j) = (i == j) := by
  rw [Bool.eq_iff_iff]
  simp
theorem dec_str {i j : Str} : decide (V.str i = V.str j) = (i == j) := by
  rw [Bool.eq_iff_iff]
  simp
theorem dec_byt {i j : Array UInt8} : decide (V.byt i = V.byt j) = (i.toList == j.toList) := by
  rw [Bool.eq_iff_iff]
  cases i
  cases j
  simp

section
variable {X : Cx} {a b c : Expr} {ta tb tc : TE} {pos : Pos}
theorem fin_bl {pins : List (Addr × Obj)} {σ : St} {H : Hp} {s : Shared} {Q : VK} {k k' : Bool} (I : Inv X pins σ H s) (q : Q (.bl k) H) (e : k = k') : EP X pins σ Q (.bool k') s := by
  subst e
  exact ⟨.bl k, H, I, rfl, q⟩
theorem op_ne : OpR X (compareOp .NotEq) rNe := by
  intro pins s σ H x y v u Q I rx ry h
  obtain ⟨hs, q⟩ := h
  cases x with
  | non =>
    cases rx
    cases y with
    | non => cases ry; exact PySem.EqNone.ne_none_none (fin_bl I q (by simp))
    | bl j => cases ry; exact PySem.EqNone.ne_none_bool (fin_bl I q (by simp))
    | int j => obtain ⟨t', rfl⟩ := ry; exact PySem.EqNone.ne_none_int (fin_bl I q (by simp))
    | str j => obtain ⟨t', rfl⟩ := ry; exact PySem.EqNone.ne_none_str (fin_bl I q (by simp))
    | _ => exact absurd (show false = true from hs) Bool.false_ne_true
  | bl i =>
    cases rx
    cases y with
    | non => cases ry; exact PySem.EqNone.ne_bool_none (fin_bl I q (by simp))
    | bl j => cases ry; exact ne_bool (fin_bl I q (congrArg not dec_bl))
    | str j => obtain ⟨t', rfl⟩ := ry; exact PySem.EqMixed.ne_bool_str (fin_bl I q (by simp))
    | _ => exact absurd (show false = true from hs) Bool.false_ne_true
  | int i =>
    obtain ⟨t, rfl⟩ := rx
    cases y with
    | non => cases ry; exact PySem.EqNone.ne_int_none (fin_bl I q (by simp))
    | int j => obtain ⟨t', rfl⟩ := ry; exact ne_int (fin_bl I q (congrArg not dec_int))
    | str j => obtain ⟨t', rfl⟩ := ry; exact PySem.EqMixed.ne_int_str (fin_bl I q (by simp))
    | _ => exact absurd (show false = true from hs) Bool.false_ne_true
  | str i =>
    obtain ⟨t, rfl⟩ := rx
    cases y with
    | non => cases ry; exact PySem.EqNone.ne_str_none (fin_bl I q (by simp))
    | bl j => cases ry; exact PySem.EqMixed.ne_str_bool (fin_bl I q (by simp))
    | int j => obtain ⟨t', rfl⟩ := ry; exact PySem.EqMixed.ne_str_int (fin_bl I q (by simp))
    | str j => obtain ⟨t', rfl⟩ := ry; exact ne_str (fin_bl I q (congrArg not dec_str))
    | _ => exact absurd (show false = true from hs) Bool.false_ne_true
  | byt i =>
    obtain ⟨t, rfl⟩ := rx
    cases y with
    | byt j => obtain ⟨t', rfl⟩ := ry; exact PySem.W.ne_bytes (fin_bl I q (congrArg not dec_byt))
    | _ => exact absurd (show false = true from hs) Bool.false_ne_true
  | _ => cases y <;> exact absurd (show false = true from hs) Bool.false_ne_true

theorem op_lt : OpR X (compareOp .Lt) (rI0 fun i j => .bl (decide (i < j))) := opB0 fun _ _ _ _ _ _ _ q => lt_int q
theorem op_gt : OpR X (compareOp .Gt) (rI0 fun i j => .bl (decide (j < i))) := opB0 fun _ _ _ _ _ _ _ q => gt_int q
theorem op_ge : OpR X (compareOp .GtE) (rI0 fun i j => .bl (decide (j ≤ i))) := opB0 fun _ _ _ _ _ _ _ q => ge_int q
theorem nomark (b : Expr) {op : CmpOp} (h : op ≠ .In := by decide) (h2 : op ≠ .NotIn := by decide) : behindInMarks op b = false := by
  have e1 : (op == CmpOp.In) = false := by cases op <;> first | rfl | exact absurd rfl h
  have e2 : (op == CmpOp.NotIn) = false := by cases op <;> first | rfl | exact absurd rfl h2
  cases b <;> simp [behindInMarks, e1, e2]
/-- a comparison as a value; hm: nomark b, or (for in, not in) by with_unfolding_all rfl -/
theorem pe_cmpR {op : CmpOp} {r : R2} (ho : OpR X (compareOp op) r) (ha : PE X a ta) (hb : PE X b tb) (hm : behindInMarks op b = false) : PE X (.Compare a [op] [b] pos) (tOp r ta tb) := by
  intro pins s σ H Q I h
  exact wpAny_Compare1 (binT ha hb I h fun v u s2 x y H2 I2 rx ry q => ho pins s2 σ H2 x y v u Q I2 rx ry q) hm
/-- a reading of a value as a test -/
def tTest (t : TE) : TT := fun σ H Q => t σ H fun x H' => ∃ k, x = .bl k ∧ Q k H'
theorem pt_cmpR {op : CmpOp} {r : R2} (ho : OpR X (compareOp op) r) (ha : PE X a ta) (hb : PE X b tb) (hm : behindInMarks op b = false) : PT X (.Compare a [op] [b] pos) (tTest (tOp r ta tb)) := by
  intro pins s σ H Q I h
  refine wpAny_isTrue_Compare1 (thn (ha pins s σ H _ I h) fun v s1 ⟨x, H1, I1, r1, q1⟩ => thn (hb pins s1 σ H1 _ I1 q1) fun u s2 ⟨y, H2, I2, r2, q2⟩ =>
    thn (ho pins s2 σ H2 x y v u _ I2 r1 r2 q2) fun c s3 ⟨z, H3, I3, r3, k, e, q3⟩ => ?_) hm
  subst e
  cases r3
  exact wpAny_truthy_bool ⟨H3, I3, q3⟩
/-! ### truth -/
theorem line63 : (sizeLine : Nat) < 2 ^ 63 := by rw [sizeLine_eq]; decide
/-! ### strs and bytes -/
/-! ### scalar builtins, by CallR -/
theorem vals1 {x : V} {us : List Value} (r : Vals [x] us) : ∃ u, us = [u] ∧ RelV x u := by
  cases r with
  | cons r1 r2 => cases r2; exact ⟨_, rfl, r1⟩
theorem call_abs : CallR X (.builtin "abs") (fun xs H Q => ∃ i, xs = [.int i] ∧ Q (.int (if i < 0 then -i else i)) H) := by
  intro pins s σ H xs us Q I r h
  obtain ⟨i, rfl, q⟩ := h
  obtain ⟨u, rfl, t, rfl⟩ := vals1 r
  exact call_abs_int fun u tk => ⟨.int (if i < 0 then -i else i), H, I.tok _, ⟨_, rfl⟩, q⟩
theorem call_int1 : CallR X (.type "int") (fun xs H Q => (∃ i, xs = [.int i] ∧ Q (.int i) H) ∨ ∃ k, xs = [.bl k] ∧ Q (.int (if k then 1 else 0)) H) := by
  intro pins s σ H xs us Q I r h
  rcases h with ⟨i, rfl, q⟩ | ⟨k, rfl, q⟩
  · obtain ⟨u, rfl, t, rfl⟩ := vals1 r
    exact call_int_int ⟨.int i, H, I, ⟨_, rfl⟩, q⟩
  · obtain ⟨u, rfl, r1⟩ := vals1 r
    cases r1
    exact call_int_bool ⟨.int (if k then 1 else 0), H, I.tok _, ⟨_, rfl⟩, q⟩
end
end L2

namespace L2
open PySem PySem.Spec PyProof.Rows

/-! ### an instance, its attributes a map -/
section
variable {prog : Program} {w : World} {A : Around} {E : Value → Shared → Prop} {s : Shared} {K : PySem.W.Frag} {x dx C f : Addr} {mA : Str → Option Value} {name : Str} {v : Value}

end

/-! ### the attributes as a list of pairs -/
theorem RelO.some_of {v : V} {o : Option Value} (r : RelO (some v) o) : ∃ u, o = some u ∧ RelV v u := by
  cases o with
  | none => exact (show False from r).elim
  | some u => exact ⟨u, rfl, r⟩
section
variable {P : Program} {w : World} {H H' : Hp} {h h' : Heap} {a C dx : Addr} {fs fs' : List (Str × V)}
end

/-! ### what of the text a class must have -/
section
variable {X : Cx} {pins : List (Addr × Obj)} {σ : St} {H : Hp} {s : Shared} {a C dx : Addr} {fs : List (Str × V)} {f : Str} {v : V} {A : Around} {E : Value → Shared → Prop}

end

/-! ### readings and rules -/
section
variable {X : Cx} {o e value : Expr} {f : Str} {pos pos' tpos : Pos} {ta tv : TE}
end

/-! ### isinstance -/
section
variable {X : Cx} {pins : List (Addr × Obj)} {σ : St} {H : Hp} {s : Shared} {A : Around} {E : Value → Shared → Prop} {Q : Value → Shared → Prop} {c : Value} {b : Bool}
end
end L2

namespace L2
open PySem PySem.Spec PyProof.Rows

/-! ### room -/
structure Room (k : Nat) (A : Around) : Prop where
  hd : A.handled = none
  dp : A.depth + 3 * k + 5 < recursionLimit
  un : A.units + 16 * k + 200 < cLine
  gd : A.guards = some []
theorem Room.mono {j k : Nat} {A : Around} (r : Room k A) (h : j ≤ k) : Room j A := ⟨r.hd, by have := r.dp; omega, by have := r.un; omega, r.gd⟩
theorem Room.deeper {k : Nat} {A : Around} (r : Room (k + 1) A) (env : Env) : Room k (A.deeper env) :=
  ⟨r.hd, by have := r.dp; show A.depth + 1 + 3 * k + 5 < _; omega, by have := r.un; show A.units + 3 + 16 * k + 200 < _; omega, r.gd⟩
theorem Room.depth {k : Nat} {A : Around} (r : Room k A) : A.depth < recursionLimit := by have := r.dp; omega
theorem Room.units {k : Nat} {A : Around} (r : Room k A) : A.units + 64 < cLine := by have := r.un; omega
/-! ### argument lists and displays -/
def tNil : TA := fun _ H Q => Q [] H
def tCons (ta : TE) (tr : TA) : TA := fun σ H Q => ta σ H fun x H1 => tr σ H1 fun xs H2 => Q (x :: xs) H2
section
variable {X : Cx} {e : Expr} {es : List Expr} {te : TE} {t : TA} {pos : Pos}
theorem pa_nil : PA X [] tNil := fun _ _ _ _ H Q I h => Calls.spliced_nil ⟨[], H, I, .nil, h⟩
theorem pa_cons (ha : PE X e te) (hr : PA X es t) (hs : starEach (e :: es) X.env = (false, eval e X.env) :: starEach es X.env := by rfl) : PA X (e :: es) (tCons te t) := by
  intro pos pins s σ H Q I h
  rw [hs]
  show wpAny _ _ (spliced ((false, eval e X.env) :: backTo pos (starEach es X.env))) _ _ s
  refine Calls.spliced_cons (thn (ha pins s σ H _ I h) fun u s1 ⟨x, H1, I1, r1, q1⟩ => ?_)
  exact thn (hr pos pins s1 σ H1 _ I1 q1) fun us s2 ⟨xs, H2, I2, r2, q2⟩ => ⟨x :: xs, H2, I2, .cons r1 r2, q2⟩

/-- a tuple, a list of written items -/
def tTup (t : TA) : TE := fun σ H Q => t σ H fun xs H1 => xs.length ≤ sizeLine ∧ ∀ p, H1 p = none → Q (.ref p) (upd H1 p (.tup xs))
def tLst (t : TA) : TE := fun σ H Q => t σ H fun xs H1 => xs.length ≤ sizeLine ∧ ∀ p, H1 p = none → Q (.ref p) (upd H1 p (.lst xs))
theorem pe_tup {x1} (h : PA X es t) : PE X (.Tuple es x1 pos) (tTup t) := by
  intro pins s σ H Q I hq
  refine wpAny_Tuple_spliced (thn (h pos pins s σ H _ I hq) fun us s1 ⟨xs, H1, I1, r, z, q⟩ => ⟨by rw [← r.length]; exact z, ?_⟩)
  have hf : H1 s1.heap.objs.size = none := I1.hok.fresh (Nat.le_refl _)
  refine ⟨.ref s1.heap.objs.size, upd H1 s1.heap.objs.size (.tup xs), I1.laid (t' := s1.toks) (fun b u e => Heap.get?_push_of_some _ e) (Nat.le_refl _) ?_, rfl, q _ hf⟩
  exact ⟨z, us, r, ⟨_, Heap.get?_push_size _ rfl, rfl, _, rfl, rfl⟩⟩
theorem pe_lst (h : PA X es t) : PE X (.List es pos) (tLst t) := by
  intro pins s σ H Q I hq
  refine wpAny_List_spliced (thn (h pos pins s σ H _ I hq) fun us s1 ⟨xs, H1, I1, r, z, q⟩ => ⟨by rw [← r.length]; exact z, ?_⟩)
  have hf : H1 s1.heap.objs.size = none := I1.hok.fresh (Nat.le_refl _)
  refine ⟨.ref s1.heap.objs.size, upd H1 s1.heap.objs.size (.lst xs), I1.laid (t' := s1.toks) (fun b u e => Heap.get?_push_of_some _ e) (Nat.le_refl _) ?_, rfl, q _ hf⟩
  exact ⟨z, us, 0, r, Heap.get?_push_size _ rfl⟩
end

/-! ### what a def promises -/
/-- a def's promise: the bound arguments in the parameters' order, the heap, the wanted end, the wanted exception -/
abbrev Sp := List V → Hp → VK → XK → Prop
/-- how an exception lies behind a call (file 08 gives it): the callers' frames, abstract heap and state ahead of the call, the wish, the exception, the state -/
abbrev CXT := List Env → Hp → Shared → XK → Value → Shared → Prop

/-- the state at a call -/
structure Env0 (P : Program) (w : World) (K : PySem.W.Frag) (mg : Str → Option Value) (base : Heap) (A : Around) (outer : List Env) (s : Shared) (H : Hp) : Prop where
  frames : A.frames = some outer
  mod : Mod K mg base
  bs : ∀ b o, base.get? b = some o → s.heap.get? b = some o ∧ H b = none
  bsz : base.objs.size ≤ s.heap.objs.size
  funs : s.heap.FunFrames base outer
  frf : ∀ b ∈ frs outer, H b = none
  hok : HOk P w H s.heap
  bare : AllBare s.gens
/-- a call's end -/
def CE (outer : List Env) (P : Program) (w : World) (H : Hp) (s : Shared) (Q : VK) (u : Value) (s' : Shared) : Prop :=
  ∃ v H', s'.os = s.os ∧ AllBare s'.gens ∧ Un (frs outer) [] H H' s.heap s'.heap ∧ HOk P w H' s'.heap ∧ RelV v u ∧ Q v H'
def CR (CX : CXT) (outer : List Env) (P : Program) (w : World) (H : Hp) (s : Shared) (Q : VK) (E : XK) (r : Result) (s' : Shared) : Prop :=
  match r with
  | .ok (.ret u) => CE outer P w H s Q u s'
  | .ok _ => False
  | .error e => CX outer H s E e s'
structure FnOk (P : Program) (w : World) (K : PySem.W.Frag) (mg : Str → Option Value) (base : Heap) (CX : CXT) (k : Nat) (f : Addr) (fd : FuncData) (ps : List Str) (sp : Sp) : Prop where
  len : ∀ vs H Q E, sp vs H Q E → vs.length = ps.length
  run : ∀ (A : Around) (outer : List Env) (s : Shared) (H : Hp) (args : Args) (us : List Value) (vs : List V) (Q : VK) (E : XK), Room k A → Env0 P w K mg base A outer s H → BindsTo s fd args (ps.zip us) → Vals vs us → sp vs H Q E →
    codeAny (model P w) A (.call (.ref f) args) (CR CX outer P w H s Q E) s
section
variable {X : Cx} {pins : List (Addr × Obj)} {σ : St} {H : Hp} {s s' : Shared}
/-- from a body: what a callee wants -/
theorem Inv.env0 (I : Inv X pins σ H s) : Env0 X.prog X.w X.K X.mg X.base X.A X.stack s H :=
  ⟨I.ok.frames, I.ok.mod, I.bs, Nat.le_trans I.ok.bsz I.sz, I.stack, I.stkFree, I.hok, I.bare⟩
/-- behind a call -/
theorem Inv.after {Q : VK} {u : Value} (I : Inv X pins σ H s) (h : CE X.stack X.prog X.w H s Q u s') : EP X pins σ Q u s' := by
  obtain ⟨v, H', os, bare, un, hok, r, q⟩ := h
  obtain ⟨hh, g, d, t, os'⟩ := s'
  obtain rfl : os' = s.os := os
  exact ⟨v, H', I.call (h' := hh) (g' := g) (d' := d) (t' := t) (ch := []) un hok bare (fun b z => absurd z (by simp)), r, q⟩
end

/-! ### calls -/
/-- f(..): the written arguments, then the defaults dvs; E: what is wanted of an exception -/
def tCall (sp : Sp) (dvs : List V) (E : XK) (t : TA) : TE := fun σ H Q => t σ H fun vs H1 => sp (vs ++ dvs) H1 Q E
/-- how the parameters are bound: us the positional arguments, kw the keywords' values by name, ds the defaults that fill up -/
def Binds (K : PySem.W.Frag) (fd : FuncData) (ps : List Str) (ds : List Value) : Prop :=
  ∀ (s : Shared) (us : List Value), K.In s.heap → (us ++ ds).length = ps.length → BindsTo s fd ⟨us, []⟩ (ps.zip (us ++ ds))
/-- every parameter is given -/
theorem Binds.all {K : PySem.W.Frag} {fd : FuncData} {ps : List Str} (h : ∀ us : List Value, us.length = ps.length → bindArgs fd ⟨us, []⟩ = pure (ps.zip us)) : Binds K fd ps [] := fun s us _ hl => by
  rw [List.append_nil] at hl ⊢
  exact .of_eq (h us hl)

/-- an exception of a callee reaches what this body wants of exceptions -/
def Passes (CX : CXT) (X : Cx) (E : XK) : Prop := ∀ (pins : List (Addr × Obj)) (σ : St) (H : Hp) (s : Shared) (e : Value) (s' : Shared), Inv X pins σ H s → CX X.stack H s E e s' → X.xe e s'

section
variable {X : Cx} {CX : CXT} {k : Nat} {f C : Addr} {fd : FuncData} {ps : List Str} {sp : Sp} {dvs : List V} {ds : List Value} {E : XK} {x m : Str} {p pos apos : Pos} {e o : Expr} {es : List Expr} {ta : TE} {t : TA}

/-- the callee runs -/
theorem run_fn {pins : List (Addr × Obj)} {σ : St} {H : Hp} {s : Shared} {Q : VK} {us : List Value} {vs : List V} (F : FnOk X.prog X.w X.K X.mg X.base CX k f fd ps sp) (hr : Room k X.A) (hb : Binds X.K fd ps ds) (hd : Vals dvs ds) (hx : Passes CX X E)
    (I : Inv X pins σ H s) (r : Vals vs us) (h : sp (vs ++ dvs) H Q E) : wpAny (model X.prog X.w) X.A (call (.ref f) us) (EP X pins σ Q) X.xe s := by
  have r2 : Vals (vs ++ dvs) (us ++ ds) := r.append hd
  have hl : (us ++ ds).length = ps.length := by rw [← r2.length]; exact F.len _ _ _ _ h
  refine wpAny_call (codeAny_mono (F.run X.A X.stack s H ⟨us, []⟩ (us ++ ds) (vs ++ dvs) Q E hr I.env0 (hb s us I.kIn hl) r2 h) fun r s' hq => ?_)
  cases r with
  | error e => exact hx pins σ H s e s' I hq
  | ok fl =>
    cases fl with
    | ret u => exact I.after hq
    | next => exact False.elim hq
    | brk => exact False.elim hq
    | cont => exact False.elim hq

theorem pe_call (F : FnOk X.prog X.w X.K X.mg X.base CX k f fd ps sp) (hr : Room k X.A) (hg : Gl X x) (hm : X.mg x = some (.ref f)) (hk : PySem.W.keepIn X.K (.ref f) = true) (hb : Binds X.K fd ps ds) (hd : Vals dvs ds) (hx : Passes CX X E)
    (ha : PA X (e :: es) t) (hdb : (x == ("__debug__" : Str)) = false := by decide) (he : starEach (e :: es) X.env = (false, eval e X.env) :: starEach es X.env := by rfl) (hpl : (backTo pos (starEach es X.env)).any (·.1) = false := by rfl) :
    PE X (.Call (.Name x p) (e :: es) [] pos) (tCall sp dvs E t) := by
  intro pins s σ H Q I h
  refine wpAny_Call_Name_kw (ld_glob I hg hm ?_ hdb)
  refine PySem.W.callWith_K (h₀ := X.base) I.ok.mod.kin hk (thn (ha pos pins s σ H _ I h) fun us s1 ⟨vs, H1, I1, r, q⟩ => ⟨I1.kIn, ?_⟩) he hpl
  exact run_fn F hr hb hd hx I1 r q
end

/-! ### keywords -/
section
variable {X : Cx} {CX : CXT} {k : Nat} {f C : Addr} {fd : FuncData} {ps ks : List Str} {sp : Sp} {E : XK} {x m : Str} {p pos apos kpos : Pos} {e o : Expr} {es : List Expr} {kws : List Keyword} {te ta : TE} {t tk : TA} {nm : Option Str}
variable {g : List Value → List Value → List Value} {gV : List V → List V → List V}
end

/-! ### a def's body keeps its promise -/
/-- names: the parameters first -/
structure FnScope (N P : List Str) (sc : Scope) : Prop where
  kind : sc.kind = .function
  co : sc.isCoroutine = false
  gen : sc.isGenerator = false
  nd : N.Nodup
  pre : N.take P.length = P
  par : ∀ x ∈ P, sc.names.lookup x = some .local ∨ sc.names.lookup x = some .cell
  nofree : ∀ y ∈ sc.names, y.2 ≠ .free

theorem bindL_out {kindOf : Str → Option NameKind} {x : Str} : ∀ {binds : List (Str × Value)} {m : Str → Option Value}, (∀ v, (x, v) ∉ binds) → bindL kindOf binds m x = m x
  | [], _, _ => rfl
  | (n, v) :: r, m, h => by
    unfold bindL
    rw [bindL_out fun w hw => h w (List.mem_cons_of_mem _ hw)]
    split
    · have : x ≠ n := by rintro rfl; exact h v List.mem_cons_self
      simp [this]
    · rfl
theorem bindC_out {kindOf : Str → Option NameKind} {x : Str} : ∀ {binds : List (Str × Value)} {m : Str → Option Value}, (∀ v, (x, v) ∉ binds) → bindC kindOf binds m x = m x
  | [], _, _ => rfl
  | (n, v) :: r, m, h => by
    unfold bindC
    rw [bindC_out fun w hw => h w (List.mem_cons_of_mem _ hw)]
    split
    · rfl
    · have : x ≠ n := by rintro rfl; exact h v List.mem_cons_self
      simp [this]
theorem bindL_get {kindOf : Str → Option NameKind} {x : Str} {v : Value} : ∀ {P : List Str} {vs : List Value} {i : Nat} {m : Str → Option Value}, P.Nodup → P[i]? = some x → vs[i]? = some v → kindOf x = some .local →
    bindL kindOf (P.zip vs) m x = some v
  | [], _, _, _, _, h, _, _ => by simp at h
  | _ :: _, [], _, _, _, _, h, _ => by simp at h
  | p :: P, w :: vs, 0, m, nd, h1, h2, hk => by
    simp at h1 h2; subst h1; subst h2
    show bindL kindOf ((p, w) :: P.zip vs) m p = _
    unfold bindL
    rw [bindL_out fun v hv => (List.nodup_cons.mp nd).1 (List.of_mem_zip hv).1, if_pos hk]
    simp
  | p :: P, w :: vs, i + 1, m, nd, h1, h2, hk => by
    show bindL kindOf ((p, w) :: P.zip vs) m x = _
    unfold bindL
    exact bindL_get (i := i) (List.nodup_cons.mp nd).2 (by simpa using h1) (by simpa using h2) hk
theorem bindC_get {kindOf : Str → Option NameKind} {x : Str} {v : Value} : ∀ {P : List Str} {vs : List Value} {i : Nat} {m : Str → Option Value}, P.Nodup → P[i]? = some x → vs[i]? = some v → kindOf x ≠ some .local →
    bindC kindOf (P.zip vs) m x = some v
  | [], _, _, _, _, h, _, _ => by simp at h
  | _ :: _, [], _, _, _, _, h, _ => by simp at h
  | p :: P, w :: vs, 0, m, nd, h1, h2, hk => by
    simp at h1 h2; subst h1; subst h2
    show bindC kindOf ((p, w) :: P.zip vs) m p = _
    unfold bindC
    rw [bindC_out fun v hv => (List.nodup_cons.mp nd).1 (List.of_mem_zip hv).1, if_neg hk]
    simp
  | p :: P, w :: vs, i + 1, m, nd, h1, h2, hk => by
    show bindC kindOf ((p, w) :: P.zip vs) m x = _
    unfold bindC
    exact bindC_get (i := i) (List.nodup_cons.mp nd).2 (by simpa using h1) (by simpa using h2) hk

/-- the names' values at the entry -/
def start (N : List Str) (vs : List V) : St := vs.map some ++ List.replicate (N.length - vs.length) none

/-- the context of a def's body, at its entry; an exception leaves the frame, then lies as CX says -/
def cxOf (CX : CXT) (P : Program) (w : World) (K : PySem.W.Frag) (mg : Str → Option Value) (base : Heap) (N : List Str) (qual : Str) (scope : Scope) (f : Addr) (cd : Value) (A : Around) (outer : List Env) (s : Shared) (H : Hp) (E : XK) : Cx where
  prog := P
  w := w
  K := K
  mg := mg
  base := base
  A := A.deeper (envOfC qual scope s.heap.objs.size f cd)
  N := N
  s₀ := s
  H₀ := H
  env := envOfC qual scope s.heap.objs.size f cd
  outer := outer
  stack := envOfC qual scope s.heap.objs.size f cd :: outer
  ex := []
  calm := true
  fn := fun _ => true
  pn := []
  xe := fun e s' => wpAny (model P w) (A.deeper (envOfC qual scope s.heap.objs.size f cd)) (leaving (envOfC qual scope s.heap.objs.size f cd) e) (fun _ s'' => CX outer H s E e s'') (fun e' s'' => CX outer H s E e' s'') s'

theorem cell_has {sc : Scope} {n : Nat} {x : Str} (h : sc.names.lookup x = some .cell) : ∃ c, (cellsFrom n sc.names []).lookup x = some c := by
  have q := PySem.W.cellsFrom_some sc.names n [] (.inl h)
  exact Option.isSome_iff_exists.mp q

theorem inv_start {CX : CXT} {P : Program} {w : World} {K : PySem.W.Frag} {mg : Str → Option Value} {base : Heap} {N ps : List Str} {qual : Str} {scope : Scope} {f : Addr} {cd : Value} {A : Around} {outer : List Env} {s s1 : Shared} {H : Hp} {E : XK} {us : List Value} {vs : List V}
    (S : FnScope N ps scope) (hd : A.handled = none) (e0 : Env0 P w K mg base A outer s H) (hl : vs.length = ps.length) (r : Vals vs us)
    (x : InCallC s s.heap.objs.size (bindL (envOfC qual scope s.heap.objs.size f cd).kindOf (ps.zip us) fun _ => none) (cellsFrom (s.heap.objs.size + 1) scope.names []) (bindC (envOfC qual scope s.heap.objs.size f cd).kindOf (ps.zip us) fun _ => none) s1) :
    Inv (cxOf CX P w K mg base N qual scope f cd A outer s H E) [] (start N vs) H s1 := by
  have hpl : ps.length ≤ N.length := by have := congrArg List.length S.pre; rw [List.length_take] at this; omega
  obtain ⟨h1, tk, rfl, hk⟩ := x.done
  have noA : ∀ b : Addr, b ∉ (cxOf CX P w K mg base N qual scope f cd A outer s H E).ex := fun b z => absurd (show b ∈ ([] : List Addr) from z) (by simp)
  refine ⟨⟨e0.mod, S.kind, rfl, rfl, Nat.le_refl _, fun y z c h1 h2 => ?_, fun y hy => ?_, fun y c _ h => ?_, fun _ => hd, Around.frames_deeper e0.frames, .inr ⟨rfl, rfl⟩, fun b z => absurd z (noA b), e0.bs, e0.bsz, fun b _ _ => noA b, fun b z => absurd z (noA b), e0.funs, e0.frf⟩,
    rfl, e0.bare, Un.kept hk, ⟨_, x.toInCall.ns, fun i y v h1 h2 h3 => ?_⟩, fun y c h => ⟨_, x.cell y c h⟩, e0.hok.fresh (Nat.le_refl _), fun y c h => ?_, fun p hp => absurd (show p ∈ ([] : List (Addr × Obj)) from hp) (by simp), e0.hok.kept hk, ?_⟩
  · exact name_of_addr x.apart (PySem.mem_of_lookup h1) (PySem.mem_of_lookup h2)
  · have hy : scope.names.lookup y = some .cell ∨ scope.names.lookup y = some .free := hy
    rcases hy with hy | hy
    · exact cell_has hy
    · exact absurd rfl (S.nofree _ (PySem.mem_of_lookup hy))
  · exact Nat.le_of_lt (x.above y c (PySem.mem_of_lookup h))
  · have hi : i < vs.length := by
      unfold start at h2
      by_cases hi : i < vs.length
      · exact hi
      · rw [List.getElem?_append_right (by simpa using hi)] at h2
        rw [List.getElem?_replicate] at h2
        split at h2 <;> cases h2
    have ha : vs[i]? = some v := by
      unfold start at h2
      rw [List.getElem?_append_left (by simpa using hi), List.getElem?_map] at h2
      cases e : vs[i]? with
      | none => rw [e] at h2; cases h2
      | some a => rw [e] at h2; cases h2; rfl
    obtain ⟨u, hu, rv⟩ := r.get ha
    have hp : ps[i]? = some y := by
      rw [← S.pre, List.getElem?_take_of_lt (by omega)]; exact h1
    have ndP : ps.Nodup := by rw [← S.pre]; exact S.nd.sublist (List.take_sublist _ _)
    refine ⟨u, rv, ?_⟩
    rcases S.par y (List.mem_of_getElem? hp) with k | k
    · exact .inl ⟨k, bindL_get ndP hp hu k⟩
    · obtain ⟨c, e⟩ := cell_has (n := s.heap.objs.size + 1) k
      refine .inr ⟨.inl k, c, e, ?_⟩
      have q := x.cell y c e
      rw [bindC_get ndP hp hu (by show scope.names.lookup y ≠ _; rw [k]; decide)] at q
      exact q
  · exact e0.hok.fresh (Nat.le_of_lt (x.above y c (PySem.mem_of_lookup h)))
  · unfold start
    show _ = N.length
    rw [List.length_append, List.length_map, List.length_replicate]
    omega

/-- THE RULE: a def (or a method) of the text, by its body. The body's reading t is chosen for each entry; it is run at the parameters' values -/
theorem fn_of {CX : CXT} {P : Program} {w : World} {K : PySem.W.Frag} {mg : Str → Option Value} {base : Heap} {k : Nat} {f : Addr} {name qual : Str} {params : Arguments} {body : List Stmt} {scope : Scope} {dV kV doc pm cdv ct oc : Value} {an od : Option Addr}
    {osl : Array (Option Value)} {N ps : List Str} {sp : Sp} (lk : K.lookup f = some ⟨oc, od, .func (PySem.W.fnOf name qual params body scope dV kV doc pm an cdv ct), osl⟩) (hcd : PySem.W.codeIn K cdv qual = true) (S : FnScope N ps scope)
    (len : ∀ vs H Q E, sp vs H Q E → vs.length = ps.length)
    (hbody : ∀ (A : Around) (outer : List Env) (s : Shared) (H : Hp) (vs : List V) (Q : VK) (E : XK), Room k (A.deeper (envOfC qual scope s.heap.objs.size f cdv)) → sp vs H Q E →
      ∃ t, PSs (cxOf CX P w K mg base N qual scope f cdv A outer s H E) body t ∧ t { nx := fun _ H' => Q .non H', rt := Q } (start N vs) H) :
    FnOk P w K mg base CX (k + 1) f (PySem.W.fnOf name qual params body scope dV kV doc pm an cdv ct) ps sp := by
  refine ⟨len, fun A outer s H args us vs Q E hr e0 hb r hsp => ?_⟩
  have hl := len _ _ _ _ hsp
  have KX : K.In s.heap := e0.mod.kin.keeps fun b o e => (e0.bs b o e).1
  have lim : s.heap.NoLimit := e0.mod.nolimit.keeps fun b o e => (e0.bs b o e).1
  have hkind : ∀ y ∈ ps.zip us, scope.names.lookup y.1 = some .local ∨ (scope.names.lookup y.1 = some .cell ∧ ((cellsFrom (s.heap.objs.size + 1) scope.names []).lookup y.1).isSome = true) := fun ⟨n, v⟩ hy => by
    rcases S.par n (List.of_mem_zip hy).1 with q | q
    · exact .inl q
    · exact .inr ⟨q, PySem.W.cellsFrom_some _ _ _ (.inl q)⟩
  refine codeAny_call_function hr.depth (KX _ _ lk) rfl S.co S.gen rfl (PySem.W.codeRec_of KX hcd) (hb _ _ _ _ ?_)
  refine wpAny_newFunctionEnv_cells S.kind hkind fun env he s1 x => ?_
  subst he
  refine ⟨lim.keeps x.toInCall.keep, codeAny_func ?_⟩
  obtain ⟨t, ht, hq⟩ := hbody A outer s H vs Q E (hr.deeper _) hsp
  have I : Inv (cxOf CX P w K mg base N qual scope f cdv A outer s H E) [] (start N vs) H s1 := inv_start S hr.hd e0 hl r x
  refine wpAny_mono (ht [] s1 (start N vs) H _ I hq) (fun fl s' hs => ?_) fun e s' hs => hs
  have fin : ∀ {σ' : St} {H' : Hp} {v : V} {u : Value}, Inv (cxOf CX P w K mg base N qual scope f cdv A outer s H E) [] σ' H' s' → RelV v u → Q v H' → CE outer P w H s Q u s' :=
    fun {σ' H' v u} J rv q => ⟨v, H', J.os, J.bare, J.base, J.hok, rv, q⟩
  cases fl with
  | ret u =>
    obtain ⟨v, σ', H', J, rv, q⟩ := hs
    exact fin J rv q
  | next =>
    obtain ⟨σ', H', J, q⟩ := hs
    exact fin (v := V.non) (u := Value.none) J rfl q
  | brk =>
    obtain ⟨_, _, _, q⟩ := hs
    exact False.elim q
  | cont =>
    obtain ⟨_, _, _, q⟩ := hs
    exact False.elim q
end L2

namespace L2
open PySem PySem.Spec PyProof.Rows
section
variable {X : Cx} {x : Str} {p pos : Pos} {e : Expr} {es : List Expr} {t : TA} {id T : String} {r : List V → Hp → VK → Prop}

def tCB (r : List V → Hp → VK → Prop) (t : TA) : TE := fun σ H Q => t σ H fun vs H1 => r vs H1 Q
/-- f(e, ..), f a built-in function -/
theorem pe_callB (hc : CallR X (.builtin id) r) (hg : Gl X x) (hm : X.mg x = none) (hv : bootBuiltins x = some (.builtin id)) (ha : PA X (e :: es) t) (hn : x ≠ "__name__" := by decide) (hdb : (x == ("__debug__" : Str)) = false := by decide)
    (he : starEach (e :: es) X.env = (false, eval e X.env) :: starEach es X.env := by rfl) (hpl : (backTo pos (starEach es X.env)).any (·.1) = false := by rfl) : PE X (.Call (.Name x p) (e :: es) [] pos) (tCB r t) := by
  intro pins s σ H Q I h
  refine wpAny_Call_Name_kw (ld_blt I hg hm hv ?_ hn hdb)
  exact PyProof.Rows.callWith_builtin1 (thn (ha pos pins s σ H _ I h) fun us s1 ⟨vs, H1, I1, r1, q1⟩ => hc pins s1 σ H1 vs us Q I1 r1 q1) he hpl
/-- T(e, ..), T a built-in type -/
theorem pe_callTy (hc : CallR X (.type T) r) (hg : Gl X x) (hm : X.mg x = none) (hv : bootBuiltins x = some (.type T)) (ha : PA X (e :: es) t) (hn : x ≠ "__name__" := by decide) (hdb : (x == ("__debug__" : Str)) = false := by decide)
    (he : starEach (e :: es) X.env = (false, eval e X.env) :: starEach es X.env := by rfl) (hpl : (backTo pos (starEach es X.env)).any (·.1) = false := by rfl) : PE X (.Call (.Name x p) (e :: es) [] pos) (tCB r t) := by
  intro pins s σ H Q I h
  refine wpAny_Call_Name_kw (ld_blt I hg hm hv ?_ hn hdb)
  exact PyProof.Rows.callWith_type1 (thn (ha pos pins s σ H _ I h) fun us s1 ⟨vs, H1, I1, r1, q1⟩ => hc pins s1 σ H1 vs us Q I1 r1 q1) he hpl
end
end L2

namespace HT
open PySem PyProof.Rows

section
open PySem.SeqAt
open PySem.AutoSeq1 (wpAny_loadPart')
open PySem.MeetsSeq PySem.MeetsSeq2 PySem.MeetsSeq3

end

section
variable {prog : Program} {w : World} {A : Around} {E : Value → Shared → Prop} {s : Shared}

/-! ### t[a:b], not the whole -/
/-- a slice's bound as a place among n (d where it is left out) -/
def sIx (n d : Nat) : Option Int → Nat
  | none => d
  | some v => if v < 0 then (v + (n : Int)).toNat else min v.toNat n
theorem sIx_none (n d : Nat) : sIx n d none = d := rfl
theorem sIx_nat (n d k : Nat) : sIx n d (some (k : Int)) = min k n := by
  show (if (k : Int) < 0 then ((k : Int) + (n : Int)).toNat else min (k : Int).toNat n) = min k n
  rw [if_neg (by omega), Int.toNat_natCast]
theorem sIx_le (n d : Nat) (hd : d ≤ n) (o : Option Int) : sIx n d o ≤ n := by
  cases o with
  | none => exact hd
  | some v =>
    show (if v < 0 then (v + (n : Int)).toNat else min v.toNat n) ≤ n
    by_cases hv : v < 0
    · rw [if_pos hv]; omega
    · rw [if_neg hv]; exact Nat.min_le_right _ _
theorem clip_eq (v : Int) (n d : Nat) : (if v < 0 then max (v + (n : Int)) 0 else min v (n : Int)) = ((sIx n d (some v) : Nat) : Int) := by
  show (if v < 0 then max (v + (n : Int)) 0 else min v (n : Int)) = (((if v < 0 then (v + (n : Int)).toNat else min v.toNat n) : Nat) : Int)
  by_cases hv : v < 0
  · simp only [if_pos hv]; omega
  · simp only [if_neg hv]; omega
theorem adjust_gen (lo hi : Option Int) (n : Nat) : Builtin.Slice.sliceAdjust lo hi 1 (n : Int) = (((sIx n 0 lo : Nat) : Int), ((sIx n n hi : Nat) : Int)) := by
  have h1 : ¬ ((1 : Int) < 0) := by omega
  unfold Builtin.Slice.sliceAdjust
  simp only [h1, if_false]
  refine Prod.ext ?_ ?_
  · cases lo with
    | none => rfl
    | some v => exact clip_eq v n 0
  · cases hi with
    | none => rfl
    | some v => exact clip_eq v n n
theorem places_gen (i j : Nat) : Builtin.Slice.slicePlaces (i : Int) (j : Int) 1 = j - i := by
  unfold Builtin.Slice.slicePlaces
  have h1 : (1 : Int) > 0 := by omega
  simp only [h1, if_true, Int.ediv_one]
  split <;> omega
theorem slicePart_ {v : Value} {o : Option Int} {Q : Option Int → Shared → Prop} (p : IsPart v o) (h : Q o s) : wpAny (model prog w) A (Builtin.Slice.slicePartIndex v) Q E s := by
  cases p with
  | none => exact slicePart_none h
  | int i t => exact slicePart_int h
theorem sliceApplied_gen {sl : Addr} {vl vu : Value} {lo hi : Option Int} {n : Nat} {Q : Int × Int × Nat → Shared → Prop} (hs : s.heap.IsSliceOf sl vl vu .none) (pl : IsPart vl lo) (pu : IsPart vu hi)
    (h : Q (((sIx n 0 lo : Nat) : Int), 1, sIx n n hi - sIx n 0 lo) s) : wpAny (model prog w) A (Builtin.Slice.sliceApplied (.ref sl) (pure (n : Int))) Q E s := by
  obtain ⟨os, hos, hcs, hds⟩ := id hs
  unfold Builtin.Slice.sliceApplied Builtin.Slice.sliceFields
  refine wpAny_bind (wpAny_bind (wpAny_field hos hds (x := vl) rfl (wpAny_bind (wpAny_field hos hds (x := vu) rfl (wpAny_bind (wpAny_field hos hds (x := .none) rfl (wpAny_pure ?_)))))))
  refine wpAny_bind (slicePart_none ?_)
  show wpAny _ _ (if ((1 : Int) == 0) = true then _ else _) _ _ s
  rw [if_neg (by decide)]
  refine wpAny_bind (slicePart_ pl (wpAny_bind (slicePart_ pu (wpAny_bind (wpAny_pure ?_)))))
  show wpAny _ _ (match Builtin.Slice.sliceAdjust lo hi 1 (n : Int) with | (lo, hi) => pure (lo, (1 : Int), Builtin.Slice.slicePlaces lo hi 1)) _ _ s
  rw [adjust_gen lo hi n]
  show wpAny _ _ (pure (((sIx n 0 lo : Nat) : Int), (1 : Int), Builtin.Slice.slicePlaces ((sIx n 0 lo : Nat) : Int) ((sIx n n hi : Nat) : Int) 1)) _ _ s
  rw [places_gen]
  exact wpAny_pure h
theorem pick_gen (xs : Array Value) (i k : Nat) : ((List.range k).filterMap fun (m : Nat) => xs[((i : Int) + (m : Int) * 1).toNat]?).toArray = ((xs.toList.drop i).take k).toArray := by
  have e : (fun (m : Nat) => xs[((i : Int) + (m : Int) * 1).toNat]?) = fun m => xs[i + m]? := by
    funext m
    have : ((i : Int) + (m : Int) * 1).toNat = i + m := by omega
    rw [this]
  rw [e]
  have := pick_run xs i k
  rw [List.filterMap_map] at this
  have e2 : ((fun x => xs[x]?) ∘ fun x => i + x) = fun m => xs[i + m]? := rfl
  rw [e2] at this
  rw [this]

theorem getItem_tuple_cut {t sl : Addr} {items : Array Value} {vl vu : Value} {lo hi : Option Int} {Q : Value → Shared → Prop} (ht : IsTup s.heap t items) (hs : s.heap.IsSliceOf sl vl vu .none) (pl : IsPart vl lo) (pu : IsPart vu hi)
    (hw : ¬ (sIx items.size 0 lo = 0 ∧ sIx items.size items.size hi = items.size))
    (h : Q (.ref s.heap.objs.size) { s with heap := s.heap.push { cls := .type "tuple", data := .seq ((items.toList.drop (sIx items.size 0 lo)).take (sIx items.size items.size hi - sIx items.size 0 lo)).toArray } })
    (hsz : items.size ≤ sizeLine) : wpAny (model prog w) A (getItem (.ref t) (.ref sl)) Q E s := by
  have htake : sizeOk (.seq ((items.toList.drop (sIx items.size 0 lo)).take (sIx items.size items.size hi - sIx items.size 0 lo)).toArray) := by
    show ((items.toList.drop (sIx items.size 0 lo)).take (sIx items.size items.size hi - sIx items.size 0 lo)).toArray.size ≤ sizeLine
    rw [List.size_toArray, List.length_take, List.length_drop, Array.length_toList]
    omega
  have hj : sIx items.size items.size hi ≤ items.size := sIx_le _ _ (Nat.le_refl _) hi
  obtain ⟨os, hos, hcs, hds⟩ := id hs
  have hTs : s.TypeIs (.ref sl) "slice" := ⟨os, hos, hcs⟩
  unfold getItem
  try with_reducible refine wpAny_holding ?_
  first | refine wpAny_bind (wpAny_pure ?_) | skip
  refine wpAny_bind (wpAny_sequenceKey ht.typeIs (by decide) ?_)
  refine wpAny_bind (wpAny_callSpecial?_slot (name := Str.ofString "__getitem__") ht.typeIs PyProof.Rows.slot_tuple_getitem
    (wpAny_call_entry PyProof.Rows.slot_tuple_getitem ht.typeIs entry_tuple_getitem ?_ (args_tuple_getitem _ _)))
  show wpAny _ _ (Builtin.Tuple.tupleItemsOf (.ref t) >>= _) _ _ s
  refine wpAny_bind (tupleItemsOf_ ht ?_)
  refine wpAny_bind (wpAny_typeOf hTs ?_)
  rw [if_pos (by decide)]
  refine wpAny_bind (sliceApplied_gen hs pl pu ?_)
  have hno : ¬ ((((sIx items.size 0 lo : Nat) : Int) == 0 && (1 : Int) == 1 && (sIx items.size items.size hi - sIx items.size 0 lo) == items.size) = true) := by
    intro q
    rw [Bool.and_eq_true, Bool.and_eq_true] at q
    have q1 : ((sIx items.size 0 lo : Nat) : Int) = 0 := eq_of_beq q.1.1
    have q2 : sIx items.size items.size hi - sIx items.size 0 lo = items.size := eq_of_beq q.2
    exact hw ⟨by omega, by omega⟩
  show wpAny _ _ (if (((sIx items.size 0 lo : Nat) : Int) == 0 && (1 : Int) == 1 && (sIx items.size items.size hi - sIx items.size 0 lo) == items.size) = true then _ else _) _ _ s
  rw [if_neg hno, pick_gen]
  first
    | exact wpAny_bind (m := Builtin.Tuple.tupleExact _) (wpAny_newObj_type (wpAny_pure ⟨_, rfl, wpAny_pure h⟩) htake)
    | exact wpAny_bind (m := Builtin.Tuple.tupleExact _) (wpAny_newObj_type (wpAny_bind (wpAny_pure (wpAny_pure ⟨_, rfl, wpAny_pure h⟩))) htake)
    | exact wpAny_bind (wpAny_bind (m := Builtin.Tuple.tupleExact _) (wpAny_newObj_type (wpAny_pure (wpAny_pure ⟨_, rfl, wpAny_pure h⟩)) htake))
    | exact wpAny_bind (wpAny_bind (m := Builtin.Tuple.tupleExact _) (wpAny_newObj_type (wpAny_pure ⟨_, rfl, wpAny_pure h⟩) htake))
end
end HT

namespace L2
open PySem PySem.Spec PyProof.Rows

/-! ### the parts of a slice -/
abbrev TO := St → Hp → (Option Int → Hp → Prop) → Prop
/-- a slice's part (left out, or an int) -/
def PO (X : Cx) (e : Option Expr) (t : TO) : Prop :=
  ∀ (pins : List (Addr × Obj)) (s : Shared) (σ : St) (H : Hp) (Q : Option Int → Hp → Prop), Inv X pins σ H s → t σ H Q →
    wpAny (model X.prog X.w) X.A (evalPart e X.env) (fun u s' => ∃ o H', Inv X pins σ H' s' ∧ IsPart u o ∧ Q o H') X.xe s
def tNoPart : TO := fun _ H Q => Q none H
def tPart (t : TE) : TO := fun σ H Q => t σ H fun x H1 => ∃ i, x = .int i ∧ Q (some i) H1

theorem intsAre_of {ns : List Int} : ∀ {us : List Value}, Vals (ns.map V.int) us → IntsAre us ns := by
  induction ns with
  | nil => intro us r; rw [List.map_nil] at r; cases r; exact .nil
  | cons n ns ih =>
    intro us r
    rw [List.map_cons] at r
    cases r with
    | cons r1 r2 =>
      obtain ⟨t, e⟩ := r1
      subst e
      exact .cons n t (ih r2)

section
variable {X : Cx} {e : Expr} {te : TE} {lo hi : Option Expr} {tl th : TO} {pos p2 : Pos}

theorem po_none : PO X none tNoPart := by
  intro pins s σ H Q I h
  rw [evalPart_none]
  exact wpAny_pure ⟨none, H, I, .none, h⟩
theorem po_some (h : PE X e te) : PO X (some e) (tPart te) := by
  intro pins s σ H Q I hw
  rw [evalPart_some]
  refine thn (h pins s σ H _ I hw) fun u s1 ⟨x, H1, I1, r1, q1⟩ => ?_
  obtain ⟨i, rfl, q⟩ := q1
  obtain ⟨t, rfl⟩ := r1
  exact ⟨some i, H1, I1, .int i t, q⟩

/-- what a slice of a value is, by values: the slice object stands at sl -/
def SlR (X : Cx) (r : V → Option Int → Option Int → Hp → VK → Prop) : Prop :=
  ∀ (pins : List (Addr × Obj)) (s : Shared) (σ : St) (H : Hp) (x : V) (v vl vu : Value) (lo hi : Option Int) (sl : Addr) (Q : VK), Inv X pins σ H s → RelV x v → s.heap.IsSliceOf sl vl vu .none → IsPart vl lo → IsPart vu hi → r x lo hi H Q →
    ∃ T id, typeLookup (.type T) "__getitem__" = pure (some (.builtin id)) ∧ s.TypeIs v T ∧ wpAny (model X.prog X.w) X.A (getItem v (.ref sl)) (EP X pins σ Q) X.xe s
def tSl (r : V → Option Int → Option Int → Hp → VK → Prop) (te : TE) (tl th : TO) : TE := fun σ H Q => te σ H fun x H1 => tl σ H1 fun l H2 => th σ H2 fun u H3 => r x l u H3 Q
/-- a[lo:hi], any a -/
theorem pe_slice {r : V → Option Int → Option Int → Hp → VK → Prop} (hr : SlR X r) (he : PE X e te) (hl : PO X lo tl) (hu : PO X hi th) : PE X (.Subscript e (.Slice lo hi none p2) pos) (tSl r te tl th) := by
  intro pins s σ H Q I h
  refine Subscript_ (thn (he pins s σ H _ I h) fun v s1 ⟨x, H1, I1, r1, q1⟩ => ?_)
  refine wpAny_Slice (thn (hl pins s1 σ H1 _ I1 q1) fun vl s2 ⟨l, H2, I2, pl, q2⟩ => thn (hu pins s2 σ H2 _ I2 q2) fun vu s3 ⟨u, H3, I3, pu, q3⟩ => ?_)
  rw [evalPart_none]
  refine wpAny_pure ?_
  have I4 : Inv X pins σ H3 { s3 with heap := s3.heap.push { cls := .type "slice", data := .fields #[vl, vu, .none] } } := I3.kept (t' := s3.toks) fun b ob q => Heap.get?_push_of_some _ q
  obtain ⟨T, id, hT, ht, hg⟩ := hr pins { s3 with heap := s3.heap.push { cls := .type "slice", data := .fields #[vl, vu, .none] } } σ H3 x v vl vu l u s3.heap.objs.size Q I4 r1 (Heap.IsSliceOf.new ..) pl pu q3
  show wpAny (model X.prog X.w) X.A (subscriptTail e (.Slice lo hi none p2) v (.ref s3.heap.objs.size)) (EP X pins σ Q) X.xe { s3 with heap := s3.heap.push { cls := .type "slice", data := .fields #[vl, vu, .none] } }
  exact tail_any (ops := [.ref s3.heap.objs.size, v]) ht hT hg (by with_unfolding_all rfl)

/-- the items of xs[lo:hi] -/
def cutV (xs : List V) (lo hi : Option Int) : List V := (xs.drop (HT.sIx xs.length 0 lo)).take (HT.sIx xs.length xs.length hi - HT.sIx xs.length 0 lo)
theorem cutV_length (xs : List V) (lo hi : Option Int) : (cutV xs lo hi).length ≤ xs.length := by
  unfold cutV
  rw [List.length_take, List.length_drop]
  omega
/-- t[lo:hi], not the whole of it (the whole would be t itself) -/
def rSlT (K : PySem.W.Frag) : V → Option Int → Option Int → Hp → VK → Prop := fun x lo hi H Q => ∃ a xs, x = .ref a ∧ SqT K H a xs ∧
  ¬ (HT.sIx xs.length 0 lo = 0 ∧ HT.sIx xs.length xs.length hi = xs.length) ∧ ∀ p, H p = none → Q (.ref p) (upd H p (.tup (cutV xs lo hi)))
theorem sl_tup : SlR X (rSlT X.K) := by
  intro pins s σ H x v vl vu lo hi sl Q I rx hs pl pu h
  obtain ⟨a, xs, rfl, hx, hw, q⟩ := h
  cases rx
  obtain ⟨its, r, ht, hz⟩ := I.tuple hx
  have hlen : its.toArray.size = xs.length := by rw [List.size_toArray]; exact r.length.symm
  refine ⟨"tuple", _, PyProof.Rows.slot_tuple_getitem.lookup, ht.typeIs, ?_⟩
  refine HT.getItem_tuple_cut ht hs pl pu (by rw [hlen]; exact hw) ?_ (by rw [hlen]; exact hz)
  rw [hlen]
  refine ⟨.ref s.heap.objs.size, _, I.laid (t' := s.toks) (o := .tup (cutV xs lo hi)) (fun b ob q => Heap.get?_push_of_some _ q) (Nat.le_refl _) ?_, rfl, q _ (I.hok.fresh (Nat.le_refl _))⟩
  exact ⟨Nat.le_trans (cutV_length xs lo hi) hz, _, (r.drop (HT.sIx xs.length 0 lo)).take (HT.sIx xs.length xs.length hi - HT.sIx xs.length 0 lo), IsTupN.new _ _⟩

/-! ### t < u, t + u -/
end
end L2

namespace L2
open PySem PySem.Spec PyProof.Rows

/-! ### places -/
/-- the place that an index of any sign means -/
def ixN (n : Nat) (i : Int) : Option Nat := if 0 ≤ i then (if i < n then some i.toNat else none) else if -(n : Int) ≤ i then some (i + n).toNat else none
def atI {α : Type} (xs : List α) (i : Int) : Option α := (ixN xs.length i).bind fun j => xs[j]?
theorem ixN_seq {n : Nat} {i : Int} {j : Nat} (h : ixN n i = some j) : seqIndex? i n = some j ∧ j < n ∧ -(n : Int) ≤ i ∧ i < n := by
  unfold ixN at h
  by_cases h0 : 0 ≤ i
  · rw [if_pos h0] at h
    by_cases h1 : i < n
    · rw [if_pos h1] at h
      have e : i.toNat = j := Option.some.inj h
      exact ⟨by rw [seqIndex_of h0 h1, e], by omega, by omega, h1⟩
    · rw [if_neg h1] at h; cases h
  · rw [if_neg h0] at h
    by_cases h1 : -(n : Int) ≤ i
    · rw [if_pos h1] at h
      have e : (i + n).toNat = j := Option.some.inj h
      exact ⟨by rw [seqIndex_neg (by omega) h1, e], by omega, h1, by omega⟩
    · rw [if_neg h1] at h; cases h
theorem atI_get {α : Type} {xs : List α} {i : Int} {v : α} (h : atI xs i = some v) : ∃ j, seqIndex? i xs.length = some j ∧ xs[j]? = some v ∧ j < xs.length ∧ -(xs.length : Int) ≤ i ∧ i < xs.length := by
  unfold atI at h
  cases e : ixN xs.length i with
  | none => rw [e] at h; cases h
  | some j =>
    rw [e] at h
    obtain ⟨h1, h2, h3, h4⟩ := ixN_seq e
    exact ⟨j, h1, h, h2, h3, h4⟩
theorem atI_nat {α : Type} {xs : List α} {j : Nat} {v : α} (h : xs[j]? = some v) : atI xs (j : Int) = some v := by
  have hj : j < xs.length := (List.getElem?_eq_some_iff.mp h).1
  have e : ixN xs.length (j : Int) = some j := by
    unfold ixN
    rw [if_pos (by omega), if_pos (by omega)]; simp
  unfold atI; rw [e]; exact h
theorem atI_last {α : Type} (xs : List α) (v : α) : atI (xs ++ [v]) (-1) = some v := by
  have hl : (xs ++ [v]).length = xs.length + 1 := by simp
  have e : ixN (xs ++ [v]).length (-1) = some xs.length := by
    unfold ixN
    rw [hl, if_neg (by decide), if_pos (by omega)]
    congr 1
    omega
  unfold atI
  rw [e]
  show (xs ++ [v])[xs.length]? = some v
  simp

/-! ### what may be subscripted -/
/-- what stands as an index of a plain subscript -/
def PlainIx (b : Expr) : Prop := ∀ o i, subscripted b false o i = operate [o, i] (getItem o i)
/-- a subscript by values -/
def IxR (X : Cx) (r : R2) : Prop :=
  ∀ (value slice : Expr) (pins : List (Addr × Obj)) (s : Shared) (σ : St) (H : Hp) (x y : V) (v u : Value) (Q : VK), Inv X pins σ H s → RelV x v → RelV y u → r x y H Q →
    subscripted slice false v u = operate [v, u] (getItem v u) → wpAny (model X.prog X.w) X.A (subscriptTail value slice v u) (EP X pins σ Q) X.xe s
section
variable {X : Cx} {a b : Expr} {ta tb : TE} {pos : Pos}
/-- a[b] -/
theorem pe_ix {r : R2} (hr : IxR X r) (ha : PE X a ta) (hb : PE X b tb) (hs : PlainIx b) : PE X (.Subscript a b pos) (tOp r ta tb) := by
  intro pins s σ H Q I h
  exact Subscript_ (binT ha hb I h fun v u s2 x y H2 I2 rx ry q => hr a b pins s2 σ H2 x y v u Q I2 rx ry q (hs _ _))

def rIxL (K : PySem.W.Frag) : R2 := fun x y H Q => ∃ p xs i v, x = .ref p ∧ y = .int i ∧ SqL K H p xs ∧ atI xs i = some v ∧ Q v H
def rIxT (K : PySem.W.Frag) : R2 := fun x y H Q => ∃ p xs i v, x = .ref p ∧ y = .int i ∧ SqT K H p xs ∧ atI xs i = some v ∧ Q v H
theorem ix_list : IxR X (rIxL X.K) := by
  intro value slice pins s σ H x y v u Q I rx ry h hs
  obtain ⟨p, xs, i, z, rfl, rfl, hq, he, q⟩ := h
  cases rx
  obtain ⟨t, rfl⟩ := ry
  obtain ⟨its, r, pl, hz⟩ := I.list hq
  obtain ⟨j, h1, h2, h3, h4, h5⟩ := atI_get he
  obtain ⟨w, ew, rw'⟩ := r.get h2
  have hl := r.length
  have hn := line63
  have fin : EP X pins σ Q w s := ⟨z, H, I, rw', q⟩
  by_cases h0 : 0 ≤ i
  · have hj : i.toNat = j := by
      rw [seqIndex_of h0 h5] at h1
      exact Option.some.inj h1
    exact item_listR pl.isList h0 (by omega) (by rw [hj]; simpa using ew) fin hs
  · have hj : (i + (its.toArray.size : Int)).toNat = j := by
      rw [seqIndex_neg (by omega) h4] at h1
      rw [List.size_toArray, ← hl]
      exact Option.some.inj h1
    exact subscriptTail_builtinR (x := w) pl.isList.typeIs slot_list_getitem.lookup
      (wpAny_getItem_list_neg (Q := fun r s' => r = w ∧ EP X pins σ Q r s') pl.isList (by omega) (by rw [List.size_toArray] <;> omega) (by omega) (by rw [hj]; simpa using ew) ⟨rfl, fin⟩) hs
theorem ix_tup : IxR X (rIxT X.K) := by
  intro value slice pins s σ H x y v u Q I rx ry h hs
  obtain ⟨p, xs, i, z, rfl, rfl, hq, he, q⟩ := h
  cases rx
  obtain ⟨t, rfl⟩ := ry
  obtain ⟨its, r, pl, hz⟩ := I.tuple hq
  obtain ⟨j, h1, h2, h3, h4, h5⟩ := atI_get he
  obtain ⟨w, ew, rw'⟩ := r.get h2
  have hl := r.length
  have hn := line63
  have fin : EP X pins σ Q w s := ⟨z, H, I, rw', q⟩
  exact subscriptTail_builtinR (x := w) pl.typeIs slot_tuple_getitem.lookup
    (getItem_tuple (j := j) (Q := fun r s' => r = w ∧ EP X pins σ Q r s') pl (by omega) (by omega) (by rw [List.size_toArray, ← hl]; exact h1) (by simpa using ew) ⟨rfl, fin⟩) hs
/-! ### xs[i] = v, any sign -/
/-- the list's object behind a store -/
theorem mapSeq_set (its : List Value) (n j : Nat) (u : Value) : Obj.mapSeq (·.setIfInBounds j u) { cls := .type "list", data := .seq its.toArray n } = { cls := .type "list", data := .seq (its.set j u).toArray n } := by
  simp [Obj.mapSeq]
theorem Inv.lst {pins : List (Addr × Obj)} {σ : St} {H : Hp} {s : Shared} {p : Addr} {xs : List V} (I : Inv X pins σ H s) (h : H p = some (.lst xs)) :
    ∃ (its : List Value) (n : Nat), Vals xs its ∧ s.heap.get? p = some { cls := .type "list", data := .seq its.toArray n } ∧ xs.length ≤ sizeLine := by
  obtain ⟨z, its, n, r, e⟩ := I.hok p _ h
  exact ⟨its, n, r, e, z⟩
/-- the list at p is written by an update of its object -/
theorem Inv.lstUpd {pins : List (Addr × Obj)} {σ : St} {H : Hp} {s : Shared} {p : Addr} {xs ys : List V} {its its' : List Value} {n n' : Nat} {f : Obj → Obj} (I : Inv X pins σ H s) (h : H p = some (.lst xs))
    (ho : s.heap.get? p = some { cls := .type "list", data := .seq its.toArray n }) (hf : f { cls := .type "list", data := .seq its.toArray n } = { cls := .type "list", data := .seq its'.toArray n' }) (r : Vals ys its') (hz : ys.length ≤ sizeLine) (t : Nat) :
    Inv X pins σ (upd H p (.lst ys)) { s with heap := s.heap.update p f, toks := t } := by
  have e : (s.heap.update p f).get? p = some { cls := .type "list", data := .seq its'.toArray n' } := by
    rw [Heap.get?_update_self f ho (by rw [hf] <;> rfl), hf]
  refine I.write (x := p) (e := p) (by rw [h]; trivial) (.inl rfl) (fun b u hb q => (Heap.get?_update_other _ _ (Ne.symm hb)).trans q) ⟨_, e⟩ ?_
  exact ⟨hz, its', n', r, e⟩
def rSetL : V → V → V → Hp → (Hp → Prop) → Prop := fun o i v H Q => ∃ p xs k j, o = .ref p ∧ i = .int k ∧ H p = some (.lst xs) ∧ ixN xs.length k = some j ∧ Q (upd H p (.lst (xs.set j v)))
theorem set_list : PSet X rSetL := by
  intro pins s σ H o i v ov iv u Q I ro ri rv h
  obtain ⟨p, xs, k, j, rfl, rfl, hp, hj, q⟩ := h
  cases ro
  obtain ⟨t, rfl⟩ := ri
  obtain ⟨its, n, r, ho, hz⟩ := I.lst hp
  obtain ⟨h1, h2, h3, h4⟩ := ixN_seq hj
  have hl := r.length
  have hn := line63
  have I' : Inv X pins σ (upd H p (.lst (xs.set j v))) { s with heap := s.heap.update p (Obj.mapSeq (·.setIfInBounds j u)) } :=
    I.lstUpd hp ho (mapSeq_set its n j u) (r.set rv j) (by rw [List.length_set]; exact hz) s.toks
  by_cases h0 : 0 ≤ k
  · have hk : k.toNat = j := by
      rw [seqIndex_of h0 h4] at h1
      exact Option.some.inj h1
    exact PySem.W.ki_setAt ho h0 (by omega) (by rw [List.size_toArray, ← hl]; exact h4) (by rw [hk]; exact ⟨_, I', q⟩)
  · have hk : (k + (its.toArray.size : Int)).toNat = j := by
      rw [seqIndex_neg (by omega) h3] at h1
      rw [List.size_toArray, ← hl]
      exact Option.some.inj h1
    exact PySem.W.ki_setBack ho (by omega) (by rw [List.size_toArray, ← hl]; exact h3) (by omega) (by rw [hk]; exact ⟨_, I', q⟩)

/-! ### slices -/
theorem slice_bounds (lo hi : Option Int) (n : Nat) : (sliceBounds lo hi none n).1 = ((HT.sIx n 0 lo : Nat) : Int) ∧ (sliceBounds lo hi none n).2.1 = ((HT.sIx n n hi : Nat) : Int) ∧ (sliceBounds lo hi none n).2.2 = 1 := by
  refine ⟨?_, ?_, rfl⟩
  · cases lo with
    | none => simp [sliceBounds, HT.sIx]
    | some i =>
      simp only [sliceBounds, HT.sIx, Option.getD_none, show (1 : Int) > 0 by decide, if_true]
      by_cases h : i < 0
      · simp only [h, if_true] <;> omega
      · simp only [h, if_false] <;> omega
  · cases hi with
    | none => simp [sliceBounds, HT.sIx]
    | some i =>
      simp only [sliceBounds, HT.sIx, Option.getD_none, show (1 : Int) > 0 by decide, if_true]
      by_cases h : i < 0
      · simp only [h, if_true] <;> omega
      · simp only [h, if_false] <;> omega
theorem slicePick_cut (its : List Value) (lo hi : Option Int) : slicePick its.toArray lo hi none = ((its.drop (HT.sIx its.length 0 lo)).take (HT.sIx its.length its.length hi - HT.sIx its.length 0 lo)).toArray := by
  obtain ⟨h1, h2, h3⟩ := slice_bounds lo hi its.toArray.size
  unfold slicePick
  rw [h1, h2, h3]
  simp only [sliceRange_one, pick_run, List.size_toArray] <;> rfl
/-- xs[lo:hi] of a list: a new list -/
def rSlL (K : PySem.W.Frag) : V → Option Int → Option Int → Hp → VK → Prop := fun x lo hi H Q => ∃ a xs, x = .ref a ∧ SqL K H a xs ∧ ∀ p, H p = none → Q (.ref p) (upd H p (.lst (cutV xs lo hi)))
theorem sl_list : SlR X (rSlL X.K) := by
  intro pins s σ H x v vl vu lo hi sl Q I rx hs pl pu h
  obtain ⟨a, xs, rfl, hx, q⟩ := h
  cases rx
  obtain ⟨its, r, ht, hz⟩ := I.list hx
  have hlen := r.length
  refine ⟨"list", _, slot_list_getitem.lookup, ht.isList.typeIs, ?_⟩
  refine wpAny_getItem_list_slice ht.isList hs pl pu .none (by simp) ?_ (by rw [List.size_toArray] <;> omega)
  rw [slicePick_cut, ← hlen]
  refine ⟨.ref s.heap.objs.size, _, I.laid (t' := s.toks) (o := .lst (cutV xs lo hi)) (fun b ob q => Heap.get?_push_of_some _ q) (Nat.le_refl _) ?_, rfl, q _ (I.hok.fresh (Nat.le_refl _))⟩
  exact ⟨Nat.le_trans (cutV_length xs lo hi) hz, _, 0, (r.drop (HT.sIx xs.length 0 lo)).take (HT.sIx xs.length xs.length hi - HT.sIx xs.length 0 lo), Heap.get?_push_size _ rfl⟩

/-! ### in, not in: flat items -/
/-! ### len, list(x), tuple(x) of any list or tuple that is read -/
theorem call_len_seq : CallR X (.builtin "len") (fun xs H Q => ∃ p ys, xs = [.ref p] ∧ (SqL X.K H p ys ∨ SqT X.K H p ys) ∧ Q (.int ys.length) H) := by
  intro pins s σ H xs us Q I r h
  obtain ⟨p, ys, rfl, hq, q⟩ := h
  obtain ⟨u, rfl, rx⟩ := vals1 r
  cases rx
  have hn := line63
  rcases hq with hq | hq
  · obtain ⟨its, r', pl, hz⟩ := I.list hq
    have hlen := r'.length
    exact Calls.call_len_list pl.isList (by simp only [List.size_toArray] <;> omega) ⟨.int ys.length, H, I.tok _, ⟨s.toks + 1, by rw [List.size_toArray, hlen]⟩, q⟩
  · obtain ⟨its, r', pl, hz⟩ := I.tuple hq
    have hlen := r'.length
    exact len_tuple pl (by simp only [List.size_toArray] <;> omega) ⟨.int ys.length, H, I.tok _, ⟨s.toks + 1, by rw [List.size_toArray, hlen]⟩, q⟩
theorem call_tuple_of : CallR X (.type "tuple") (fun xs H Q => ∃ p ys, xs = [.ref p] ∧ ((SqL X.K H p ys ∧ ∀ l, H l = none → Q (.ref l) (upd H l (.tup ys))) ∨ (SqT X.K H p ys ∧ Q (.ref p) H))) := by
  intro pins s σ H xs us Q I r h
  obtain ⟨p, ys, rfl, h⟩ := h
  obtain ⟨u, rfl, rx⟩ := vals1 r
  cases rx
  rcases h with ⟨hq, q⟩ | ⟨hq, q⟩
  · obtain ⟨its, r', pl, hz⟩ := I.list hq
    have hlen := r'.length
    refine call_tuple_list pl.isList (fun h' kp => ?_) (by simp only [List.size_toArray] <;> omega)
    have I1 : Inv X pins σ H { s with heap := h' } := I.kept (t' := s.toks) kp
    have I2 : Inv X pins σ (upd H h'.objs.size (.tup ys)) { s with heap := h'.push { cls := .type "tuple", data := .seq its.toArray } } :=
      I1.laid (t' := s.toks) (fun b o e => Heap.get?_push_of_some _ e) (Nat.le_refl _) (show ObjOk X.prog X.w _ _ _ (.tup ys) from ⟨hz, its, r', IsTupN.new _ _⟩)
    exact ⟨.ref h'.objs.size, _, I2, rfl, q _ (I1.hok.fresh (Nat.le_refl _))⟩
  · obtain ⟨its, r', pl, hz⟩ := I.tuple hq
    exact call_tuple_same pl ⟨.ref p, H, I, rfl, q⟩

/-! ### the call of a builtin's method: o.m(..) -/
variable {o e : Expr} {es : List Expr} {to : TE} {t : TA} {name : Str} {apos cpos : Pos} {T id : String} {r : V → List V → Hp → VK → Prop}
/- xs.append(e), list.index on a module's tuple .. are MtR facts of 06m -/
end
end L2

namespace L2
open PySem PySem.Spec PyProof.Rows

def MtM (X : Cx) (id : String) (r : V → List V → Hp → VK → Prop) : Prop :=
  ∀ (pins : List (Addr × Obj)) (s : Shared) (σ : St) (H : Hp) (x : V) (xs : List V) (v : Value) (us : List Value) (Q : VK), Inv X pins σ H s → RelV x v → Vals xs us → r x xs H Q →
    wpAny (model X.prog X.w) X.A (call (.builtin id) (v :: us)) (EP X pins σ Q) X.xe s

/-! ### lists of values -/
theorem Vals.one : ∀ {x : V} {us : List Value}, Vals [x] us → ∃ u, us = [u] ∧ RelV x u
  | _, _, .cons r .nil => ⟨_, rfl, r⟩
theorem Vals.rep {xs : List V} {us : List Value} (h : Vals xs us) : ∀ k : Nat, Vals (List.replicate k xs).flatten (List.replicate k us).flatten
  | 0 => .nil
  | k + 1 => by
    rw [List.replicate_succ, List.replicate_succ, List.flatten_cons, List.flatten_cons]
    exact Vals.append h (Vals.rep h k)
theorem foldl_rep (its : List Value) : ∀ (k : Nat) (acc : List Value),
    List.foldl (fun x1 x2 => x1 ++ x2) acc.toArray (List.replicate k its.toArray) = (acc ++ (List.replicate k its).flatten).toArray
  | 0, acc => by simp
  | k + 1, acc => by
    have e : acc.toArray ++ its.toArray = (acc ++ its).toArray := by simp
    have e2 : (acc ++ its) ++ (List.replicate k its).flatten = acc ++ (List.replicate (k + 1) its).flatten := by
      rw [List.replicate_succ, List.flatten_cons, List.append_assoc]
    rw [← e2, ← foldl_rep its k (acc ++ its), ← e, List.replicate_succ, List.foldl_cons]

section
variable {X : Cx} {pins : List (Addr × Obj)} {σ : St} {H : Hp} {s : Shared} {l b : Addr} {xs ys zs : List V}

/-! ### the two steps: a tracked list is rewritten, a new list is laid -/
theorem Inv.lset {its its' : List Value} {n : Nat} {f : Array Value → Array Value} {t' : Nat} (I : Inv X pins σ H s) (hH : H l = some (.lst xs))
    (e : s.heap.get? l = some { cls := .type "list", data := .seq its.toArray n }) (hf : f its.toArray = its'.toArray) (hv : Vals ys its') (hz : ys.length ≤ sizeLine) :
    Inv X pins σ (upd H l (.lst ys)) { s with heap := s.heap.update l (Obj.mapSeq f), toks := t' } := by
  have q := PySem.IsL.update e f
  rw [hf] at q
  refine I.write (x := l) (e := l) (by rw [hH]; exact trivial) (.inl rfl) (fun b' u hb hu => (Heap.get?_update_other s.heap (Obj.mapSeq f) (Ne.symm hb)).trans hu) ⟨_, q⟩ ?_
  exact ⟨hz, its', _, hv, q⟩
theorem Inv.lnew {its : List Value} {t' : Nat} (I : Inv X pins σ H s) (hv : Vals ys its) (hz : ys.length ≤ sizeLine) :
    Inv X pins σ (upd H s.heap.objs.size (.lst ys)) { s with heap := s.heap.push { cls := .type "list", data := .seq its.toArray }, toks := t' } :=
  I.laid (fun _ _ q => Heap.get?_push_of_some _ q) (Nat.le_refl _) ⟨hz, its, 0, hv, Heap.get?_push_size _ rfl⟩
theorem Inv.fresh (I : Inv X pins σ H s) : H s.heap.objs.size = none := I.hok.fresh (Nat.le_refl _)
theorem Inv.lstM (I : Inv X pins σ H s) (hH : H l = some (.lst xs)) : xs.length ≤ sizeLine ∧ ∃ (its : List Value) (n : Nat), Vals xs its ∧ xs.length = its.length ∧ s.heap.get? l = some { cls := .type "list", data := .seq its.toArray n } := by
  obtain ⟨z, its, n, r, e⟩ := I.hok l _ hH
  exact ⟨z, its, n, r, r.length, e⟩

theorem notLongL {n : Nat} (h : n ≤ sizeLine) : Builtin.List.listTooLong n = false := by
  unfold Builtin.List.listTooLong
  exact decide_eq_false (by omega)
end

section
variable {X : Cx}

/-! ### methods -/
def rAppend : V → List V → Hp → VK → Prop := fun x vs H Q => ∃ l xs y, x = .ref l ∧ vs = [y] ∧ H l = some (.lst xs) ∧ xs.length < sizeLine ∧ Q .non (upd H l (.lst (xs ++ [y])))
theorem mt_append : MtM X "list.append" rAppend := by
  intro pins s σ H x vs v us Q I rx rv h
  obtain ⟨l, xs, y, rfl, rfl, hH, hz, q⟩ := h
  cases rx
  obtain ⟨u, rfl, ru⟩ := rv.one
  obtain ⟨z, its, n, r, hl, e⟩ := I.lstM hH
  refine call_meets F.slot_list_append ⟨_, e, rfl⟩ F.entry_list_append (F.args_list_append_2 _ _) (PySem.list_append l its.toArray n u (by rw [List.size_toArray]; omega)) ⟨e, ?_⟩
  refine ⟨.non, _, I.lset (its' := its ++ [u]) hH e (by simp) (r.append (.cons ru .nil)) ?_, rfl, q⟩
  rw [List.length_append, List.length_singleton]
  omega

/-! ### list + list, list += list, list * int -/
/-- a list times an int (a negative one is nothing) -/
def rRep : R2 := fun x y H Q => ∃ l k xs, x = .ref l ∧ y = .int k ∧ H l = some (.lst xs) ∧ -(2 ^ 63) ≤ k ∧ k < 2 ^ 63 ∧ xs.length * k.toNat ≤ sizeLine ∧
  ∀ p, H p = none → Q (.ref p) (upd H p (.lst (List.replicate k.toNat xs).flatten))
theorem len_rep {α : Type} (xs : List α) (k : Nat) : (List.replicate k xs).flatten.length = k * xs.length := by
  induction k with
  | zero => simp
  | succ k ih => rw [List.replicate_succ, List.flatten_cons, List.length_append, ih, Nat.succ_mul, Nat.add_comm]
theorem op_rep : OpR X (binaryOp .Mult) rRep := by
  intro pins s σ H x y v u Q I rx ry h
  obtain ⟨l, k, xs, rfl, rfl, hH, h1, h2, hz, q⟩ := h
  cases rx
  obtain ⟨t, rfl⟩ := ry
  obtain ⟨z, its, n, r, hl, e⟩ := I.lstM hH
  have hlen : its.toArray.size * k.toNat ≤ sizeLine := by rw [List.size_toArray, ← hl]; exact hz
  have hcap : ¬ its.toArray.size * k.toNat > (2 ^ 63 - 1) / 8 := by
    have : (sizeLine : Nat) ≤ (2 ^ 63 - 1) / 8 := by decide
    omega
  have hfit : ¬ (!Builtin.List.listFitsIndex k) = true := by
    rw [fitsIndex_both h1 h2]
    exact Bool.false_ne_true
  have hlong : ¬ Builtin.List.listTooLong (its.toArray.size * k.toNat) = true := by
    rw [notLongL hlen]
    exact Bool.false_ne_true
  have hnew : List.foldl (fun x1 x2 => x1 ++ x2) #[] (List.replicate (if its.toArray.isEmpty = true then 0 else k.toNat) its.toArray) = (List.replicate k.toNat its).flatten.toArray := by
    have f0 : ∀ m : Nat, List.foldl (fun x1 x2 => x1 ++ x2) #[] (List.replicate m its.toArray) = (List.replicate m its).flatten.toArray := fun m => by
      have := foldl_rep its m []
      rw [List.nil_append] at this
      exact this
    rw [f0]
    cases its with
    | nil => simp
    | cons a r' => rw [if_neg (by simp)]
  refine wpAny_binaryOp_repeat_ref (T := "list") (U := "int") (by decide) ⟨_, e, rfl⟩ (fun s' => typeIs_int s' k t) noFill_list_mul F.fills_int_mul F.slot_int_rmul repeat_list F.slot_int_index.lookup
    (call_meets F.slot_int_rmul (typeIs_int s k t) F.entry_int_rmul (F.args_int_rmul_2 _ _) (int___rmul___int_list k t l its.toArray n)
      ⟨e, rfl, ⟨_, e, rfl⟩, call_meets F.slot_list_mul ⟨_, e, rfl⟩ F.entry_list_mul (F.args_list_mul_2 _ _) (AutoListH.list___mul___list_int_3 l its.toArray n k t hfit hcap hlong) ⟨e, ?_⟩⟩)
  rw [hnew]
  exact ⟨.ref _, _, I.lnew (t' := s.toks) (r.rep k.toNat) (by rw [len_rep, Nat.mul_comm]; exact hz), rfl, q _ I.fresh⟩

/-! ### del xs[i] -/
end

/-! ### xs[a:b] = ys -/
section
variable {prog : Program} {w : World} {A : Around} {E : Value → Shared → Prop} {s : Shared}
end

section
variable {X : Cx}
end
end L2
namespace L2
open PySem PySem.Spec PyProof.Rows

/-! ### lists of pairs as tables -/
section
variable {κ : Type} [DecidableEq κ]
def valV (kvs : List (κ × V)) (k : κ) : Option V := (kvs.find? fun kv => decide (kv.1 = k)).map (·.2)
/-- in its place, or at the end -/
def putK (kvs : List (κ × V)) (k : κ) (v : V) : List (κ × V) :=
  if (kvs.any fun kv => decide (kv.1 = k)) = true then kvs.map (fun kv => if kv.1 = k then (kv.1, v) else kv) else kvs ++ [(k, v)]
theorem valV_pos {p : κ × V} {r : List (κ × V)} {k : κ} (e : p.1 = k) : valV (p :: r) k = some p.2 := by simp [valV, List.find?_cons, e]
theorem valV_neg {p : κ × V} {r : List (κ × V)} {k : κ} (e : ¬ p.1 = k) : valV (p :: r) k = valV r k := by simp [valV, List.find?_cons, e]
theorem valV_any (k : κ) : ∀ kvs : List (κ × V), (kvs.any fun kv => decide (kv.1 = k)) = (valV kvs k).isSome
  | [] => rfl
  | p :: r => by
    rw [List.any_cons]
    by_cases e : p.1 = k
    · simp only [valV_pos e, decide_eq_true e, Bool.true_or, Option.isSome_some]
    · rw [valV_neg e, decide_eq_false e, Bool.false_or]; exact valV_any k r
theorem length_putK (kvs : List (κ × V)) (k : κ) (v : V) : (putK kvs k v).length ≤ kvs.length + 1 := by
  unfold putK
  split
  · rw [List.length_map]; omega
  · rw [List.length_append, List.length_cons, List.length_nil]; omega
theorem RelO.isSome_eq {o : Option V} {u : Option Value} (r : RelO o u) : o.isSome = u.isSome := by
  cases o with
  | none => cases u with
    | none => rfl
    | some _ => exact (show False from r).elim
  | some _ => cases u with
    | none => exact (show False from r).elim
    | some _ => rfl
theorem RelO.getD {o : Option V} {u : Option Value} {d : V} {d' : Value} (r : RelO o u) (rd : RelV d d') : RelV (o.getD d) (u.getD d') := by
  cases o with
  | none => cases u with
    | none => exact rd
    | some _ => exact (show False from r).elim
  | some _ => cases u with
    | none => exact (show False from r).elim
    | some _ => exact r

/-- raw tables of the same keys -/
theorem KV.val {kvs : List (κ × V)} {vs : List (κ × Value)} (r : KV kvs vs) (k : κ) : RelO (valV kvs k) (valueAt vs k) := by
  unfold KV at r
  induction r with
  | nil => exact True.intro
  | @cons p q ps qs h t ih =>
    obtain ⟨h1, h2⟩ := h
    by_cases e : p.1 = k
    · have e' : q.1 = k := h1.symm.trans e
      have b : valueAt (q :: qs) k = some q.2 := by simp [valueAt, List.find?_cons, e']
      rw [valV_pos e, b]; exact h2
    · have e' : ¬ q.1 = k := fun z => e (h1.trans z)
      have b : valueAt (q :: qs) k = valueAt qs k := by simp [valueAt, List.find?_cons, e']
      rw [valV_neg e, b]; exact ih
theorem KV.any {kvs : List (κ × V)} {vs : List (κ × Value)} (r : KV kvs vs) (k : κ) : (kvs.any fun kv => decide (kv.1 = k)) = vs.any fun kv => decide (kv.1 = k) := by
  unfold KV at r
  induction r with
  | nil => rfl
  | cons h t ih => rw [List.any_cons, List.any_cons, ih, h.1]
theorem KV.repl {kvs : List (κ × V)} {vs : List (κ × Value)} (r : KV kvs vs) (k : κ) {y : V} {u : Value} (ry : RelV y u) :
    KV (kvs.map fun kv => if kv.1 = k then (kv.1, y) else kv) (vs.map fun kv => if kv.1 = k then (kv.1, u) else kv) := by
  unfold KV at r ⊢
  induction r with
  | nil => exact .nil
  | @cons p q ps qs h t ih =>
    rw [List.map_cons, List.map_cons]
    refine .cons ?_ ih
    obtain ⟨h1, h2⟩ := h
    by_cases e : p.1 = k
    · rw [if_pos e, if_pos (h1.symm.trans e)]; exact ⟨h1, ry⟩
    · rw [if_neg e, if_neg (fun z => e (h1.trans z))]; exact ⟨h1, h2⟩
theorem KV.put {kvs : List (κ × V)} {vs : List (κ × Value)} (r : KV kvs vs) (k : κ) {y : V} {u : Value} (ry : RelV y u) : KV (putK kvs k y) (stored vs k u) := by
  unfold putK stored
  rw [r.any k]
  by_cases e : (vs.any fun kv => decide (kv.1 = k)) = true
  · rw [if_pos e, if_pos e]; exact r.repl k ry
  · rw [if_neg e, if_neg e]; exact Paired.snoc r ⟨rfl, ry⟩
theorem KV.length {kvs : List (κ × V)} {vs : List (κ × Value)} (r : KV kvs vs) : kvs.length = vs.length := Paired.length r
end


/-! ### a tracked dict, its keys ints and texts or tuples of these -/
theorem kV_is {P : Program} {w : World} {k : Key} {u : Value} (r : RelV (kV k) u) : (mixKind P w).is k u = true := by
  cases k with
  | inl i => obtain ⟨t, e⟩ := (show ∃ t, u = Value.int i t from r); subst e; exact mixKind_int P w i t
  | inr x => obtain ⟨t, e⟩ := (show ∃ t, u = Value.str x t from r); subst e; exact mixKind_str P w x t
theorem items_are {P : Program} {w : World} : ∀ {ks : List Key} {us : List Value}, Vals (ks.map kV) us → ItemsAre (mixKind P w) ks us
  | [], _, r => by rw [List.map_nil] at r; cases r; exact .nil
  | k :: ks, _, r => by
    rw [List.map_cons] at r
    cases r with
    | cons h t => exact .cons (kV_is h) (items_are t)

/-- raw entries of a dict with tuple keys -/
abbrev KT (H : Hp) : List (List Key × V) → List (List Key × Addr × Value) → Prop := Paired fun p q => p.1 = q.1 ∧ H q.2.1 = some (.tup (p.1.map kV)) ∧ RelV p.2 q.2.2
theorem KT.val {H : Hp} {kvs : List (List Key × V)} {xs : List (List Key × Addr × Value)} (r : KT H kvs xs) (k : List Key) : RelO (valV kvs k) ((atKey xs k).map (·.2)) := by
  induction r with
  | nil => exact True.intro
  | @cons p q ps qs h t ih =>
    obtain ⟨h1, _, h2⟩ := h
    by_cases e : p.1 = k
    · have e' : q.1 = k := h1.symm.trans e
      have b : atKey (q :: qs) k = some q.2 := by simp [atKey, List.find?_cons, e']
      rw [valV_pos e, b]; exact h2
    · have e' : ¬ q.1 = k := fun z => e (h1.trans z)
      have b : atKey (q :: qs) k = atKey qs k := by simp [atKey, List.find?_cons, e']
      rw [valV_neg e, b]; exact ih
theorem KT.repl {H : Hp} {kvs : List (List Key × V)} {xs : List (List Key × Addr × Value)} (r : KT H kvs xs) (k : List Key) {y : V} {u : Value} (ry : RelV y u) :
    KT H (kvs.map fun kv => if kv.1 = k then (kv.1, y) else kv) (xs.map (putAt k u)) := by
  induction r with
  | nil => exact .nil
  | @cons p q ps qs h t ih =>
    rw [List.map_cons, List.map_cons]
    refine .cons ?_ ih
    obtain ⟨h1, h2, h3⟩ := h
    unfold putAt
    by_cases e : p.1 = k
    · rw [if_pos e, if_pos (h1.symm.trans e)]; exact ⟨h1, h2, ry⟩
    · rw [if_neg e, if_neg (fun z => e (h1.trans z))]; exact ⟨h1, h2, h3⟩
theorem KT.put {H : Hp} {kvs : List (List Key × V)} {xs : List (List Key × Addr × Value)} (r : KT H kvs xs) (k : List Key) {b : Addr} {y : V} {u : Value} (hb : H b = some (.tup (k.map kV))) (ry : RelV y u) :
    KT H (putK kvs k y) (storedH xs k b u) := by
  have e : (kvs.any fun kv => decide (kv.1 = k)) = (atKey xs k).isSome := by
    rw [valV_any, (r.val k).isSome_eq, Option.isSome_map]
  unfold putK storedH
  rw [e]
  by_cases q : (atKey xs k).isSome = true
  · rw [if_pos q, if_pos q]; exact r.repl k ry
  · rw [if_neg q, if_neg q]; exact Paired.snoc r ⟨rfl, hb, ry⟩
theorem KT.keeps {H H' : Hp} {kvs : List (List Key × V)} {xs : List (List Key × Addr × Value)} (r : KT H kvs xs) (ht : ∀ b ys, H b = some (.tup ys) → H' b = some (.tup ys)) : KT H' kvs xs :=
  Paired.mapP r fun _ _ z => ⟨z.1, ht _ _ z.2.1, z.2.2⟩

section
variable {P : Program} {w : World} {H : Hp} {h : Heap} {a : Addr}
theorem rd_of {u : HO} (ok : HOk P w H h) (e : Rd H a u) : ObjOk P w H h a u := e.ok ok
theorem dk_rd {kvs : List (Key × V)} (ok : HOk P w H h) (e : Rd H a (.dK kvs)) : kvs.length ≤ sizeLine ∧ (a == sysModules) = false ∧ ∃ vs, KV kvs vs ∧ h.DictOf (mixKind P w) a vs :=
  show ObjOk P w H h a (.dK kvs) from rd_of ok e
theorem dk_of {kvs : List (Key × V)} (ok : HOk P w H h) (e : H a = some (.dK kvs)) : kvs.length ≤ sizeLine ∧ (a == sysModules) = false ∧ ∃ vs, KV kvs vs ∧ h.DictOf (mixKind P w) a vs := dk_rd ok (.inl e)
/-- a tracked tuple of ints and texts is a key -/
theorem key_of {ks : List Key} (ok : HOk P w H h) (e : H a = some (.tup (ks.map kV))) : (tupleKind (mixKind P w)).is h ks a := by
  obtain ⟨_, its, r, o, h1, h2, n, h3, _⟩ := (show ObjOk P w H h a (.tup (ks.map kV)) from ok a _ e)
  exact ⟨o, its.toArray, n, h1, h2, h3, by simpa using items_are r⟩
theorem dt_rd {kvs : List (List Key × V)} (ok : HOk P w H h) (e : Rd H a (.dT kvs)) : kvs.length ≤ sizeLine ∧ (a == sysModules) = false ∧
    ∃ xs, KT H kvs xs ∧ h.DictOfH (tupleKind (mixKind P w)) a xs := by
  obtain ⟨z, y, xs, r, o, es, ep, h1, h2, h3, h4, h5⟩ := (show ObjOk P w H h a (.dT kvs) from rd_of ok e)
  refine ⟨z, y, xs, r, o, es, ep, h1, h2, h3, h4, fun x hx => ?_, h5⟩
  have all : ∀ {l : List (List Key × V)} {m : List (List Key × Addr × Value)}, KT H l m → ∀ x ∈ m, (tupleKind (mixKind P w)).is h x.1 x.2.1 := by
    intro l m q
    induction q with
    | nil => intro x hx; exact nomatch hx
    | @cons p q ps qs hq t ih =>
      intro x hx
      rcases List.mem_cons.mp hx with e | hx
      · subst e
        exact key_of ok (by rw [← hq.1]; exact hq.2.1)
      · exact ih x hx
  exact all r x hx
theorem dt_of {kvs : List (List Key × V)} (ok : HOk P w H h) (e : H a = some (.dT kvs)) : kvs.length ≤ sizeLine ∧ (a == sysModules) = false ∧
    ∃ xs, KT H kvs xs ∧ h.DictOfH (tupleKind (mixKind P w)) a xs := dt_rd ok (.inl e)
end

/-- what the dict at a holds at the key y -/
def DGet (H : Hp) (a : Addr) (y : V) (r : Option V) : Prop :=
  (∃ kvs k, Rd H a (.dK kvs) ∧ y = kV k ∧ r = valV kvs k) ∨ ∃ kvs k b, Rd H a (.dT kvs) ∧ y = .ref b ∧ H b = some (.tup (k.map kV)) ∧ r = valV kvs k
/-- the heap behind a[y] = v -/
def DPut (H : Hp) (a : Addr) (y v : V) (H' : Hp) : Prop :=
  (∃ kvs k, H a = some (.dK kvs) ∧ y = kV k ∧ kvs.length < sizeLine ∧ H' = upd H a (.dK (putK kvs k v))) ∨
  ∃ kvs k b, H a = some (.dT kvs) ∧ y = .ref b ∧ H b = some (.tup (k.map kV)) ∧ kvs.length < sizeLine ∧ H' = upd H a (.dT (putK kvs k v))
theorem DGet.k {H : Hp} {a : Addr} {kvs : List (Key × V)} {k : Key} (e : H a = some (.dK kvs)) : DGet H a (kV k) (valV kvs k) := .inl ⟨kvs, k, .inl e, rfl, rfl⟩
theorem DGet.t {H : Hp} {a b : Addr} {kvs : List (List Key × V)} {k : List Key} (e : H a = some (.dT kvs)) (eb : H b = some (.tup (k.map kV))) : DGet H a (.ref b) (valV kvs k) := .inr ⟨kvs, k, b, .inl e, rfl, eb, rfl⟩
theorem DPut.k {H : Hp} {a : Addr} {kvs : List (Key × V)} {k : Key} {v : V} (e : H a = some (.dK kvs)) (hl : kvs.length < sizeLine) : DPut H a (kV k) v (upd H a (.dK (putK kvs k v))) := .inl ⟨kvs, k, e, rfl, hl, rfl⟩
theorem DPut.t {H : Hp} {a b : Addr} {kvs : List (List Key × V)} {k : List Key} {v : V} (e : H a = some (.dT kvs)) (eb : H b = some (.tup (k.map kV))) (hl : kvs.length < sizeLine) :
    DPut H a (.ref b) v (upd H a (.dT (putK kvs k v))) := .inr ⟨kvs, k, b, e, rfl, eb, hl, rfl⟩


section
variable {X : Cx} {pins : List (Addr × Obj)} {σ : St} {H : Hp} {s : Shared} {a : Addr} {y v : V} {u r : Value} {o : Option V} {A : Around} {E : Value → Shared → Prop}

theorem Inv.big (I : Inv X pins σ H s) : sysModules < s.heap.objs.size := by
  have h : mainGlobals < s.heap.objs.size := (I.mod.glob.keeps I.bk).lt
  exact Nat.lt_trans (by decide) h

/-- d[y], there -/
theorem d_getItem {Q : Value → Shared → Prop} (hu : A.units + 1 < cLine) (I : Inv X pins σ H s) (g : DGet H a y (some v)) (ry : RelV y u) (h : ∀ w' s', Inv X pins σ H s' → RelV v w' → Q w' s') :
    wpAny (model X.prog X.w) A (getItem (.ref a) u) Q E s := by
  rcases g with ⟨kvs, k, e, ey, l⟩ | ⟨kvs, k, b, e, ey, eb, l⟩
  · subst ey
    obtain ⟨z, hd, vs, rel, dd⟩ := dk_rd I.hok e
    obtain ⟨w', hw, rw'⟩ := RelO.some_of (v := v) (o := valueAt vs k) (by rw [l]; exact rel.val k)
    exact wpAny_getItem_of (kV_is ry) dd.mapOf hw (h w' _ (I.tok _) rw')
  · subst ey
    cases (show u = Value.ref b from ry)
    obtain ⟨z, hd, xs, rel, dd⟩ := dt_rd I.hok e
    obtain ⟨w', hw, rw'⟩ := RelO.some_of (v := v) (o := (atKey xs k).map (·.2)) (by rw [l]; exact rel.val k)
    obtain ⟨p, hp, hp2⟩ := Option.map_eq_some_iff.mp hw
    refine wpAny_getItem_heap (tupleKind_room_in1 hu) (key_of I.hok eb) dd hp ?_
    rw [hp2]
    exact h w' _ (I.tok _) rw'
/-- a dict's object is replaced -/
theorem d_write {h' : Heap} {t' : Nat} {ob : HO} (I : Inv X pins σ H s) (mu : Mut (H a)) (hs : Heap.SameBut a s.heap h') (he : ∃ q, h'.get? a = some q) (new : ObjOk X.prog X.w (upd H a ob) h' a ob) :
    Inv X pins σ (upd H a ob) { s with heap := h', toks := t' } :=
  I.write (x := a) (e := a) mu (.inl rfl) (fun b q hb z => (hs.2 b hb).trans z) he new
theorem dk_new {P : Program} {w : World} {H' : Hp} {h' : Heap} {kvs : List (Key × V)} {vs : List (Key × Value)} (z : kvs.length ≤ sizeLine) (hd : (a == sysModules) = false) (rel : KV kvs vs) (dd : h'.DictOf (mixKind P w) a vs) :
    ObjOk P w H' h' a (.dK kvs) := ⟨z, hd, vs, rel, dd⟩
/-- d[y] = v -/
theorem d_setItem {H' : Hp} {Q : Unit → Shared → Prop} (hu : A.units + 1 < cLine) (I : Inv X pins σ H s) (g : DPut H a y v H') (ry : RelV y u) (rv : RelV v r) (h : ∀ s', Inv X pins σ H' s' → Q () s') :
    wpAny (model X.prog X.w) A (setItem (.ref a) u r) Q E s := by
  rcases g with ⟨kvs, k, e, ey, l, eH⟩ | ⟨kvs, k, b, e, ey, eb, l, eH⟩
  · subst ey eH
    obtain ⟨z, hd, vs, rel, dd⟩ := dk_of I.hok e
    have hz : vs.length ≤ sizeLine := by rw [← rel.length]; exact z
    have hl : (putK kvs k v).length ≤ sizeLine := by have := length_putK kvs k v; omega
    refine wpAny_setItem_pairs (hsz := hz) (kV_is ry) dd fun h' dd' hs => h _ ?_
    have he : ∃ q, h'.get? a = some q := let ⟨q, _, _, hq, _⟩ := dd'; ⟨q, hq⟩
    exact d_write I (by rw [e]; exact True.intro) hs he (dk_new hl hd (rel.put k rv) dd')
  · subst ey eH
    cases (show u = Value.ref b from ry)
    obtain ⟨z, hd, xs, rel, dd⟩ := dt_of I.hok e
    have hz : xs.length ≤ sizeLine := by rw [← Paired.length rel]; exact z
    have hl : (putK kvs k v).length ≤ sizeLine := by have := length_putK kvs k v; omega
    refine wpAny_setItem_heap (hsz := hz) (tupleKind_room_in1 hu) (key_of I.hok eb) dd fun h' dd' hs => h _ ?_
    obtain ⟨q, es, ep, hq, h2, h3, h4, _, h5⟩ := dd'
    refine d_write I (by rw [e]; exact True.intro) hs ⟨q, hq⟩ ⟨hl, hd, _, (rel.put k eb rv).keeps fun c ys ec => ?_, q, es, ep, hq, h2, h3, h4, h5⟩
    rw [upd_ne (ne_of ec e (fun z => nomatch z))]
    exact ec
end

section
variable {X : Cx} {pins : List (Addr × Obj)} {σ : St} {H : Hp} {s : Shared} {a : Addr} {kvs : List (Key × V)} {k : Key} {u : Value} {A : Around} {E : Value → Shared → Prop}
end


/-! ### readings and rules -/
/-- the element of a subscription, not a slice -/
def NoSl (i : Expr) : Prop := ∀ ov iv, subscripted i false ov iv = operate [ov, iv] (getItem ov iv)
theorem subD_of {prog : Program} {w : World} {A : Around} {E : Value → Shared → Prop} {s : Shared} {env : Env} {value slice : Expr} {pos : Pos} {T id : String} {Q : Value → Shared → Prop}
    (hl : typeLookup (.type T) "__getitem__" = pure (some (.builtin id))) (hs : NoSl slice)
    (h : wpAny (model prog w) A (eval value env) (fun o s₁ => wpAny (model prog w) A (eval slice env) (fun i s₂ => s₂.TypeIs o T ∧ wpAny (model prog w) A (getItem o i) Q E s₂) E s₁) E s) :
    wpAny (model prog w) A (eval (.Subscript value slice pos) env) Q E s := by
  refine Subscript_ (wpAny_mono h (fun o s₁ h₁ => wpAny_mono h₁ (fun i s₂ h₂ => ?_) fun _ _ x => x) fun _ _ x => x)
  obtain ⟨hT, h₂⟩ := h₂
  unfold subscriptTail
  refine wpAny_bind ?_
  rw [getitemInPython_of_ne hT.not_modules]
  refine wpAny_bind (wpAny_specialOf hT hl ?_)
  have fin : wpAny (model prog w) A (subscripted slice false o i) (fun r s₃ => wpAny (model prog w) A (letTemporaryGo value o r >>= fun _ => pure r) Q E s₃) E s₂ := by
    rw [hs o i]
    exact wpAny_operating (wpAny_mono h₂ (fun r s₃ h₃ => wpAny_bind (wpAny_letTemporaryGo (wpAny_pure h₃))) fun _ _ x => x)
  first
    | exact wpAny_pure (wpAny_bind fin)
    | exact wpAny_bind (wpAny_pure (wpAny_bind fin))
    | exact wpAny_bind fin

theorem dict_typeIs {X : Cx} {pins : List (Addr × Obj)} {σ : St} {H : Hp} {s : Shared} {a : Addr} {y : V} {o : Option V} (I : Inv X pins σ H s) (g : DGet H a y o) : s.TypeIs (.ref a) "dict" := by
  rcases g with ⟨kvs, k, e, _, _⟩ | ⟨kvs, k, b, e, _, _, _⟩
  · obtain ⟨_, _, vs, _, dd⟩ := dk_rd I.hok e
    exact dd.typeIs
  · obtain ⟨_, _, xs, _, dd⟩ := dt_rd I.hok e
    exact dd.typeIs
/-- d[y] -/
def tDGet (td ty : TE) : TE := fun σ H Q => td σ H fun x H1 => ty σ H1 fun y H2 => ∃ a v, x = .ref a ∧ DGet H2 a y (some v) ∧ Q v H2
/-- d[y] = v -/
def sDPut (td ty tv : TE) : TS := fun D σ H => tv σ H fun v H1 => td σ H1 fun x H2 => ty σ H2 fun y H3 => ∃ a H4, x = .ref a ∧ DPut H3 a y v H4 ∧ D.nx σ H4
section
variable {X : Cx} {o i e value : Expr} {pos pos' tpos : Pos} {td ty tv : TE}
theorem pe_dget (hu : X.A.units + 1 < cLine) (ho : PE X o td) (hi : PE X i ty) (hs : NoSl i) : PE X (.Subscript o i pos) (tDGet td ty) := by
  intro pins s σ H Q I h
  refine subD_of PySem.F.slot_dict_getitem.lookup hs (thn (ho pins s σ H _ I h) fun u s1 ⟨x, H1, I1, rx, q1⟩ => thn (hi pins s1 σ H1 _ I1 q1) fun iv s2 ⟨y, H2, I2, ry, a, v, ex, g, q2⟩ => ?_)
  subst ex
  obtain rfl : u = Value.ref a := rx
  exact ⟨dict_typeIs I2 g, d_getItem hu I2 g ry fun w' s3 I3 rw' => ⟨v, H2, I3, rw', q2⟩⟩
theorem ps_dput (hu : X.A.units + 1 < cLine) (ho : PE X o td) (hi : PE X i ty) (hv : PE X value tv) (hs : swapsWith value (some (.Subscript o i pos')) pos.line X.env = pure false) :
    PS X (.Assign [.Subscript o i pos'] value pos) (sDPut td ty tv) := by
  intro pins s σ H D I h
  refine wpAny_Assign_Subscript (thn (hv pins s σ H _ I h) fun r s1 ⟨v, H1, I1, rv, q1⟩ => thn (ho pins s1 σ H1 _ I1 q1) fun u s2 ⟨x, H2, I2, rx, q2⟩ => thn (hi pins s2 σ H2 _ I2 q2) fun iv s3 ⟨y, H3, I3, ry, a, H4, ex, g, q3⟩ => ?_) hs
  subst ex
  obtain rfl : u = Value.ref a := rx
  exact d_setItem hu I3 g ry rv fun s4 I4 => ⟨σ, H4, I4, q3⟩
end


/-! ### displays -/
theorem dk_empty {P : Program} {w : World} {H : Hp} (h : Heap) (hb : sysModules < h.objs.size) : ObjOk P w H (h.push { cls := .type "dict", data := .dict #[] }) h.objs.size (.dK []) :=
  ⟨Nat.zero_le _, beq_eq_false_iff_ne.mpr (Ne.symm (Nat.ne_of_lt hb)), [], .nil, Heap.DictOf.new h⟩
theorem dt_empty {P : Program} {w : World} {H : Hp} (h : Heap) (hb : sysModules < h.objs.size) : ObjOk P w H (h.push { cls := .type "dict", data := .dict #[] }) h.objs.size (.dT []) :=
  ⟨Nat.zero_le _, beq_eq_false_iff_ne.mpr (Ne.symm (Nat.ne_of_lt hb)), [], .nil, _, #[], 0, Heap.get?_push_size _ rfl, ⟨rfl, rfl, rfl⟩, rfl, rfl, List.nodup_nil⟩
def tDNewT : TE := fun _ H Q => ∀ p, H p = none → Q (.ref p) (upd H p (.dT []))
section
variable {X : Cx} {pos : Pos}
theorem pe_dnewT : PE X (.Dict [] [] pos) tDNewT := fun pins s σ H Q I h =>
  wpAny_Dict_empty ⟨.ref s.heap.objs.size, _, I.laid (a := s.heap.objs.size) (o := .dT []) (t' := s.toks) (fun _ _ q => Heap.get?_push_of_some _ q) (Nat.le_refl _) (dt_empty s.heap I.big), rfl, h _ (I.hok.fresh (Nat.le_refl _))⟩
end

/-- the pairs of a display, from the left -/
def tPairs : List (TE × TE) → St → Hp → (List (V × V) → Hp → Prop) → Prop
  | [], _, H, Q => Q [] H
  | (tk, tv) :: r, σ, H, Q => tk σ H fun x H1 => tv σ H1 fun y H2 => tPairs r σ H2 fun ps H3 => Q ((x, y) :: ps) H3
abbrev VV : List (V × V) → List (Value × Value) → Prop := Paired fun p q => RelV p.1 q.1 ∧ RelV p.2 q.2
def PPs (X : Cx) (pos : Pos) (keys : List (Option Expr)) (values : List Expr) (trs : List (TE × TE)) : Prop :=
  ∀ (pins : List (Addr × Obj)) (s : Shared) (σ : St) (H : Hp) (Q : List (V × V) → Hp → Prop), Inv X pins σ H s → tPairs trs σ H Q →
    wpAny (model X.prog X.w) X.A (evalPairs (pairTrees keys values X.env pos)) (fun vs s' => ∃ ps H', Inv X pins σ H' s' ∧ VV ps vs ∧ Q ps H') X.xe s
theorem pps_nil {X : Cx} {pos : Pos} : PPs X pos [] [] [] := fun pins s σ H Q I h => pairTrees_nil_walk ⟨[], H, I, .nil, h⟩
theorem pps_cons {X : Cx} {pos : Pos} {k v : Expr} {ks : List (Option Expr)} {vs : List Expr} {tk tv : TE} {trs : List (TE × TE)} (hk : PE X k tk) (hv : PE X v tv) (hr : PPs X pos ks vs trs) :
    PPs X pos (some k :: ks) (v :: vs) ((tk, tv) :: trs) := fun pins s σ H Q I h =>
  pairTrees_cons_walk (thn (hk pins s σ H _ I h) fun u s1 ⟨x, H1, I1, rx, q1⟩ => thn (hv pins s1 σ H1 _ I1 q1) fun w2 s2 ⟨y, H2, I2, ry, q2⟩ =>
    thn (hr pins s2 σ H2 _ I2 q2) fun ws s3 ⟨ps, H3, I3, rel, q3⟩ => ⟨(x, y) :: ps, H3, I3, .cons ⟨rx, ry⟩ rel, q3⟩)

def mergeK (kvs more : List (Key × V)) : List (Key × V) := more.foldl (fun acc kv => putK acc kv.1 kv.2) kvs
theorem KV.merge : ∀ {more : List (Key × V)} {rs : List (Key × Value)} {kvs : List (Key × V)} {vs : List (Key × Value)}, KV more rs → KV kvs vs → KV (mergeK kvs more) (merged vs rs) := by
  intro more rs kvs vs r
  unfold KV at r
  induction r generalizing kvs vs with
  | nil => intro q; exact q
  | @cons p q ps qs h t ih =>
    intro r0
    have e : KV (putK kvs p.1 p.2) (stored vs q.1 q.2) := by
      have := r0.put p.1 h.2
      rw [← h.1]; exact this
    exact ih e
theorem length_mergeK : ∀ (more kvs : List (Key × V)), (mergeK kvs more).length ≤ kvs.length + more.length
  | [], kvs => by show kvs.length ≤ kvs.length + 0; omega
  | p :: r, kvs => by
    have h1 := length_mergeK r (putK kvs p.1 p.2)
    have h2 := length_putK kvs p.1 p.2
    show (mergeK (putK kvs p.1 p.2) r).length ≤ _
    rw [List.length_cons]; omega
theorem carries_of {P : Program} {w : World} : ∀ {kvs : List (Key × V)} {ws : List (Value × Value)}, VV (kvs.map fun kv => (kV kv.1, kv.2)) ws → ∃ rs, Carries (mixKind P w) ws rs ∧ KV kvs rs
  | [], _, r => by rw [List.map_nil] at r; cases r; exact ⟨[], True.intro, .nil⟩
  | p :: kvs, _, r => by
    rw [List.map_cons] at r
    cases r with
    | @cons a b as bs h t =>
      obtain ⟨rs, c, q⟩ := carries_of (P := P) (w := w) t
      obtain ⟨b1, b2⟩ := b
      exact ⟨(p.1, b2) :: rs, ⟨kV_is h.1, rfl, c⟩, .cons ⟨rfl, h.2⟩ q⟩
/-- {k: v, ..} with keys ints and texts; the new dict stands empty while the pairs are made -/
def tDisp (trs : List (TE × TE)) : TE := fun σ H Q => ∀ p, H p = none → tPairs trs σ (upd H p (.dK [])) fun ps H2 => H2 p = some (.dK []) ∧ ∃ kvs : List (Key × V), ps = kvs.map (fun kv => (kV kv.1, kv.2)) ∧ kvs.length ≤ 15 ∧ Q (.ref p) (upd H2 p (.dK (mergeK [] kvs)))
theorem pe_disp {X : Cx} {pos : Pos} {keys : List (Option Expr)} {values : List Expr} {trs : List (TE × TE)} (h : PPs X pos keys values trs) (hall : keys.all (·.isSome) = true) (hl : keys.length = values.length) (h0 : keys ≠ [])
    (h15 : keys.length ≤ 15) : PE X (.Dict keys values pos) (tDisp trs) := by
  intro pins s σ H Q I q
  have hn := I.hok.fresh (Nat.le_refl s.heap.objs.size)
  have I1 := I.laid (a := s.heap.objs.size) (o := .dK []) (h' := s.heap.push { cls := .type "dict", data := .dict #[] }) (t' := s.toks) (fun _ _ q => Heap.get?_push_of_some _ q) (Nat.le_refl _) (dk_empty s.heap I.big)
  refine wpAny_Dict_walk (knd := mixKind X.prog X.w) hall hl h0 h15 (thn (h pins _ σ _ _ I1 (q _ hn)) fun ws s2 ⟨ps, H2, I2, rel, e, kvs, ep, lk, q2⟩ => ?_)
  subst ep
  obtain ⟨rs, c, rk⟩ := carries_of (P := X.prog) (w := X.w) rel
  obtain ⟨z, hd, vs0, r0, dd⟩ := dk_of I2.hok e
  cases r0
  refine ⟨rs, c, dd, fun h' dd' hs => ⟨.ref s.heap.objs.size, _, ?_, rfl, q2⟩⟩
  have hz : (mergeK [] kvs).length ≤ sizeLine := by
    have h1 := length_mergeK kvs []
    rw [List.length_nil] at h1
    rw [sizeLine_eq]; omega
  have he : ∃ q, h'.get? s.heap.objs.size = some q := let ⟨q, _, _, hq, _⟩ := dd'; ⟨q, hq⟩
  exact d_write I2 (by rw [e]; exact True.intro) hs he (dk_new hz hd (rk.merge .nil) dd')


/-! ### methods -/
structure M2 (X : Cx) (o : Expr) (m : Str) (apos : Pos) (e f : Expr) (cpos : Pos) : Prop where
  base : attributeBase o m X.env (eval o X.env) = eval o X.env
  few : ((backTo cpos (starEach [e, f] X.env)).all (fun x => !x.1) && (backToKw cpos (keywordEach [] X.env)).all (fun x => x.1.isSome)
    && decide (([e, f] : List Expr).length + ([] : List Keyword).length + (if ([] : List Keyword).isEmpty then 0 else 1) < 30)) = true
  line : (apos.endLine == cpos.line) = true
  trees : backTo cpos (starEach [e, f] X.env) = [(false, eval e X.env), (false, eval f X.env)]

/-- a is a dict, whatever its keys -/
def IsD (H : Hp) (a : Addr) : Prop := (∃ kvs, Rd H a (.dK kvs)) ∨ ∃ kvs, Rd H a (.dT kvs)
theorem isD_at {X : Cx} {pins : List (Addr × Obj)} {σ : St} {H : Hp} {s : Shared} {a : Addr} (I : Inv X pins σ H s) (d : IsD H a) :
    s.TypeIs (.ref a) "dict" ∧ (∀ b, Value.ref a = .ref b → ∃ ob, s.heap.get? b = some ob ∧ ob.dict = none) ∧ (a == sysModules) = false := by
  rcases d with ⟨kvs, e⟩ | ⟨kvs, e⟩
  · obtain ⟨_, hd, vs, _, dd⟩ := dk_rd I.hok e
    refine ⟨dd.typeIs, fun b q => ?_, hd⟩
    cases q
    obtain ⟨ob, _, _, h1, h2, _⟩ := dd
    exact ⟨ob, h1, h2.2.1⟩
  · obtain ⟨_, hd, xs, _, dd⟩ := dt_rd I.hok e
    refine ⟨dd.typeIs, fun b q => ?_, hd⟩
    cases q
    obtain ⟨ob, _, _, h1, h2, _⟩ := dd
    exact ⟨ob, h1, h2.2.1⟩

section
variable {X : Cx} {pins : List (Addr × Obj)} {σ : St} {H : Hp} {s : Shared} {a : Addr} {y d : V} {u r : Value} {o : Option V} {A : Around} {E : Value → Shared → Prop}
/-- d.get(y, x) -/
theorem d_get2 {Q : Value → Shared → Prop} (hu : A.units + 1 < cLine) (I : Inv X pins σ H s) (g : DGet H a y o) (ry : RelV y u) (rd : RelV d r) (h : ∀ w' s', Inv X pins σ H s' → RelV (o.getD d) w' → Q w' s') :
    wpAny (model X.prog X.w) A (call (.builtin "dict.get") [.ref a, u, r]) Q E s := by
  rcases g with ⟨kvs, k, e, ey, l⟩ | ⟨kvs, k, b, e, ey, eb, l⟩
  · subst ey
    obtain ⟨z, hd, vs, rel, dd⟩ := dk_rd I.hok e
    refine call_meetsIn PySem.F.slot_dict_get dd.typeIs PySem.F.entry_dict_get (PySem.F.args_dict_get_3 _ _ _) (meets_dict_get_default (mixKind X.prog X.w) a (kV_is ry) hd r) ⟨_, dd.mapOf, h _ _ (I.tok _) ?_⟩
    rw [l]
    exact (rel.val k).getD rd
  · subst ey
    cases (show u = Value.ref b from ry)
    obtain ⟨z, hd, xs, rel, dd⟩ := dt_rd I.hok e
    refine call_meetsIn PySem.F.slot_dict_get dd.typeIs PySem.F.entry_dict_get (PySem.F.args_dict_get_3 _ _ _) (meetsH_dict_get_default (tupleKind (mixKind X.prog X.w)) a b hd r) ⟨tupleKind_room_in1 hu, k, xs, key_of I.hok eb, dd, h _ _ (I.tok _) ?_⟩
    rw [l]
    exact (rel.val k).getD rd
end

def tDGet2 (td ty tx : TE) : TE := fun σ H Q => td σ H fun x H1 => ∃ a, x = .ref a ∧ IsD H1 a ∧ ty σ H1 fun y H2 => tx σ H2 fun z H3 => ∃ o, DGet H3 a y o ∧ Q (o.getD z) H3
section
variable {X : Cx} {o e f : Expr} {apos cpos : Pos} {td ty tx : TE}
theorem pe_dget2 (hu : X.A.units + 1 < cLine) (ho : PE X o td) (he : PE X e ty) (hf : PE X f tx) (m : M2 X o "get" apos e f cpos) : PE X (.Call (.Attribute o "get" apos) [e, f] [] cpos) (tDGet2 td ty tx) := by
  intro pins s σ H Q I h
  refine wpAny_Call_method m.base m.few m.line PySem.F.plainAttrs_dict PySem.F.slot_dict_get PySem.F.type_dict_get (thn (ho pins s σ H _ I h) fun u s1 ⟨x, H1, I1, rx, a, ex, d, q1⟩ => ?_)
  subst ex
  obtain rfl : u = Value.ref a := rx
  obtain ⟨t1, t2, _⟩ := isD_at I1 d
  refine ⟨t1, t2, ?_⟩
  rw [m.trees]
  refine Calls.callWith_builtin rfl (Calls.evalArgs_plain (Calls.spliced_cons (thn (he pins s1 σ H1 _ I1 q1) fun iv s2 ⟨y, H2, I2, ry, q2⟩ =>
    Calls.spliced_cons (thn (hf pins s2 σ H2 _ I2 q2) fun fv s3 ⟨z, H3, I3, rz, ov, g, q3⟩ => Calls.spliced_nil ?_))))
  exact d_get2 hu I3 g ry rz fun w' s4 I4 rw' => ⟨_, H3, I4, rw', q3⟩
end

/-! ### dict(d): a copy -/
section
variable {X : Cx} {pins : List (Addr × Obj)} {σ : St} {H : Hp} {s : Shared} {a : Addr} {kvs : List (Key × V)} {A : Around} {E : Value → Shared → Prop}
end


section
variable {X : Cx} {pins : List (Addr × Obj)} {σ : St} {H : Hp} {s : Shared} {a : Addr} {y : V} {u : Value} {A : Around} {E : Value → Shared → Prop}
end
end L2

namespace Att
open PySem PySem.W PySem.Calls PyProof.Rows

/-! ### the script -/
theorem ints_of_wellAll {P : Params} {h : Heap} : ∀ (ns : List Int) (vs : List Value), WellAll P h vs (ns.map WData.int) → IntsAre vs ns := by
  intro ns
  induction ns with
  | nil =>
    intro vs w
    rw [List.map_nil] at w
    cases w
    exact .nil
  | cons n ns ih =>
    intro vs w
    rw [List.map_cons] at w
    cases w with
    | cons a b =>
      cases a
      exact .cons _ _ (ih _ b)

theorem script_of {l : OpenLaw} {n : Nat} (hn : l.most = some n) {P : Params} {h : Heap} {args : List WData} {vals : List Value}
    (hpre : l.row.toRowW.claim.pre args = true) (hwl : WellAll P h vals args) :
    ∃ a vs ns, vals = [Value.ref a] ∧ args = [WData.list (ns.map WData.int)] ∧ h.get? a = some { cls := .type "list", data := .seq vs.toArray } ∧ IntsAre vs ns ∧ ns.length ≤ n := by
  have hsh : WShape.hasAll [] args [.list .int] = true := (pre_splitW hpre).1
  have hc : l.pre.holds [] { args := args } = true := (pre_splitW hpre).2
  obtain ⟨d, r, rfl, h1, h2⟩ := hasAllW_cons hsh
  obtain rfl := hasAllW_nil h2
  obtain ⟨xs, rfl, h3⟩ := hasW_list h1
  obtain ⟨ns, rfl⟩ := items_int h3
  have hlen : ns.length ≤ n := by
    unfold OpenLaw.pre at hc
    have h4 : (WTm.not (.lt (.lit (.int (n : Int))) (.len (.arg 0)))).holds [] { args := [.list (ns.map .int)] } = true := by
      have h4 := (holds_andW hc).1
      rw [hn] at h4
      exact h4
    have h5 := condW_of h4 (w_not (w_lt w_lit (w_len_list (w_arg rfl))))
    rw [List.length_map] at h5
    refine Nat.le_of_not_lt fun q => ?_
    have q' : (n : Int) < ((ns.length : Nat) : Int) := by omega
    first
      | (rw [decide_eq_true q'] at h5; exact absurd h5 (by decide))
      | (simp at h5; omega)
  cases hwl with
  | cons w1 w2 =>
    cases w2
    cases w1 with
    | list ho hall => exact ⟨_, _, ns, rfl, rfl, ho, ints_of_wellAll ns _ hall, hlen⟩

theorem post_true (l : OpenLaw) (args : List WData) : l.row.toRowW.claim.post args (.bool true) args = true :=
  postW_of (r := l.row.toRowW) (X := (true == true))
    (show WShape.has [] (.bool true) .bool = true by first | rfl | decide | simp [WShape.has, WShape.arms, WShape.armsAll])
    (show (WTm.eq .res (.lit (.bool true))).value [] { args := args, res := some (.bool true), after := args } = some (.bool (true == true)) from w_eq_bool (w_res rfl) w_lit) rfl

/-! ### the attachment: holds_open's last premise (the goal 'hc' behind k_head) from a wpAny of the law's body -/
/-- the same from a codeAny of the CALL (for a layer whose function contracts speak of calls) -/
theorem attach_call {l : OpenLaw} {n : Nat} {q : Program} {loose : List Str} {XP : (Str → Option Value) → Heap → Prop} {YP : World → Heap → Prop} {d : DefRec}
    (hn : l.most = some n) (hdf : d.params.defaults = [])
    (call : ∀ (w : World) (s₀ s₁ : Shared) (mg mb : Str → Option Value) (fa : Addr) (o : Obj) (pm cd doc : Value) (a : Addr) (vs : List Value) (ns : List Int),
      Ground q loose [] XP w s₀ mg mb s₁.heap → YP w s₁.heap →
      s₁.heap.get? fa = some o → o.data = .func (docDef d.name d.params d.body d.scope pm cd doc) → s₁.heap.CodeRec cd d.name → mg d.name = some (.ref fa) →
      s₁.heap.get? a = some { cls := .type "list", data := .seq vs.toArray } → IntsAre vs ns → ns.length ≤ n → s₁.gens = #[] →
      codeAny (model l.prog w) callerA (.call (.ref fa) ⟨[.ref a], []⟩) (fun r s' => r = .ok (.ret (.bool true)) ∧ OldK s₁.heap s'.heap ∧ s'.os = s₁.os ∧ AllBare s'.gens) s₁) :
    WalkO q loose XP YP l.row.toRowW d [] (fun f vs => PySem.call f vs) := by
  intro w s₀ s₁ mg mb G Y fa o pm cd doc dV kV ho hd hcd hD hmg hg args vals as hpre hlay hrd hwl hlo
  obtain rfl : dV = .none := Dflts.none hD hdf
  obtain rfl : kV = .none := Dflts.noKw hD
  obtain ⟨a, vs, ns, rfl, rfl, hobj, hints, hlen⟩ := script_of hn hpre hwl
  refine enter_call (codeAny_mono (call w s₀ s₁ mg mb fa o pm cd doc a vs ns G Y ho (fd_plain hd) hcd hmg hobj hints hlen hg) fun r s' hq => ?_)
  obtain ⟨rfl, h2, h3, h4⟩ := hq
  exact ⟨.inl ⟨.bool true, .bool true, [], rfl, fun _ => rfl, .bool true, post_true l _, fun _ => ⟨List.Pairwise.nil, fun _ hm => (nomatch hm)⟩⟩, h2, h3, h4⟩

/-! ### rules over ANY heap (no ledger) from facts about the written part K: the library's own take a ledger (News) for what they write -/
section
variable {prog : Program} {w : World} {A : Around} {E : Value → Shared → Prop} {s : Shared} {K : Frag}

/-! the whole heap as the ledger: makes every rule that writes through a ledger a rule over any heap -/
end
end Att

namespace L2
open PySem PySem.Spec PyProof.Rows

theorem vals_ints : ∀ {vs : List Value} {ns : List Int}, IntsAre vs ns → Vals (ns.map V.int) vs
  | _, _, .nil => .nil
  | _, _, .cons n t h => .cons ⟨t, rfl⟩ (vals_ints h)

/-- nothing is tracked but the script, known to the object (or it is an object of the module) -/
def Only (H : Hp) : Prop := ∀ b, H b = none ∨ ∃ o xs, H b = some (.frz o (.lst xs))

/-- THE HEAD: the law's promise, at the heap behind the top. F, the promise of the law's def, may use that base is part of the heap (so K.In base, base.Ns mainGlobals mg stand in Mod) -/
theorem law_call {P : Program} {w : World} {K : PySem.W.Frag} {mg mb : Str → Option Value} {CX : CXT} {k : Nat} {fa a : Addr} {fd : FuncData} {x : Str} {sp : Sp} {s₁ : Shared} {vs : List Value} {ns : List Int}
    (KX : K.In s₁.heap) (hns : s₁.heap.Ns mainGlobals mg) (hb : s₁.heap.Ns builtinsNs mb) (hbb : ∀ x : Str, x ≠ "__name__" → mb x = bootBuiltins x) (hlim : s₁.heap.NoLimit) (hg : s₁.gens = #[])
    (ha : s₁.heap.get? a = some { cls := .type "list", data := .seq vs.toArray }) (hi : IntsAre vs ns) (hl : ns.length ≤ sizeLine) (hr : Room k callerA)
    (F : ∀ base : Heap, K.In base → base.Ns mainGlobals mg → FnOk P w K mg base CX k fa fd [x] sp) (hbind : ∀ (s : Shared) (u : Value), BindsTo s fd ⟨[u], []⟩ [(x, u)])
    (hsp : ∀ H : Hp, Only H → SqL K H a (ns.map V.int) → sp [.ref a] H (fun v _ => v = .bl true) fun _ _ _ => False)
    (hCX : ∀ H e s', CX [] H s₁ (fun _ _ _ => False) e s' → False) :
    codeAny (model P w) callerA (.call (.ref fa) ⟨[.ref a], []⟩) (fun r s' => r = .ok (.ret (.bool true)) ∧ OldK s₁.heap s'.heap ∧ s'.os = s₁.os ∧ AllBare s'.gens) s₁ := by
  have rv := vals_ints hi
  have lenV := hi.length
  -- from an abstract heap in which nothing but the script may be tracked
  have core : ∀ H : Hp, Only H → SqL K H a (ns.map V.int) → HOk P w H s₁.heap → (∀ b, H b ≠ none → b = a) → (H a ≠ none → K.lookup a = none) →
      codeAny (model P w) callerA (.call (.ref fa) ⟨[.ref a], []⟩) (fun r s' => r = .ok (.ret (.bool true)) ∧ OldK s₁.heap s'.heap ∧ s'.os = s₁.os ∧ AllBare s'.gens) s₁ := by
    intro H hO hS hok hA hK
    have base_of : ∀ {b : Addr} {o : Obj}, s₁.heap.get? b = some o → H b = none → (hidT s₁.heap H).get? b = some o := fun e n => hidT_get e n
    have noA : ∀ {b : Addr} {o : Obj} {es : Array DictEntry} {ep : Nat}, s₁.heap.get? b = some o → o.data = .dict es ep → H b = none := fun {b o es ep} e d => by
      cases q : H b with
      | none => rfl
      | some u =>
        have e' : b = a := hA b (by rw [q]; simp)
        subst e'
        rw [ha] at e; cases e
        have d' : Data.seq vs.toArray _ = Data.dict es ep := d
        cases d'
    have nsK : ∀ {b : Addr} {m : Str → Option Value}, s₁.heap.Ns b m → (hidT s₁.heap H).Ns b m := fun {b m} ⟨o, es, ep, e, d, r⟩ => ⟨o, es, ep, base_of e (noA e d), d, r⟩
    have hKb : K.In (hidT s₁.heap H) := fun b o e => base_of (KX b o e) (by
      cases q : H b with
      | none => rfl
      | some u =>
        have e' : b = a := hA b (by rw [q]; simp)
        subst e'
        rw [hK (by rw [q]; simp)] at e; cases e)
    have hM : Mod K mg (hidT s₁.heap H) := ⟨hKb, nsK hns, ⟨mb, nsK hb, hbb⟩, let ⟨mc, h1, h2⟩ := hlim; ⟨mc, nsK h1, h2⟩⟩
    have e0 : Env0 P w K mg (hidT s₁.heap H) callerA [] s₁ H := ⟨rfl, hM, fun b o e => of_hidT e, Nat.le_of_eq (hidT_size _ _), trivial, fun b hb => absurd (show b ∈ ([] : List Addr) from hb) (by simp), hok, .of_eq hg⟩
    refine codeAny_mono ((F _ hKb (nsK hns)).run callerA [] s₁ H ⟨[.ref a], []⟩ [.ref a] [.ref a] _ _ hr e0 (hbind s₁ (.ref a)) (.cons rfl .nil) (hsp H hO hS)) fun r s' h => ?_
    cases r with
    | error e => exact (hCX H e s' h).elim
    | ok fl =>
      cases fl with
      | next => exact False.elim h
      | brk => exact False.elim h
      | cont => exact False.elim h
      | ret u =>
        obtain ⟨v, H', os, bare, un, hok', r', q⟩ := h
        have q' : v = .bl true := q
        subst q'
        obtain rfl : u = Value.bool true := r'
        refine ⟨rfl, OldK.of_keep fun b o e => ?_, os, bare⟩
        cases q : H b with
        | none => exact un.keep b o e q (by intro z; exact absurd (show b ∈ ([] : List Addr) from z) (by simp)) (by simp)
        | some u =>
          rcases hO b with z | ⟨ob, xs, z⟩
          · rw [q] at z; cases z
          · have z2 := un.frzs b ob _ z
            obtain ⟨e1, _⟩ := hok b _ z
            obtain ⟨e2, _⟩ := hok' b _ z2
            rw [e] at e1; cases e1
            exact e2
  cases hk : K.lookup a with
  | some o =>
    -- the script is one of the module's own objects
    have e := KX a o hk
    rw [ha] at e
    cases e
    refine core (fun _ => none) (fun _ => .inl rfl) (.inr ⟨_, vs.toArray, _, hk, rfl, rfl, rfl, by rw [List.size_toArray, lenV]; exact hl, by simpa using rv⟩) (fun b u z => by have z' : (none : Option HO) = some u := z; cases z') (fun b z => absurd rfl z) fun z => absurd rfl z
  | none =>
    refine core (fun b => if b = a then some (.frz { cls := .type "list", data := .seq vs.toArray } (.lst (ns.map V.int))) else none) (fun b => ?_) (.inl (.inr ⟨{ cls := .type "list", data := .seq vs.toArray }, if_pos rfl⟩)) (fun b u z => ?_) (fun b z => ?_) fun _ => hk
    · by_cases hb : b = a
      · exact .inr ⟨_, _, if_pos hb⟩
      · exact .inl (if_neg hb)
    · by_cases hb : b = a
      · have z' := (if_pos hb).symm.trans z
        cases z'
        subst hb
        exact ⟨ha, by rw [List.length_map]; exact hl, vs, _, rv, ha⟩
      · have z' := (if_neg hb).symm.trans z
        cases z'
    · by_cases hb : b = a
      · exact hb
      · exact absurd (if_neg hb) z
end L2

namespace L2
open PySem PySem.Spec PyProof.Rows

abbrev KOf {K : PySem.W.Frag} {h : Heap} (_ : K.In h) : PySem.W.Frag := K

/-- the goal that k_head leaves (case hc), from the law's promise. F gives the function object fd (K's own) once, then the promise over every base -/
theorem walk_of {l : PySem.W.OpenLaw} {n k : Nat} {q : Program} {loose : List Str} {XP : (Str → Option Value) → Heap → Prop} {YP : World → Heap → Prop} {d : DefRec} {K : Params → PySem.W.Frag} {CX : World → CXT} {sp : World → Sp} {x : Str}
    (hn : l.most = some n) (hn2 : n ≤ sizeLine) (hdf : d.params.defaults = []) (hr : Room k callerA)
    (hY : ∀ (w : World) (h : Heap), YP w h → (K w.params).In h)
    (F : ∀ (w : World) (mg : Str → Option Value) (fa : Addr) (h : Heap), (K w.params).In h → h.Ns mainGlobals mg → mg d.name = some (.ref fa) →
      ∃ fd : FuncData, (∀ (s : Shared) (u : Value), BindsTo s fd ⟨[u], []⟩ [(x, u)]) ∧
        ∀ base : Heap, (K w.params).In base → base.Ns mainGlobals mg → FnOk l.prog w (K w.params) mg base (CX w) k fa fd [x] (sp w))
    (hsp : ∀ (w : World) (H : Hp) (a : Addr) (ns : List Int), ns.length ≤ n → Only H → SqL (K w.params) H a (ns.map V.int) → sp w [.ref a] H (fun v _ => v = .bl true) fun _ _ _ => False)
    (hCX : ∀ (w : World) (H : Hp) (s : Shared) (e : Value) (s' : Shared), CX w [] H s (fun _ _ _ => False) e s' → False) :
    PySem.W.WalkO q loose XP YP l.row.toRowW d [] (fun f vs => PySem.call f vs) := by
  refine Att.attach_call hn hdf fun w s₀ s₁ mg mb fa o pm cd doc a vs ns G Y ho hd hcd hmg hobj hints hlen hg => ?_
  have KX := hY w _ Y
  obtain ⟨fd, hb, hF⟩ := F w mg fa _ KX G.T.g hmg
  exact law_call KX G.T.g G.T.b G.T.builtins G.T.nolimit hg hobj hints (Nat.le_trans hlen hn2) hr hF hb (fun H hO hS => hsp w H a ns hlen hO hS) fun H e s' => hCX w H s₁ e s'
end L2

/- THE LAST THEOREM (shape; LID, My.* are yours):
   My.Adr: a structure of the addresses that your layer names (classes, functions); My.Txt K t: a structure (Prop) of the equations over K;
   My.txt_mk : {K} {implicit addresses ..} (e1 : nsIn K mainGlobals "law" = some (some (.ref f))) (e2 : K.lookup f = some ⟨oc, od, .func (fnOf "law" "law" params body scope dV kV doc pm an cdv ct), sl⟩) (e3 : codeIn K cdv "law" = true) .. : ∃ t, My.Txt K t

(the tactic k_is has no namespace: write k_is) -/

/-! SHORT WORDS over the layer: a def of the text, its body, what a loop and a test want. -/
namespace L2
open PySem PySem.Spec PyProof.Rows

/-! ### the text by places -/
def defArgs (s : Stmt) : Arguments := match s with
  | .FunctionDef _ a _ _ _ _ _ _ _ _ => a
  | _ => { posonlyargs := [], args := [], vararg := none, kwonlyargs := [], kw_defaults := [], kwarg := none, defaults := [] }
def defBody (s : Stmt) : List Stmt := match s with
  | .FunctionDef _ _ b _ _ _ _ _ _ _ => b
  | _ => []
def defScope (s : Stmt) : Scope := match s with
  | .FunctionDef _ _ _ _ _ _ sc _ _ _ => sc
  | _ => { kind := .function, names := [], isGenerator := false, isCoroutine := false }

/-! ### no exception leaves a def -/
abbrev CX0 : CXT := fun _ _ _ _ _ _ => False
abbrev E0 : XK := fun _ _ _ => False
theorem pass0 {X : Cx} : Passes CX0 X E0 := fun _ _ _ _ _ _ _ h => h.elim

/-! ### a def (or method) of the text as it stands behind the top -/
structure Fun (K : PySem.W.Frag) (x qual : Str) (st : Stmt) (f : Addr) (fd : FuncData) : Prop where
  ex : ∃ (oc : Value) (od : Option Addr) (kV doc pm : Value) (an : Option Addr) (cdv ct : Value) (osl : Array (Option Value)),
    fd = PySem.W.fnOf x qual (defArgs st) (defBody st) (defScope st) .none kV doc pm an cdv ct ∧ K.lookup f = some ⟨oc, od, .func fd, osl⟩ ∧ PySem.W.codeIn K cdv qual = true
  kp : PySem.W.keepIn K (.ref f) = true
section
variable {P : Program} {w : World} {K : PySem.W.Frag} {mg : Str → Option Value} {base : Heap}
/-- THE RULE for a def: its body as a term of rules, and the reading of that term -/
theorem Fun.ok {x qual : Str} {st : Stmt} {f : Addr} {fd : FuncData} {N ps : List Str} {k : Nat} {sp : Sp} (F : Fun K x qual st f fd) (S : FnScope N ps (defScope st)) (len : ∀ vs H Q E, sp vs H Q E → vs.length = ps.length)
    (hbody : ∀ (cdv : Value) (A : Around) (outer : List Env) (s : Shared) (H : Hp) (vs : List V) (Q : VK) (E : XK), Room k (A.deeper (envOfC qual (defScope st) s.heap.objs.size f cdv)) → sp vs H Q E →
      ∃ t, PSs (cxOf CX0 P w K mg base N qual (defScope st) f cdv A outer s H E).nox (defBody st) t ∧ t { nx := fun _ H' => Q .non H', rt := Q } (start N vs) H) : FnOk P w K mg base CX0 (k + 1) f fd ps sp := by
  obtain ⟨oc, od, kV, doc, pm, an, cdv, ct, osl, rfl, lk, hcd⟩ := F.ex
  refine fn_of lk hcd S len fun A outer s H vs Q E hr hsp => ?_
  obtain ⟨t, h, q⟩ := hbody cdv A outer s H vs Q E hr hsp
  exact ⟨t, h.nox, q⟩
/-- how its arguments bind (no defaults): h is «fun _ _ _ _ _ _ us hl => match us, hl with | [_, _], _ => rfl», one _ a parameter -/
theorem Fun.binds {x qual : Str} {st : Stmt} {f : Addr} {fd : FuncData} {ps : List Str} (F : Fun K x qual st f fd)
    (h : ∀ (kV doc pm : Value) (an : Option Addr) (cdv ct : Value) (us : List Value), us.length = ps.length → bindArgs (PySem.W.fnOf x qual (defArgs st) (defBody st) (defScope st) .none kV doc pm an cdv ct) ⟨us, []⟩ = pure (ps.zip us)) : Binds K fd ps [] := by
  obtain ⟨oc, od, kV, doc, pm, an, cdv, ct, osl, rfl, lk, hcd⟩ := F.ex
  exact .all (h kV doc pm an cdv ct)
theorem fun_mk {x qual : Str} {st : Stmt} {f : Addr} {oc : Value} {od an : Option Addr} {osl : Array (Option Value)} {kV doc pm cdv ct : Value} (l : K.lookup f = some ⟨oc, od, .func (PySem.W.fnOf x qual (defArgs st) (defBody st) (defScope st) .none kV doc pm an cdv ct), osl⟩)
    (c : PySem.W.codeIn K cdv qual = true) (k : PySem.W.keepIn K (.ref f) = true) : Fun K x qual st f (PySem.W.fnOf x qual (defArgs st) (defBody st) (defScope st) .none kV doc pm an cdv ct) := ⟨⟨oc, od, kV, doc, pm, an, cdv, ct, osl, rfl, l, c⟩, k⟩
end
theorem hu_of {A : Around} {k : Nat} (hr : Room k A) : A.units + 1 < cLine := Nat.lt_of_le_of_lt (Nat.add_le_add_left (by decide : 1 ≤ 64) _) hr.units
/-! ### expressions in short: the name that stands in the i-th slot -/
section
variable {X : Cx}
theorem pv (i : Nat) {x : Str} {pos : Pos} (hN : X.N[i]? = some x := by rfl) (hv : Vis X.env.scope x := by first | exact Or.inl rfl | exact Or.inr (Or.inl rfl) | exact Or.inr (Or.inr rfl)) (hd : (x == ("__debug__" : Str)) = false := by decide)
    (hcd : (x == ("__classdict__" : Str)) = false := by decide) : PE X (.Name x pos) (tVar i) := pe_var hN hv hd hcd
end

/-! ### tests -/
theorem iteF {A B : Prop} (h : B) : if false = true then A else B := by
  rw [if_neg Bool.false_ne_true]
  exact h
theorem iteT {A B : Prop} (h : A) : if true = true then A else B := by
  rw [if_pos rfl]
  exact h
theorem ite2 {c A B : Prop} [Decidable c] (h1 : c → A) (h2 : ¬ c → B) : if c then A else B := by
  by_cases h : c
  · rw [if_pos h]
    exact h1 h
  · rw [if_neg h]
    exact h2 h
theorem iteNS {c A B : Prop} [Decidable c] (hc : c) (h : B) : if (!decide c) = true then A else B := by
  rw [decide_eq_true hc]
  exact iteF h

/-! ### heaps -/
/-- all that was tracked is as it was -/
def Same (H H' : Hp) : Prop := ∀ b o, H b = some o → H' b = some o
theorem Same.refl (H : Hp) : Same H H := fun _ _ h => h
theorem Same.trans {H H1 H2 : Hp} (a : Same H H1) (b : Same H1 H2) : Same H H2 := fun c o h => b c o (a c o h)
theorem Same.seq {K : PySem.W.Frag} {H H' : Hp} {a : Addr} {xs : List V} (e : Same H H') (h : SqL K H a xs) : SqL K H' a xs := by
  rcases h with (h | ⟨o, h⟩) | h
  · exact .inl (.inl (e _ _ h))
  · exact .inl (.inr ⟨o, e _ _ h⟩)
  · exact .inr h

end L2

namespace L2
open PySem PySem.Spec PyProof.Rows
section
variable {X : Cx}
end
/-! ### a dict's pairs: keys that differ -/
section
variable {κ : Type} [DecidableEq κ]
end

end L2

set_option Elab.async false
set_option linter.all false
set_option maxRecDepth 100000
set_option maxHeartbeats 4000000
namespace L2
open PySem PySem.Spec PyProof.Rows
abbrev Bt (n : Nat) (i : Int) : Prop := Builtin.Int.intBits i ≤ n
theorem Bt.mono {m n : Nat} {i : Int} (h : Bt m i) (l : m ≤ n) : Bt n i := Nat.le_trans h l
theorem Bt.log {n : Nat} {i : Int} (h : Bt n i) (l : n ≤ 8999) : i.natAbs.log2 < 9000 := by
  have h1 := intBits_le_iff.mp h
  by_cases z : i.natAbs = 0
  · rw [z]; decide
  · exact Nat.lt_of_lt_of_le ((Nat.log2_lt z).mpr h1) (by omega)
theorem Bt.mul {m n : Nat} {i j : Int} (h : Bt m i) (h' : Bt n j) : Bt (m + n) (i * j) := intBits_mul_le h h'
theorem Bt.of_le {n : Nat} {i j : Int} (h : Bt n j) (l : i.natAbs ≤ j.natAbs) : Bt n i := intBits_le_of_natAbs l h
theorem Bt.of_lt {n : Nat} {i : Int} (l : i.natAbs < 2 ^ n) : Bt n i := intBits_le_iff.mpr l
section
variable {X : Cx}
def CMulB (i j : Int) : Prop := Bt 20000 i ∧ Bt 20000 j
theorem op_mulB : OpR X (binaryOp .Mult) (rI CMulB fun i j => .int (i * j)) := opI fun _ _ _ _ _ _ _ hc q => mul_int q (IntMulOk.of_le hc.1 hc.2 (by decide))
def CDivB (i j : Int) : Prop := 0 < j ∧ Bt 8000 j
theorem op_fdivB : OpR X (binaryOp .FloorDiv) (rI CDivB fun i j => .int (i / j)) := opI fun i j _ _ _ _ _ hc q => by
  refine floordiv_int (by have := hc.1; omega) ?_ (.inl (PyProof.noPylong_of_log2 (hc.2.log (by decide))))
  rw [Int.fdiv_eq_ediv_of_nonneg i (Int.le_of_lt hc.1)]
  exact q
theorem getD_of {α : Type} {xs : List α} {d : α} {j : Nat} (h : j < xs.length) : xs.getD j d = xs[j] := by
  rw [List.getD_eq_getElem?_getD, List.getElem?_eq_getElem h]; rfl
end
end L2

set_option Elab.async false
set_option linter.all false
set_option maxRecDepth 100000
set_option maxHeartbeats 4000000
namespace L2
open PySem PySem.Spec PyProof.Rows
section
variable {X : Cx}
example (K : PySem.W.Frag) : PySem.W.kitOne K (.type "int") (.type "bool") = some false := by rfl
example (K : PySem.W.Frag) : PySem.W.kitOne K (.type "tuple") (.type "tuple") = some true := by rfl
example (K : PySem.W.Frag) : PySem.W.kitOne K (.type "int") (.type "int") = some true := by rfl
end
/-- a def that may be called by its name -/
structure Cal (P : Program) (w : World) (K : PySem.W.Frag) (mg : Str → Option Value) (base : Heap) (x : Str) (ps : List Str) (k : Nat) (sp : Sp) : Prop where
  ex : ∃ f fd, FnOk P w K mg base CX0 k f fd ps sp ∧ mg x = some (.ref f) ∧ PySem.W.keepIn K (.ref f) = true ∧ Binds K fd ps []
structure FunAt (K : PySem.W.Frag) (mg : Str → Option Value) (x : Str) (ps : List Str) (st : Stmt) : Prop where
  ex : ∃ f fd, Fun K x x st f fd ∧ mg x = some (.ref f) ∧ Binds K fd ps []
theorem FunAt.cal {P : Program} {w : World} {K : PySem.W.Frag} {mg : Str → Option Value} {base : Heap} {x : Str} {ps N : List Str} {st : Stmt} {k : Nat} {sp : Sp} (F : FunAt K mg x ps st) (S : FnScope N ps (defScope st)) (len : ∀ vs H Q E, sp vs H Q E → vs.length = ps.length)
    (hbody : ∀ (f : Addr) (cdv : Value) (A : Around) (outer : List Env) (s : Shared) (H : Hp) (vs : List V) (Q : VK) (E : XK), Room k (A.deeper (envOfC x (defScope st) s.heap.objs.size f cdv)) → sp vs H Q E →
      ∃ t, PSs (cxOf CX0 P w K mg base N x (defScope st) f cdv A outer s H E).nox (defBody st) t ∧ t { nx := fun _ H' => Q .non H', rt := Q } (start N vs) H) : Cal P w K mg base x ps (k + 1) sp := by
  obtain ⟨f, fd, F1, m, b⟩ := F.ex
  exact ⟨f, fd, F1.ok S len (hbody f), m, F1.kp, b⟩
section
variable {X : Cx} {x : Str} {ps : List Str} {k : Nat} {sp : Sp} {e : Expr} {es : List Expr} {t : TA} {p pos : Pos}
theorem cc (c : Cal X.prog X.w X.K X.mg X.base x ps k sp) (hr : Room k X.A) (ha : PA X (e :: es) t) (hg : Gl X x := by rfl) (hd : (x == ("__debug__" : Str)) = false := by decide)
    (hs : starEach (e :: es) X.env = (false, eval e X.env) :: starEach es X.env := by rfl) (hp : (backTo pos (starEach es X.env)).any (·.1) = false := by rfl) : PE X (.Call (.Name x p) (e :: es) [] pos) (tCall sp [] E0 t) := by
  obtain ⟨f, fd, F, m, kp, b⟩ := c.ex
  exact pe_call F hr hg m kp b .nil pass0 ha hd hs hp
end
theorem funAt_mk {K : PySem.W.Frag} {h : Heap} {mg : Str → Option Value} {x : Str} {ps : List Str} {st : Stmt} {f : Addr} {oc : Value} {od an : Option Addr} {osl : Array (Option Value)} {kV doc pm cdv ct : Value} (X : K.In h) (G : h.Ns mainGlobals mg)
    (hb : ∀ (kV doc pm : Value) (an : Option Addr) (cdv ct : Value) (us : List Value), us.length = ps.length → bindArgs (PySem.W.fnOf x x (defArgs st) (defBody st) (defScope st) .none kV doc pm an cdv ct) ⟨us, []⟩ = pure (ps.zip us))
    (a : PySem.W.nsIn K mainGlobals x = some (some (.ref f))) (l : K.lookup f = some ⟨oc, od, .func (PySem.W.fnOf x x (defArgs st) (defBody st) (defScope st) .none kV doc pm an cdv ct), osl⟩)
    (c : PySem.W.codeIn K cdv x = true) (k : PySem.W.keepIn K (.ref f) = true) : FunAt K mg x ps st :=
  let F := fun_mk (st := st) l c k
  ⟨f, _, F, PySem.W.mg_of X G a, F.binds hb⟩

theorem bt_abs : bootBuiltins "abs" = some (.builtin "abs") := by decide +kernel
theorem bt_len : bootBuiltins "len" = some (.builtin "len") := by decide +kernel
theorem bt_int : bootBuiltins "int" = some (.type "int") := by decide +kernel
theorem bt_tuple : bootBuiltins "tuple" = some (.type "tuple") := by decide +kernel
/-! ### shares in the heap -/
open MA
def ShAt (H : Hp) (v : V) (q : Rat) : Prop := ∃ p, v = .ref p ∧ H p = some (.tup [.int q.num, .int (q.den : Int)])
def SB (n : Nat) (q : Rat) : Prop := Bt n q.num ∧ Bt n (q.den : Int)
theorem same_new {H : Hp} {p : Addr} (h : H p = none) (o : HO) : Same H (upd H p o) := fun b u q => by rw [upd_ne (ne_of_none q h)]; exact q
theorem ShAt.same {H H' : Hp} {v : V} {q : Rat} (h : ShAt H v q) (s : Same H H') : ShAt H' v q := let ⟨p, e, h⟩ := h; ⟨p, e, s _ _ h⟩
/-- all but the thing at p is as it was -/
def penL (c : Addr) (a l : Int) : List (Key × V) := [(.inr "cells", .ref c), (.inr "at", .int a), (.inr "left", .int l)]
/-- .. and that thing is a pen that keeps its cells -/
structure SameX (p : Addr) (H H' : Hp) : Prop where
  all : ∀ b o, H b = some o → b ≠ p → H' b = some o
  pen : ∀ c a l, H p = some (.dK (penL c a l)) → ∃ a' l', H' p = some (.dK (penL c a' l'))
theorem SameX.refl (p : Addr) (H : Hp) : SameX p H H := ⟨fun _ _ h _ => h, fun _ a l h => ⟨a, l, h⟩⟩
theorem SameX.trans {p : Addr} {H H1 H2 : Hp} (a : SameX p H H1) (b : SameX p H1 H2) : SameX p H H2 :=
  ⟨fun c o h n => b.all c o (a.all c o h n) n, fun c x l h => let ⟨x', l', h'⟩ := a.pen c x l h; b.pen c x' l' h'⟩
theorem Same.x {p : Addr} {H H' : Hp} (a : Same H H') : SameX p H H' := ⟨fun b o h _ => a b o h, fun _ x l h => ⟨x, l, a _ _ h⟩⟩
theorem SameX.upd {p c : Addr} {H : Hp} {a l a' l' : Int} (h : H p = some (.dK (penL c a l))) : SameX p H (upd H p (.dK (penL c a' l'))) :=
  ⟨fun b o e hb => by rw [upd_ne hb]; exact e, fun c' x y e => by rw [h] at e; cases e; exact ⟨a', l', upd_same⟩⟩
theorem SB.mono {m n : Nat} {q : Rat} (h : SB m q) (l : m ≤ n) : SB n q := ⟨h.1.mono l, h.2.mono l⟩
theorem Bt.ediv {n : Nat} {i c : Int} (h : Bt n i) (hc : 0 < c) : Bt n (i / c) := by
  rw [← Int.fdiv_eq_ediv_of_nonneg i (Int.le_of_lt hc)]; exact intBits_fdiv_le h
theorem Bt.gl {n : Nat} {a b : Int} (h : Bt n a) (ha : a ≠ 0) : Bt n (gI a b) :=
  h.of_le (Nat.le_of_dvd (by omega) (Int.natAbs_dvd_natAbs.mpr (gI_dvd_left a b)))
theorem Bt.gr {n : Nat} {a b : Int} (h : Bt n b) (hb : b ≠ 0) : Bt n (gI a b) := by rw [gI_comm]; exact h.gl hb
theorem SB.divInt {n : Nat} {t b : Int} (ht : Bt n t) (hb : Bt n b) (h0 : 0 < b) : SB n (Rat.divInt t b) := by
  have e := share_pos (t := t) h0
  have g := gI_pos_right (a := t) (b := b) (by omega)
  exact ⟨by rw [← e.1]; exact ht.ediv g, by rw [← e.2]; exact hb.ediv g⟩
end L2

set_option Elab.async false
set_option linter.all false
set_option maxRecDepth 100000
set_option maxHeartbeats 4000000
namespace L2
open PySem PySem.Spec PyProof.Rows
/-! ### a list comprehension of one clause -/
theorem closure_go {env : Env} : ∀ (ns : List (Str × NameKind)) (cs : List (Str × Addr)), (∀ x ∈ ns, x.2 = .free → ∃ c, env.cells.lookup x.1 = some c) → (∀ x c, cs.lookup x = some c → env.cells.lookup x = some c) →
    ∃ cl, (forIn ns cs (fun (p : Str × NameKind) (r : List (Str × Addr)) => if (p.2 == NameKind.free) = true then (do let c ← cellOf env p.1; pure (ForInStep.yield ((p.1, c) :: r))) else pure (ForInStep.yield r)) : Sem (List (Str × Addr))) = pure cl ∧
      (∀ x c, cl.lookup x = some c → env.cells.lookup x = some c) ∧ (∀ x, (x, NameKind.free) ∈ ns → ∃ c, cl.lookup x = some c) ∧ (∀ x c, cs.lookup x = some c → ∃ c', cl.lookup x = some c')
  | [], cs, _, hcs => ⟨cs, rfl, hcs, fun _ h => (by simp at h), fun x c h => ⟨c, h⟩⟩
  | (n, k) :: r, cs, hall, hcs => by
    by_cases hk : k = .free
    · subst hk
      obtain ⟨c, hc⟩ := hall (n, .free) (by simp) rfl
      have hce : cellOf env n = pure c := by unfold cellOf; rw [hc]
      have hcs' : ∀ x d, ((n, c) :: cs).lookup x = some d → env.cells.lookup x = some d := fun x d h => by
        rw [List.lookup_cons] at h
        cases e : x == n with
        | true => rw [e] at h; cases h; rw [eq_of_beq e]; exact hc
        | false => rw [e] at h; exact hcs x d h
      obtain ⟨cl, e, h1, h2, h3⟩ := closure_go r ((n, c) :: cs) (fun x hx => hall x (by simp [hx])) hcs'
      refine ⟨cl, ?_, h1, fun x hx => ?_, fun x d hd => ?_⟩
      · rw [List.forIn_cons, ← e]
        show (cellOf env n >>= _) >>= _ = _
        rw [hce]
        rfl
      · rcases List.mem_cons.mp hx with z | z
        · cases z
          exact h3 n c (by simp)
        · exact h2 x z
      · cases q : x == n with
        | true => exact h3 x c (by rw [List.lookup_cons, q])
        | false => exact h3 x d (by rw [List.lookup_cons, q]; exact hd)
    · obtain ⟨cl, e, h1, h2, h3⟩ := closure_go r cs (fun x hx => hall x (by simp [hx])) hcs
      refine ⟨cl, ?_, h1, fun x hx => ?_, h3⟩
      · rw [List.forIn_cons, ← e]
        have : (k == NameKind.free) = false := by simpa using hk
        simp only [this, Bool.false_eq_true, if_false]
        rfl
      · rcases List.mem_cons.mp hx with z | z
        · cases z
          exact absurd rfl hk
        · exact h2 x z
theorem closure_of {env : Env} {scope : Scope} (hall : ∀ x ∈ scope.names, x.2 = .free → ∃ c, env.cells.lookup x.1 = some c) :
    ∃ cl, closureFor scope env = pure cl ∧ (∀ x c, cl.lookup x = some c → env.cells.lookup x = some c) ∧ (∀ x, (x, NameKind.free) ∈ scope.names → ∃ c, cl.lookup x = some c) := by
  obtain ⟨cl, e, h1, h2, _⟩ := closure_go (env := env) scope.names [] hall (fun x c h => by simp at h)
  refine ⟨cl, ?_, h1, h2⟩
  simp only [closureFor]
  rw [e]
  rfl
/-- the block of a comprehension -/
def cxComp (X : Cx) (scope : Scope) (N : List Str) (cl : List (Str × Addr)) (C : Addr) (s : Shared) (H : Hp) (ex : List Addr) : Cx :=
  { X with N := N, s₀ := s, H₀ := H, env := compEnvC scope cl C X.env, outer := X.stack, stack := X.stack, ex := ex, fn := fun _ => false, pn := [] }
def PTs (X : Cx) (ifs : List Expr) (t : TT) : Prop :=
  ∀ (pins : List (Addr × Obj)) (s : Shared) (σ : St) (H : Hp) (Q : Bool → Hp → Prop), Inv X pins σ H s → t σ H Q →
    wpAny (model X.prog X.w) X.A (forIn ifs true fun c r => if r = true then do let ok ← isTrue c X.env (eval c X.env); pure (ForInStep.yield ok) else pure (ForInStep.yield r)) (TP X pins σ Q) X.xe s
def tTT : TT := fun _ H Q => Q true H
theorem pts_nil {X : Cx} : PTs X [] tTT := fun pins s σ H Q I h => wpAny_tests_nil ⟨H, I, h⟩
theorem pts_one {X : Cx} {c : Expr} {t : TT} (h : PT X c t) : PTs X [c] t := fun pins s σ H Q I hw => wpAny_tests_one (h pins s σ H Q I hw)
def tComp (σ0 : St → St) (wi : TI) (g : TG) (tc : TT) (te : TE) : TE := fun σ H Q => wi σ H fun J H1 => ∀ p, H1 p = none → ∃ W : Nat → Nat → List V → St → Hp → Prop, (∃ m, W 0 m [] (σ0 σ) (upd H1 p (.lst []))) ∧ ∀ i m ys σ' H', W i m ys σ' H' →
  (J.stop i H' ∧ Q (.ref p) H') ∨ (J.go i H' ∧ ∀ x H2, J.yld i H' x H2 → g x σ' H2 fun σ2 H3 => tc σ2 H3 fun b H4 => if b = true then te σ2 H4 fun v H5 => ys.length < sizeLine ∧ H5 p = some (.lst ys) ∧ (∃ m', m' < m ∧ W (i + 1) m' (ys ++ [v]) σ2 (upd H5 p (.lst (ys ++ [v]))))
    else ∃ m', m' < m ∧ W (i + 1) m' ys σ2 H4)
/-- which of the def's values the block sees -/
def Sees (X : Cx) (scope : Scope) (N : List Str) (σ0 : St → St) : Prop :=
  ∀ σ : St, (σ0 σ).length = N.length ∧ ∀ (i : Nat) (x : Str) (v : V), N[i]? = some x → (σ0 σ)[i]? = some (some v) → scope.names.lookup x = some .free ∧ ∃ j : Nat, X.N[j]? = some x ∧ σ[j]? = some (some v)
theorem lookup_relabel_mem {env : Env} {names : List (Str × NameKind)} {x : Str} : ∀ {k}, (names.map fun (n, k) => if (k == NameKind.free && env.scope.kind == .function && env.kindOf n == some .cell) = true then (n, NameKind.cell) else (n, k)).lookup x = some k → (x, k) ∈ names ∨ (k = .cell ∧ (x, NameKind.free) ∈ names) := by
  induction names with
  | nil => intro k h; simp at h
  | cons a r ih =>
    intro k h
    obtain ⟨n, k0⟩ := a
    rw [List.map_cons] at h
    dsimp only at h
    by_cases hc : (k0 == NameKind.free && env.scope.kind == .function && env.kindOf n == some .cell) = true
    · rw [if_pos hc] at h
      have hk0 : k0 = .free := by
        simp only [Bool.and_eq_true, beq_iff_eq] at hc
        exact hc.1.1
      rw [List.lookup_cons] at h
      cases e : x == n with
      | true =>
        rw [e] at h
        cases h
        exact .inr ⟨rfl, by rw [eq_of_beq e, hk0]; simp⟩
      | false =>
        rw [e] at h
        rcases ih h with z | ⟨z1, z2⟩
        · exact .inl (List.mem_cons_of_mem _ z)
        · exact .inr ⟨z1, List.mem_cons_of_mem _ z2⟩
    · rw [if_neg hc] at h
      rw [List.lookup_cons] at h
      cases e : x == n with
      | true =>
        rw [e] at h
        cases h
        exact .inl (by rw [eq_of_beq e]; simp)
      | false =>
        rw [e] at h
        rcases ih h with z | ⟨z1, z2⟩
        · exact .inl (List.mem_cons_of_mem _ z)
        · exact .inr ⟨z1, List.mem_cons_of_mem _ z2⟩
theorem lookup_relabel_free {env : Env} {x : Str} : ∀ {names : List (Str × NameKind)}, names.lookup x = some .free →
    (names.map fun (n, k) => if (k == NameKind.free && env.scope.kind == .function && env.kindOf n == some .cell) = true then (n, NameKind.cell) else (n, k)).lookup x = some .cell ∨ (names.map fun (n, k) => if (k == NameKind.free && env.scope.kind == .function && env.kindOf n == some .cell) = true then (n, NameKind.cell) else (n, k)).lookup x = some .free
  | [], h => by simp at h
  | (n, k0) :: r, h => by
    rw [List.lookup_cons] at h
    rw [List.map_cons]
    dsimp only
    cases e : x == n with
    | true =>
      rw [e] at h
      cases h
      by_cases hc : (NameKind.free == NameKind.free && env.scope.kind == .function && env.kindOf n == some .cell) = true
      · rw [if_pos hc]; left; rw [List.lookup_cons, e]
      · rw [if_neg hc]; right; rw [List.lookup_cons, e]
    | false =>
      rw [e] at h
      have ih := lookup_relabel_free (env := env) h
      by_cases hc : (k0 == NameKind.free && env.scope.kind == .function && env.kindOf n == some .cell) = true
      · rw [if_pos hc, List.lookup_cons, e]; exact ih
      · rw [if_neg hc, List.lookup_cons, e]; exact ih
theorem mem_of_lookupF {x : Str} {k : NameKind} : ∀ {names : List (Str × NameKind)}, names.lookup x = some k → (x, k) ∈ names := fun h => PySem.mem_of_lookup h
theorem pe_comp {X : Cx} {elt tg iter : Expr} {ifs : List Expr} {scope : Scope} {pos : Pos} {wi : TI} {g : TG} {tc : TT} {te : TE} {N : List Str} {σ0 : St → St}
    (hc : X.calm = true) (hxe : ∀ e s, X.xe e s → False) (hcell : ∀ y ∈ scope.names, y.2 ≠ .cell) (hkind : scope.kind = .function) (hnames : ∀ y ∈ scope.names, y.2 = .local → scope.names.lookup y.1 = some .local)
    (hfr : ∀ y ∈ scope.names, y.2 = .free → X.env.kindOf y.1 = some .cell ∨ X.env.kindOf y.1 = some .free) (hσ : Sees X scope N σ0)
    (hi : PI X tg iter wi)
    (hg : ∀ cl C s H ex, PG (cxComp X scope N cl C s H ex) tg g) (ht : ∀ cl C s H ex, PTs (cxComp X scope N cl C s H ex) ifs tc) (he : ∀ cl C s H ex, PE (cxComp X scope N cl C s H ex) elt te)
    (hs : ∀ x, foldedSetIterable iter X.env x = pure x := by intro _; rfl) : PE X (.ListComp elt [⟨tg, iter, ifs, 0⟩] scope pos) (tComp σ0 wi g tc te) := by
  intro pins s σ H Q I h
  obtain ⟨cl, hclos, hcl1, hcl2⟩ := closure_of (env := X.env) (scope := scope) fun y hy hf => I.ok.has y.1 (hfr y hy hf)
  rw [eval_ListComp]
  refine wpAny_comprehension_free (use := none) rfl hs hclos hkind hnames (thn (hi pins s σ H _ I h) fun v s1 h1 => thn h1 fun itv s2 h2 => ?_)
  obtain ⟨it, fp, tn, J, H2, e, I2, T, st2, f2, h3⟩ := h2
  subst e
  have hpn : H2 s2.heap.objs.size = none := I2.hok.fresh (Nat.le_refl _)
  obtain ⟨W, ⟨m0, w0⟩, turn⟩ := h3 _ hpn
  refine wpAny_newObj_type ?_
  generalize hp : s2.heap.objs.size = p at *
  have I3 : Inv X pins σ (upd H2 p (.lst [])) { s2 with heap := s2.heap.push { cls := .type "list", dict := none, data := .seq ([] : List Value).toArray } } := by
    refine I2.laid (a := p) (o := .lst []) (t' := s2.toks) (fun b u q => Heap.get?_push_of_some _ q) (Nat.le_of_eq hp) ⟨Nat.zero_le _, [], 0, .nil, ?_⟩
    rw [← hp]
    exact Heap.get?_push_size _ rfl
  have hf3 : ∀ b ∈ fp, FpOk X pins (upd H2 p (.lst [])) b := fun b hb => by
    obtain ⟨o, ho, _⟩ := T.obj _ _ st2 b hb
    have : b ≠ p := by rw [← hp]; exact Nat.ne_of_lt (Heap.lt_size ho)
    exact ⟨by rw [upd_ne this]; exact (f2 b hb).1, (f2 b hb).2⟩
  generalize hs3 : ({ s2 with heap := s2.heap.push { cls := .type "list", dict := none, data := .seq ([] : List Value).toArray } } : Shared) = s3 at *
  have st3 : tn 0 s3.heap := by rw [← hs3]; exact T.keep _ _ _ st2 fun b _ o e => Heap.get?_push_of_some _ e
  generalize hH3 : upd H2 p (.lst []) = H3 at *
  refine wpAny_newFunctionEnv hcell (by intro y hy; simp at hy) (fun h1 hns1 hsb1 => ?_) hkind
  generalize hC : s3.heap.objs.size = C at *
  have keep : ∀ b u, s3.heap.get? b = some u → h1.get? b = some u := fun b u q =>
    hsb1.extBut b u (by rw [← hC]; exact Nat.ne_of_lt (Heap.lt_size q)) (Heap.get?_push_of_some _ q)
  have fpC : ∀ b ∈ fp, b ≠ C := fun b hb => by
    obtain ⟨o, ho, _⟩ := T.obj _ _ st3 b hb
    rw [← hC]; exact Nat.ne_of_lt (Heap.lt_size ho)
  have hCn : H3 C = none := I3.hok.fresh (Nat.le_of_eq hC)
  -- the block's own invariant, at its entry
  have ok' : (cxComp X scope N cl C s3 H3 fp).Ok := by
    refine ⟨I3.mod, hkind, I3.ok.glob, I3.ok.blt, Nat.le_of_eq hC, fun x y c a b => I3.ok.inj x y c (hcl1 x c a) (hcl1 y c b), fun x hx => ?_, fun _ _ z => Bool.noConfusion (show false = true from z), I3.ok.hd, I3.ok.frames, .inl rfl, fun b hb => ⟨fpC b hb, fun x c q => (hf3 b hb).2.2.2.2.1 x c (hcl1 x c q)⟩,
      I3.bs, Nat.le_trans I3.ok.bsz I3.sz, fun b o e hb => ?_, fun b hb z => ?_, I3.stack, I3.stkFree⟩
    · have hx' : (relabel scope X.env).names.lookup x = some .cell ∨ (relabel scope X.env).names.lookup x = some .free := hx
      rcases hx' with z | z
      · rcases lookup_relabel_mem z with y | ⟨_, y⟩
        · exact absurd rfl (hcell _ y)
        · exact hcl2 x y
      · rcases lookup_relabel_mem z with y | ⟨y, _⟩
        · exact hcl2 x y
        · cases y
    · rcases (hf3 b hb).2.2.2.1 with z | z
      · exact I3.ok.noex b o e z
      · exact absurd (Nat.lt_of_lt_of_le (Heap.lt_size e) (Nat.le_trans I3.ok.bsz z)) (Nat.lt_irrefl _)
    · rcases List.mem_cons.mp (I3.stkSub b z) with q | q
      · exact (hf3 b hb).2.1 q
      · exact (hf3 b hb).2.2.1 q
  have J0 : Inv (cxComp X scope N cl C s3 H3 fp) [] (σ0 σ) H3 { s3 with heap := h1, toks := s3.toks + ([] : List (Str × Value)).length } := by
    refine ⟨ok', rfl, I3.bare, Un.kept keep, ⟨_, hns1, fun i x v a b c => ?_⟩, fun x c q => ?_, hCn, fun x c q => I3.freeC x c (hcl1 x c q), fun q hq => absurd (show q ∈ ([] : List (Addr × Obj)) from hq) (by simp), I3.hok.kept keep, (hσ σ).1⟩
    · obtain ⟨hf, j, hj, hv⟩ := (hσ σ).2 i x v a b
      have hm := mem_of_lookupF hf
      obtain ⟨m, hn, hl⟩ := id I3.loc
      have hk := hfr _ hm rfl
      have hvis : Vis X.env.scope x := hk.elim (fun z => .inr (.inl z)) fun z => .inr (.inr z)
      obtain ⟨u, r, lk⟩ := hl j x v hj hv hvis
      refine ⟨u, r, .inr ⟨lookup_relabel_free hf, ?_⟩⟩
      obtain ⟨c', hc'⟩ := hcl2 x hm
      refine ⟨c', hc', ?_⟩
      have hx := hcl1 x c' hc'
      rcases lk with ⟨kl, _⟩ | ⟨_, c2, e2, o2, ho2, hd2⟩
      · rcases hk with z | z <;> rw [kl] at z <;> cases z
      · rw [hx] at e2
        cases e2
        exact ⟨o2, keep _ _ ho2, hd2⟩
    · obtain ⟨v, o, ho, hd⟩ := I3.cell x c (hcl1 x c q)
      exact ⟨v, o, keep _ _ ho, hd⟩
  have st4 : tn 0 h1 := T.keep _ _ _ st3 fun b _ o e => keep b o e
  have stat : ∀ {H' : Hp}, (∀ b ∈ fp, H' b = none) → ∀ b ∈ fp, FpOk (cxComp X scope N cl C s3 H3 fp) [] H' b := fun hn b hb =>
    ⟨hn b hb, fpC b hb, fun z => ok'.exfs b hb z, .inl hb, fun x c q => (hf3 b hb).2.2.2.2.1 x c (hcl1 x c q), fun q hq => absurd (show q ∈ ([] : List (Addr × Obj)) from hq) (by simp)⟩
  -- back to the def
  have back : ∀ {σ' : St} {H' : Hp} {s' : Shared} {pl : List (Addr × Obj)}, Inv (cxComp X scope N cl C s3 H3 fp) pl σ' H' s' → ∀ h', Heap.SameBut C s'.heap h' → Inv X pins σ H' { s' with heap := h' } := fun {σ' H' s' pl} J h' hsb => by
    have I5 : Inv X pins σ H' s' := Inv.call' (ch := fp) I3 J.os J.base J.hok J.bare fun b hb => ⟨(hf3 b hb).2.2.2.1, (hf3 b hb).2.1, (hf3 b hb).2.2.2.2.1, (hf3 b hb).2.2.2.2.2⟩
    refine Inv.turned (it := C) (t' := s'.toks) I5 (fun b o hb e => hsb.extBut b o hb e) J.free (fun z => ?_) (.inr ?_) (fun x c q z => ?_) fun q hq z => ?_
    · exact absurd (show X.env.locals < C by rw [← hC]; exact I3.lt) (by rw [z]; exact Nat.lt_irrefl _)
    · rw [← hC]; exact I3.sz
    · obtain ⟨v, o, ho, _⟩ := I3.cell x c q
      have := Heap.lt_size ho
      rw [z, hC] at this
      exact Nat.lt_irrefl _ this
    · have := Heap.lt_size (I3.pin q hq).1
      rw [z, hC] at this
      exact Nat.lt_irrefl _ this
  have loop : codeAny (model X.prog X.w) X.A (.compLoop (.ListComp elt [⟨tg, iter, ifs, 0⟩] scope pos) 0 (.ref it) (.ref p) (compEnvC scope cl C X.env)) (compPost (model X.prog X.w) X.A X.xe none (EP X pins σ Q) (.ref p) C) { s3 with heap := h1, toks := s3.toks + ([] : List (Str × Value)).length } := by
    refine codeAny_loop rfl (fun n s' => ∃ i ys σ' H', Inv (cxComp X scope N cl C s3 H3 fp) [] σ' H' s' ∧ tn i s'.heap ∧ (∀ b ∈ fp, H' b = none) ∧ W i n ys σ' H') (fun n s' hI => ?_) m0 ⟨0, [], σ0 σ, H3, J0, st4, fun b hb => (hf3 b hb).1, w0⟩
    obtain ⟨i, ys, σ', H', J', st', fr', w'⟩ := hI
    show wpAny _ X.A ((compTurn (.ListComp elt [⟨tg, iter, ifs, 0⟩] scope pos) 0 (.ref it) (.ref p) (compEnvC scope cl C X.env)).onRaise (fun x => do noteFrame x (compEnvC scope cl C X.env); theTreesLotGoes x)) _ _ s'
    refine wpAny_noted ?_
    rw [compTurn_list]
    rcases turn i n ys σ' H' w' with ⟨stop, q⟩ | ⟨go, step⟩
    · refine wpAny_bind (wpAny_standAt (wpAny_bind (wpAny_mono (T.done (cxComp X scope N cl C s3 H3 fp) rfl rfl rfl hc i [] s' σ' H' X.xe J' (stat fr') st' stop) (fun r s4 h4 => ?_) fun _ _ x => (hxe _ _ x).elim)))
      obtain ⟨hr, I4⟩ := h4
      subst hr
      refine wpAny_pure ?_
      obtain ⟨m, hn, _⟩ := id I4.loc
      exact ⟨m, hn, fun h' hsb => ⟨.ref p, H', back I4 h' hsb, rfl, q⟩⟩
    · refine wpAny_bind (wpAny_standAt (wpAny_bind (wpAny_mono (T.item (cxComp X scope N cl C s3 H3 fp) rfl rfl rfl hc i [] s' σ' H' X.xe J' (stat fr') st' go) (fun r s4 h4 => ?_) fun _ _ x => (hxe _ _ x).elim)))
      obtain ⟨u, hr, h4⟩ := h4
      subst hr
      refine wpAny_bind (wpAny_mono h4 (fun _ s5 h5 => ?_) fun _ _ x => (hxe _ _ x).elim)
      obtain ⟨x, H5, I5, r5, y5, st5, fr5⟩ := h5
      have I5' := I5.pinned (stat fr5) (T.obj _ _ st5)
      refine wpAny_bind (wpAny_mono (hg cl C s3 H3 fp _ s5 σ' H5 x u _ I5' r5 (step x H5 y5)) (fun _ s6 h6 => ?_) fun _ _ x => (hxe _ _ x).elim)
      obtain ⟨σ6, H6, I6, q6⟩ := h6
      have again : ∀ {σ7 : St} {H7 : Hp} {s7 : Shared} {ys7 : List V}, Inv (cxComp X scope N cl C s3 H3 fp) ([] ++ pinsAt fp s5.heap) σ7 H7 s7 → (∃ m', m' < n ∧ W (i + 1) m' ys7 σ7 H7) →
          ∃ m, m < n ∧ ∃ i ys σ' H', Inv (cxComp X scope N cl C s3 H3 fp) [] σ' H' s7 ∧ tn i s7.heap ∧ (∀ b ∈ fp, H' b = none) ∧ W i m ys σ' H' := fun {σ7 H7 s7 ys7} I7 n7 => by
        obtain ⟨m', hm, w7⟩ := n7
        refine ⟨m', hm, i + 1, ys7, σ7, H7, I7.unpinned, T.keep _ _ _ st5 fun b hb o e => (I7.pin (b, o) (List.mem_append_right _ (List.mem_append_right _ (mem_pinsAt hb e)))).1, fun b hb => ?_, w7⟩
        obtain ⟨o, e, d⟩ := T.obj _ _ st5 b hb
        exact (I7.pin (b, o) (List.mem_append_right _ (List.mem_append_right _ (mem_pinsAt hb e)))).2.1
      refine wpAny_bind (wpAny_mono (ht cl C s3 H3 fp _ s6 σ6 H6 _ I6 q6) (fun ok s7 h7 => ?_) fun _ _ x => (hxe _ _ x).elim)
      obtain ⟨H7, I7, q7⟩ := h7
      cases ok with
      | false =>
        rw [if_neg Bool.false_ne_true] at q7
        exact wpAny_pure ⟨rfl, again I7 q7⟩
      | true =>
        rw [if_pos rfl] at q7
        refine wpAny_bind (wpAny_bind (wpAny_mono (he cl C s3 H3 fp _ s7 σ6 H7 _ I7 q7) (fun y s8 h8 => ?_) fun _ _ x => (hxe _ _ x).elim))
        obtain ⟨v, H8, I8, r8, hz, hH8, w8⟩ := h8
        refine wpAny_bind (wpAny_mono (mt_append (X := cxComp X scope N cl C s3 H3 fp) _ s8 σ6 H8 (.ref p) [v] (.ref p) [y] (fun x H9 => x = .non ∧ H9 = upd H8 p (.lst (ys ++ [v]))) I8 rfl (.cons r8 .nil) ⟨p, ys, v, rfl, rfl, hH8, hz, rfl, rfl⟩) (fun _ s9 h9 => ?_) fun _ _ x => (hxe _ _ x).elim)
        obtain ⟨z, H9, I9, _, _, e9⟩ := h9
        subst e9
        exact wpAny_pure (wpAny_pure ⟨rfl, again I9 w8⟩)
  exact codeAny_compStart_list loop (T.self X.A 0 _ _ _ st4 loop)
end L2
namespace L2
open PySem PySem.Spec PyProof.Rows
section
variable {X : Cx}
end
end L2

set_option Elab.async false
set_option linter.all false
set_option maxRecDepth 100000
set_option maxHeartbeats 4000000
namespace L2
open PySem PySem.Spec PyProof.Rows
section
variable {X : Cx}
end
end L2
namespace L2
open MA
end L2
namespace My
open PySem L2 MA
section
variable {P : Program} {w : World} {K : PySem.W.Frag} {mg : Str → Option Value} {base : Heap}
structure Txt (mg : Str → Option Value) : Prop where
  z_abs : mg "abs" = none
  z_len : mg "len" = none
  z_isinstance : mg "isinstance" = none
  z_range : mg "range" = none
  z_int : mg "int" = none
  z_bool : mg "bool" = none
  z_tuple : mg "tuple" = none
  z_list : mg "list" = none
  z_all : mg "all" = none
def spMeasure : Sp := fun vs H Q _ => ∃ a b : Int, vs = [.int a, .int b] ∧ Q (.int (gI a b)) H
/-- a list of shares and what they stand for -/
def Shs (H : Hp) : List V → List Rat → Prop := Paired (ShAt H)
theorem Paired.at' {α β : Type} {R : α → β → Prop} : ∀ {xs : List α} {ys : List β} {i : Nat} {x : α}, Paired R xs ys → xs[i]? = some x → ∃ y, ys[i]? = some y ∧ R x y
  | _, _, _, _, .nil, e => by simp at e
  | _, _, 0, _, .cons r _, e => by simp at e; subst e; exact ⟨_, rfl, r⟩
  | _, _, i + 1, x, .cons _ t, e => by
    obtain ⟨u, h1, h2⟩ := Paired.at' (i := i) (x := x) t (by simpa using e)
    exact ⟨u, by simpa using h1, h2⟩
/-- the pen: where it stands in the script, n draws at most so far -/
def Pen (H : Hp) (p : Addr) (n : Nat) : Prop := ∃ (c : Addr) (ns : List Int) (a l : Int), H p = some (.dK (penL c a l)) ∧ H c = some (.lst (ns.map V.int)) ∧ 0 ≤ a ∧ a ≤ n
theorem Pen.mono {H : Hp} {p : Addr} {m n : Nat} (h : Pen H p m) (l : m ≤ n) : Pen H p n := let ⟨c, ns, a, x, h1, h2, h3, h4⟩ := h; ⟨c, ns, a, x, h1, h2, h3, by omega⟩
theorem Pen.same {H H' : Hp} {p : Addr} {n : Nat} (h : Pen H p n) (s : Same H H') : Pen H' p n := let ⟨c, ns, a, x, h1, h2, h3, h4⟩ := h; ⟨c, ns, a, x, s _ _ h1, s _ _ h2, h3, h4⟩
theorem Pen.dk {H : Hp} {p : Addr} {n : Nat} (h : Pen H p n) : ∃ kvs, H p = some (.dK kvs) := let ⟨c, ns, a, x, h1, _⟩ := h; ⟨_, h1⟩
theorem pen_cells (c : Addr) (a l : Int) : valV (penL c a l) (.inr "cells" : Key) = some (.ref c) := by rfl

theorem pen_at (c : Addr) (a l : Int) : valV (penL c a l) (.inr "at" : Key) = some (.int a) := by rfl
theorem pen_left (c : Addr) (a l : Int) : valV (penL c a l) (.inr "left" : Key) = some (.int l) := by rfl
theorem put_at (c : Addr) (a l b : Int) : putK (penL c a l) (.inr "at" : Key) (.int b) = penL c b l := by rfl
theorem put_left (c : Addr) (a l b : Int) : putK (penL c a l) (.inr "left" : Key) (.int b) = penL c a b := by rfl
theorem get_cells {H : Hp} {p c : Addr} {a l : Int} (h : H p = some (.dK (penL c a l))) : DGet H p (.str "cells") (some (.ref c)) := by
  have := DGet.k (k := (.inr "cells" : Key)) h; rw [pen_cells] at this; exact this
theorem get_at {H : Hp} {p c : Addr} {a l : Int} (h : H p = some (.dK (penL c a l))) : DGet H p (.str "at") (some (.int a)) := by
  have := DGet.k (k := (.inr "at" : Key)) h; rw [pen_at] at this; exact this
theorem get_left {H : Hp} {p c : Addr} {a l : Int} (h : H p = some (.dK (penL c a l))) : DGet H p (.str "left") (some (.int l)) := by
  have := DGet.k (k := (.inr "left" : Key)) h; rw [pen_left] at this; exact this
theorem dput_at {H : Hp} {p c : Addr} {a l b : Int} (h : H p = some (.dK (penL c a l))) : DPut H p (.str "at") (.int b) (upd H p (.dK (penL c b l))) := by
  have := DPut.k (k := (.inr "at" : Key)) (v := .int b) h (by show 3 < sizeLine; decide); rw [put_at] at this; exact this
theorem dput_left {H : Hp} {p c : Addr} {a l b : Int} (h : H p = some (.dK (penL c a l))) : DPut H p (.str "left") (.int b) (upd H p (.dK (penL c a b))) := by
  have := DPut.k (k := (.inr "left" : Key)) (v := .int b) h (by show 3 < sizeLine; decide); rw [put_left] at this; exact this
theorem cell_at {ns : List Int} (a : Int) (h : 0 < ns.length) : ∃ z : Int, atI (ns.map V.int) (a % (((ns.map V.int).length : Nat) : Int)) = some (.int z) := by
  rw [List.length_map]
  have h0 := Int.emod_nonneg a (show ((ns.length : Nat) : Int) ≠ 0 by omega)
  have h1 := Int.emod_lt_of_pos a (show 0 < ((ns.length : Nat) : Int) by omega)
  have hk : (a % (ns.length : Int)).toNat < ns.length := by omega
  have ek : a % (ns.length : Int) = (((a % (ns.length : Int)).toNat : Nat) : Int) := by omega
  refine ⟨ns[(a % (ns.length : Int)).toNat], ?_⟩
  have q : atI (ns.map V.int) (((a % (ns.length : Int)).toNat : Nat) : Int) = some (.int ns[(a % (ns.length : Int)).toNat]) := atI_nat (by rw [List.getElem?_map, List.getElem?_eq_getElem hk] <;> rfl)
  rw [← ek] at q
  exact q
def spDraw : Sp := fun vs H Q _ => ∃ (p : Addr) (m : Int) (n : Nat), vs = [.ref p, .int m] ∧ Pen H p n ∧ n < 100000 ∧ 0 < m ∧ m < 1073741824 ∧ ∀ (r : Int) (H' : Hp), 0 ≤ r → r < m → Pen H' p (n + 1) → SameX p H H' → Q (.int r) H'
def spPen (K : PySem.W.Frag) : Sp := fun vs H Q _ => ∃ (a : Addr) (ns : List Int), vs = [.ref a] ∧ SqL K H a (ns.map V.int) ∧ ∀ (p : Addr) (H' : Hp), Same H H' → Pen H' p 0 → Q (.ref p) H'
theorem cut_ints (ns : List Int) (lo hi : Option Int) : ∃ ms : List Int, cutV (ns.map V.int) lo hi = ms.map V.int := by
  unfold cutV
  rw [← List.map_drop, ← List.map_take]
  exact ⟨_, rfl⟩
def spLMeasure : Sp := fun vs H Q _ => ∃ a b : Int, vs = [.int a, .int b] ∧ 0 ≤ a ∧ 0 ≤ b ∧ Q (.int (gI a b)) H
def spLaw (K : PySem.W.Frag) : Sp := fun vs H Q _ => ∃ (a : Addr) (ns : List Int), vs = [.ref a] ∧ SqL K H a (ns.map V.int) ∧ ns.length ≤ 63 ∧ ∀ H', Q (.bl true) H'
end
end My
namespace L2
open PySem PySem.Spec PyProof.Rows
theorem Sees.none1 {X : Cx} {scope : Scope} {x : Str} : Sees X scope [x] (fun _ => [none]) := fun σ => ⟨rfl, fun i y v _ h2 => by
  match i with
  | 0 => simp at h2
  | n + 1 => simp at h2⟩
theorem pe_comp0 {X : Cx} {elt tg iter : Expr} {ifs : List Expr} {scope : Scope} {pos : Pos} {wi : TI} {g : TG} {tc : TT} {te : TE} {N : List Str} {σ0 : St → St}
    (hc : X.calm = true) (hxe : ∀ e s, X.xe e s → False) (hcell : ∀ y ∈ scope.names, y.2 ≠ .cell) (hkind : scope.kind = .function) (hnames : ∀ y ∈ scope.names, y.2 = .local → scope.names.lookup y.1 = some .local)
    (hnf : ∀ y ∈ scope.names, y.2 ≠ .free) (hσ : Sees X scope N σ0) (hi : PI X tg iter wi)
    (hg : ∀ cl C s H ex, PG (cxComp X scope N cl C s H ex) tg g) (ht : ∀ cl C s H ex, PTs (cxComp X scope N cl C s H ex) ifs tc) (he : ∀ cl C s H ex, PE (cxComp X scope N cl C s H ex) elt te)
    (hs : ∀ x, foldedSetIterable iter X.env x = pure x := by intro _; rfl) : PE X (.ListComp elt [⟨tg, iter, ifs, 0⟩] scope pos) (tComp σ0 wi g tc te) :=
  pe_comp hc hxe hcell hkind hnames (fun y hy hf => absurd hf (hnf y hy)) hσ hi hg ht he hs
end L2

set_option Elab.async false
set_option linter.all false
set_option maxRecDepth 100000
set_option maxHeartbeats 4000000
namespace L2
open PySem PySem.Spec PyProof.Rows
/-! ### repr: what a value is, as plain data -/
mutual
inductive DataV (H : Hp) : V → PyData → Prop
  | non : DataV H .non .none
  | bl (b : Bool) : DataV H (.bl b) (.bool b)
  | int (i : Int) : DataV H (.int i) (.int i)
  | str (x : Str) : DataV H (.str x) (.str x)
  | lst {a : Addr} {xs : List V} {ds : List PyData} : H a = some (.lst xs) → DataL H xs ds → DataV H (.ref a) (.list ds)
  | tup {a : Addr} {xs : List V} {ds : List PyData} : H a = some (.tup xs) → DataL H xs ds → DataV H (.ref a) (.tuple ds)
  | dict {a : Addr} {kvs : List (Key × V)} {ps : List (PyData × PyData)} : H a = some (.dK kvs) → DataL H (kvs.map fun p => kV p.1) (ps.map (·.1)) → DataL H (kvs.map (·.2)) (ps.map (·.2)) → DataV H (.ref a) (.dict ps)
inductive DataL (H : Hp) : List V → List PyData → Prop
  | nil : DataL H [] []
  | cons {x : V} {xs : List V} {d : PyData} {ds : List PyData} : DataV H x d → DataL H xs ds → DataL H (x :: xs) (d :: ds)
end
mutual
def lists : PyData → Bool
  | .list _ => true
  | .tuple xs => listsAll xs
  | .dict kvs => listsKv kvs
  | _ => false
def listsAll : List PyData → Bool
  | [] => false
  | x :: xs => lists x || listsAll xs
def listsKv : List (PyData × PyData) → Bool
  | [] => false
  | (k, v) :: r => lists k || lists v || listsKv r
end
theorem listsKv_eq : ∀ ps : List (PyData × PyData), listsKv ps = false → listsAll (ps.map (·.1)) = false ∧ listsAll (ps.map (·.2)) = false
  | [], _ => ⟨rfl, rfl⟩
  | (k, v) :: r, h => by
    simp only [listsKv, Bool.or_eq_false_iff] at h
    obtain ⟨h1, h2⟩ := listsKv_eq r h.2
    simp only [List.map_cons, listsAll, Bool.or_eq_false_iff]
    exact ⟨⟨h.1.1, h1⟩, ⟨h.1.2, h2⟩⟩
theorem pairs_split {P : Program} {w : World} : ∀ {es : List DictEntry} {vs : List (Key × Value)} {kvs : List (Key × V)}, Pairs (mixKind P w) es vs → KV kvs vs → Vals (kvs.map fun p => kV p.1) (es.map (·.key)) ∧ Vals (kvs.map (·.2)) (es.map (·.val)) := by
  intro es vs kvs h
  induction h generalizing kvs with
  | nil =>
    intro r
    cases r
    exact ⟨.nil, .nil⟩
  | @cons e kv es vs h1 h2 _ ih =>
    intro r
    cases r with
    | @cons p _ kvs' _ hp hr =>
      obtain ⟨a, b⟩ := ih hr
      refine ⟨.cons ?_ a, .cons ?_ b⟩
      · have h1' : keyIs kv.1 e.key = true := h1
        rw [← hp.1] at h1'
        rcases keyIs_shape h1' with ⟨i, t, e1, e2⟩ | ⟨x, t, e1, e2⟩
        · show RelV (kV p.1) e.key
          rw [e1, e2]; exact ⟨t, rfl⟩
        · show RelV (kV p.1) e.key
          rw [e1, e2]; exact ⟨t, rfl⟩
      · show RelV p.2 e.val
        rw [h2]; exact hp.2
mutual
theorem reads_of {P : Program} {w : World} {H : Hp} {h : Heap} (ok : HOk P w H h) : ∀ {v : V} {d : PyData} {u : Value}, DataV H v d → RelV v u → ∃ as, Reads h u d as ∧ (lists d = false → sysModules ∉ as)
  | _, _, _, .non, r => by cases r; exact ⟨[], .none, fun _ => by simp⟩
  | _, _, _, .bl b, r => by cases r; exact ⟨[], .bool b, fun _ => by simp⟩
  | _, _, _, .int i, r => by obtain ⟨t, rfl⟩ := r; exact ⟨[], .int i t, fun _ => by simp⟩
  | _, _, _, .str x, r => by obtain ⟨t, rfl⟩ := r; exact ⟨[], .str x t, fun _ => by simp⟩
  | _, _, _, .lst (a := a) (xs := xs) ha hd, r => by
    cases r
    obtain ⟨_, its, n, rv, e⟩ := ok a _ ha
    obtain ⟨as, hr, _⟩ := readsAll_of ok hd rv
    exact ⟨a :: as, .list e rfl rfl (by simpa using hr), fun z => by simp [lists] at z⟩
  | _, _, _, .tup (a := a) (xs := xs) ha hd, r => by
    cases r
    obtain ⟨_, its, rv, o, e, hc, n, hdt, _⟩ := ok a _ ha
    obtain ⟨as, hr, hs⟩ := readsAll_of ok hd rv
    exact ⟨as, .tuple e hc hdt (by simpa using hr), fun z => hs (by simpa [lists] using z)⟩
  | _, _, _, .dict (a := a) (kvs := kvs) (ps := ps) ha hk hv, r => by
    cases r
    obtain ⟨_, hm, vs, rv, o, es, ep, e, hx, hdt, _, hp, _⟩ := ok a _ ha
    obtain ⟨rk, rvv⟩ := pairs_split hp rv
    obtain ⟨as, hr, hs⟩ := readsAll_of ok hk rk
    obtain ⟨bs, hr', hs'⟩ := readsAll_of ok hv rvv
    refine ⟨a :: as ++ bs, .dict e hx.1 hdt hr hr', fun z => ?_⟩
    obtain ⟨z1, z2⟩ := listsKv_eq ps (by simpa [lists] using z)
    have hne : a ≠ sysModules := by simpa using hm
    simp only [List.cons_append, List.mem_cons, List.mem_append, not_or]
    exact ⟨fun q => hne q.symm, hs z1, hs' z2⟩
theorem readsAll_of {P : Program} {w : World} {H : Hp} {h : Heap} (ok : HOk P w H h) : ∀ {vs : List V} {ds : List PyData} {us : List Value}, DataL H vs ds → Vals vs us → ∃ as, ReadsAll h us ds as ∧ (listsAll ds = false → sysModules ∉ as)
  | _, _, _, .nil, r => by cases r; exact ⟨[], .nil, fun _ => by simp⟩
  | _, _, _, .cons hx hd, r => by
    cases r with
    | cons r1 r2 =>
      obtain ⟨as, h1, s1⟩ := reads_of ok hx r1
      obtain ⟨bs, h2, s2⟩ := readsAll_of ok hd r2
      refine ⟨as ++ bs, .cons h1 h2, fun z => ?_⟩
      simp only [listsAll, Bool.or_eq_false_iff] at z
      simp only [List.mem_append, not_or]
      exact ⟨s1 z.1, s2 z.2⟩
end
theorem bt_repr : bootBuiltins "repr" = some (.builtin "repr") := by decide +kernel
section
variable {X : Cx}
/-- repr(x), x plain data -/
def rRepr : List V → Hp → VK → Prop := fun xs H Q => ∃ v d, xs = [v] ∧ DataV H v d ∧ d.showable = true ∧ (d.hasDict = true → lists d = false) ∧ d.depth ≤ 20 ∧ d.shown.length ≤ sizeLine ∧ Q (.str d.shown) H
theorem call_repr {k : Nat} (hr : Room k X.A) : CallR X (.builtin "repr") rRepr := by
  intro pins s σ H xs us Q I r h
  obtain ⟨v, d, rfl, hd, hs, hl, hdp, hz, q⟩ := h
  obtain ⟨u, rfl, ru⟩ := vals1 r
  obtain ⟨as, rd, hsm⟩ := reads_of I.hok hd ru
  have fin : ∀ h' u tk, (∀ b o, s.heap.get? b = some o → h'.get? b = some o) → EP X pins σ Q (.str d.shown u) { s with heap := h', toks := tk } := fun h' u tk hk =>
    ⟨.str d.shown, H, I.kept (t' := tk) hk, ⟨u, rfl⟩, q⟩
  cases u with
  | ref a => exact repr_of_reads' rd hs (fun z => hsm (hl z)) hr.gd (by have := hr.un; omega) (fun _ _ e => e) fin hz
  | none => cases rd; rw [PyData.shown_none] at fin; exact PySem.P.repr_of_none (fin _ _ _ fun _ _ e => e)
  | bool b => cases rd; rw [PyData.shown_bool] at fin; exact PySem.P.repr_of_bool (fin _ _ _ fun _ _ e => e)
  | int i t => cases rd; rw [PyData.shown_int] at fin; exact PySem.P.repr_of_int (by simpa [PyData.showable] using hs) (fin _ _ _ fun _ _ e => e)
  | str x t => cases rd; rw [PyData.shown_str] at fin hz; exact PySem.P.repr_of_str (fin _ _ _ fun _ _ e => e) hz
  | _ => cases rd
end
end L2

set_option Elab.async false
set_option linter.all false
set_option maxRecDepth 100000
set_option maxHeartbeats 4000000
namespace L2
open PySem PySem.Spec PyProof.Rows MA
/-- plain data that may be shown -/
structure Good (d : PyData) : Prop where
  sh : d.showable = true
  ld : d.hasDict = true → lists d = false
  dp : d.depth ≤ 20
  ln : d.shown.length ≤ sizeLine
structure Sm (n : Nat) (d : PyData) : Prop where
  sh : d.showable = true
  ld : (d.hasDict && lists d) = false
  dp : d.depth ≤ n
  lv : d.leavesShort 40 = true
  bk : d.bulk ≤ n
theorem Sm.good {n : Nat} {d : PyData} (h : Sm n d) (l : n ≤ 100000) (l2 : d.depth ≤ 20) : Good d := by
  refine ⟨h.sh, fun z => ?_, l2, ?_⟩
  · have := h.ld; rw [z] at this; simpa using this
  · have a := PyData.shown_le_bulk 40 (by decide) d h.lv
    have b := h.bk
    have : (40 + 2) * d.bulk ≤ 42 * 100000 := Nat.mul_le_mul (by omega) (by omega)
    rw [sizeLine_eq]
    omega
/-- an int of at most thirty-six figures -/
abbrev I36 (i : Int) : Prop := i.natAbs < 1000000000000000000000000000000000000
theorem sm_int36 {i : Int} (h : I36 i) (n : Nat) : Sm n (.int i) := by
  have h' : i.natAbs < 1000000000000000000000000000000000000 := h
  refine ⟨?_, rfl, Nat.zero_le _, ?_, Nat.zero_le _⟩
  · simp only [PyData.showable, decide_eq_true_eq]
    by_cases z : i.natAbs = 0
    · rw [z]; decide
    · exact (Nat.log2_lt z).mpr (Nat.lt_of_lt_of_le h' (Nat.le_trans (show (1000000000000000000000000000000000000 : Nat) ≤ 2 ^ 120 by decide) (Nat.pow_le_pow_right (by decide) (by decide))))
  · have e := int_text_length_le10 (a := i) (k := 36) (by decide) (Nat.lt_of_lt_of_le h' (by decide))
    simp only [PyData.leavesShort, decide_eq_true_eq]
    show (Str.ofString (toString i)).length ≤ 40
    rw [PySem.ofString_length]; omega
theorem sm_tup {ds : List PyData} {n m : Nat} (h : ∀ d ∈ ds, Sm n d) (hd : (PyData.hasDictAll ds && listsAll ds) = false) (hm : n + 1 ≤ m) (hm2 : ds.length * (n + 1) ≤ m) : Sm m (.tuple ds) := by
  have key : ∀ ds : List PyData, (∀ d ∈ ds, Sm n d) → PyData.showableAll ds = true ∧ PyData.depthAll ds ≤ n ∧ PyData.leavesShortAll 40 ds = true ∧ PyData.bulkAll ds ≤ ds.length * (n + 1) := by
    intro ds
    induction ds with
    | nil => intro _; exact ⟨rfl, Nat.zero_le _, rfl, Nat.zero_le _⟩
    | cons d ds ih =>
      intro h
      obtain ⟨a, b, c, e⟩ := ih fun d hd => h d (List.mem_cons_of_mem _ hd)
      have hd := h d List.mem_cons_self
      refine ⟨by simp [PyData.showableAll, hd.sh, a], by simp only [PyData.depthAll]; exact Nat.max_le.mpr ⟨hd.dp, b⟩, by simp [PyData.leavesShortAll, hd.lv, c], ?_⟩
      simp only [PyData.bulkAll, List.length_cons, Nat.add_mul]
      have := hd.bk
      omega
  obtain ⟨a, b, c, e⟩ := key ds h
  exact ⟨by simpa [PyData.showable] using a, by simpa [PyData.hasDict, lists] using hd, by simp only [PyData.depth]; omega, by simpa [PyData.leavesShort] using c, by simp only [PyData.bulk]; omega⟩
theorem sm_list {ds : List PyData} {n m : Nat} (h : ∀ d ∈ ds, Sm n d) (hd : PyData.hasDictAll ds = false) (hm : n + 1 ≤ m) (hm2 : ds.length * (n + 1) ≤ m) : Sm m (.list ds) := by
  have t := sm_tup (m := m) h (by rw [hd]; rfl) hm hm2
  exact ⟨by have := t.sh; simpa [PyData.showable] using this, by simp [PyData.hasDict, hd], by have := t.dp; simpa [PyData.depth] using this, by have := t.lv; simpa [PyData.leavesShort] using this, by have := t.bk; simpa [PyData.bulk] using this⟩
end L2
namespace L2
open PySem
theorem bt_dict : bootBuiltins "dict" = some (.type "dict") := by decide +kernel
theorem bt_sum : bootBuiltins "sum" = some (.builtin "sum") := by decide +kernel
theorem bt_sorted : bootBuiltins "sorted" = some (.builtin "sorted") := by decide +kernel
theorem bt_max : bootBuiltins "max" = some (.builtin "max") := by decide +kernel
theorem bt_min : bootBuiltins "min" = some (.builtin "min") := by decide +kernel
end L2
namespace My
open PySem L2 MA
structure Txt2 (mg : Str → Option Value) : Prop extends Txt mg where
  z_str : mg "str" = none
  z_repr : mg "repr" = none
  z_dict : mg "dict" = none
  z_sum : mg "sum" = none
  z_sorted : mg "sorted" = none
  z_max : mg "max" = none
  z_min : mg "min" = none
  z_any : mg "any" = none
  z_enumerate : mg "enumerate" = none
  z_zip : mg "zip" = none
  z_set : mg "set" = none
  z_reversed : mg "reversed" = none
  z_ValueError : mg "ValueError" = none
end My

set_option Elab.async false
set_option linter.all false
set_option maxRecDepth 100000
set_option maxHeartbeats 4000000
namespace L2
open PySem PySem.Spec PyProof.Rows
def notStar : Expr → Bool
  | .Starred _ _ => false
  | _ => true
theorem star_cons {e : Expr} {es : List Expr} {env : Env} (h : notStar e = true) : starEach (e :: es) env = (false, eval e env) :: starEach es env := by
  cases e <;> first | rfl | exact absurd h (by simp [notStar])
section
variable {X : Cx} {e : Expr} {es : List Expr} {te : TE} {t : TA} {pos : Pos}
/-- an item of a row, whose rest may be long -/
theorem pa_consN (ha : PE X e te) (hr : PA X es t) (hn : notStar e = true := by rfl) : PA X (e :: es) (tCons te t) := pa_cons ha hr (star_cons hn)
end
end L2
namespace L2
end L2
namespace L2
end L2

set_option Elab.async false
set_option linter.all false
set_option maxRecDepth 100000
set_option maxHeartbeats 4000000
namespace L2
open PySem PySem.Spec PyProof.Rows
end L2
namespace L2
open PySem PySem.Spec PyProof.Rows
section
variable {X : Cx} {e : Expr} {te : TE} {p2 p3 p4 pos : Pos} {k1 : Nat}
end
end L2

set_option Elab.async false
set_option linter.all false
set_option maxRecDepth 100000
set_option maxHeartbeats 4000000
namespace L2
open PySem PySem.Spec PyProof.Rows MA
/-- a comprehension's names: its own, then the def's that it reads -/
theorem Sees.frees {X : Cx} {scope : Scope} (ks : List Str) (fs : List (Str × Nat)) (h : ∀ p ∈ fs, scope.names.lookup p.1 = some .free ∧ X.N[p.2]? = some p.1) :
    Sees X scope (ks ++ fs.map (·.1)) (fun σ => ks.map (fun _ => none) ++ fs.map fun p => σ.getD p.2 none) := by
  intro σ
  refine ⟨by simp, fun i x v h1 h2 => ?_⟩
  by_cases hi : i < ks.length
  · rw [List.getElem?_append_left (by simpa using hi), List.getElem?_map] at h2
    cases e : ks[i]? with
    | none => rw [e] at h2; cases h2
    | some y => rw [e] at h2; cases h2
  · rw [List.getElem?_append_right (by omega), List.getElem?_map] at h1
    rw [List.getElem?_append_right (by simp; omega), List.getElem?_map, List.length_map] at h2
    cases e : fs[i - ks.length]? with
    | none => rw [e] at h1; cases h1
    | some p =>
      rw [e] at h1 h2
      cases h1
      obtain ⟨a, b⟩ := h p (List.mem_of_getElem? e)
      refine ⟨a, p.2, b, ?_⟩
      have h3 : σ.getD p.2 none = some v := by simpa using h2
      rw [List.getD_eq_getElem?_getD] at h3
      cases z : σ[p.2]? with
      | none => rw [z] at h3; cases h3
      | some u => rw [z] at h3; exact congrArg some h3
/-! ### sums over one common bottom -/
end L2
namespace L2
open PySem
theorem fr_nil {C : Str × Nat → Prop} : ∀ p ∈ ([] : List (Str × Nat)), C p := fun _ h => nomatch h
theorem fr_cons {C : Str × Nat → Prop} {a : Str × Nat} {l : List (Str × Nat)} (h : C a) (t : ∀ p ∈ l, C p) : ∀ p ∈ a :: l, C p := fun p hp => (List.mem_cons.mp hp).elim (fun e => e ▸ h) (t p)
theorem hfr_of {scope : Scope} {env : Env} (h : scope.names.all (fun y => y.2 != .free || env.kindOf y.1 == some .cell || env.kindOf y.1 == some .free) = true) : ∀ y ∈ scope.names, y.2 = .free → env.kindOf y.1 = some .cell ∨ env.kindOf y.1 = some .free := by
  intro y hy hf
  have := List.all_eq_true.mp h y hy
  rw [hf] at this
  simpa using this
end L2

set_option Elab.async false
set_option linter.all false
set_option maxRecDepth 100000
set_option maxHeartbeats 4000000
namespace L2
open PySem PySem.Spec PyProof.Rows
section
variable {X : Cx}
/-- sum(xs), xs a list of ints -/
def rSum (K : PySem.W.Frag) : List V → Hp → VK → Prop := fun xs H Q => ∃ (l : Addr) (ns : List Int), xs = [.ref l] ∧ SqL K H l (ns.map V.int) ∧ Q (.int ns.sum) H
theorem call_sum (hc : X.calm = true) : CallR X (.builtin "sum") (rSum X.K) := by
  intro pins s σ H xs us Q I r h
  obtain ⟨l, ns, rfl, hl, q⟩ := h
  obtain ⟨u, rfl, ru⟩ := vals1 r
  cases ru
  obtain ⟨its, rv, p, hz⟩ := I.list hl
  have hi := intsAre_of rv
  obtain ⟨ys, e⟩ := hi.allInts.items
  have hnum : ns = ys.toList.map (·.1) := by
    have h1 := hi.numsOf
    have h2 := nums_intItems ys
    rw [← e] at h2
    rw [← h1, ← h2]
  refine sum_intListG (I.ok.hd hc) (xs := ys) (by rw [← e]; exact p.isList) fun h' tk t' hk => ?_
  refine ⟨.int ns.sum, H, I.kept (t' := tk) hk, ⟨t', ?_⟩, q⟩
  rw [preSum_eq, List.take_of_length_le (by simp), hnum]
end
end L2
namespace L2
open PySem PySem.Spec PyProof.Rows MA
section
variable {X : Cx}
end
/-- [.. for x in xs], xs a list, no test -/
theorem comp_lst {K : PySem.W.Frag} {a : Addr} {xs : List V} {te : TE} {H : Hp} {R : Addr → Hp → Prop} {fs : St} (Pv : Addr → Nat → List V → Hp → Prop) (hn : xs.length ≤ 100000) (hp0 : ∀ p, H p = none → Pv p 0 [] (upd H p (.lst [])))
    (hl : ∀ p i ys H', H p = none → Pv p i ys H' → H' a = some (.lst xs))
    (hte : ∀ p i ys H' x, H p = none → xs[i]? = some x → ys.length = i → Pv p i ys H' → H' p = some (.lst ys) → ∀ Q' : VK, (∀ v H'', H'' p = some (.lst ys) → Pv p (i + 1) (ys ++ [v]) (upd H'' p (.lst (ys ++ [v]))) → Q' v H'') → te (some x :: fs) H' Q')
    (q : ∀ p ys H', H p = none → Pv p xs.length ys H' → H' p = some (.lst ys) → ys.length = xs.length → R p H') :
    ∀ p, H p = none → ∃ W : Nat → Nat → List V → St → Hp → Prop, (∃ m, W 0 m [] (none :: fs) (upd H p (.lst []))) ∧ ∀ i m ys σ' H', W i m ys σ' H' →
      ((Itl K a).stop i H' ∧ R p H') ∨ ((Itl K a).go i H' ∧ ∀ x H2, (Itl K a).yld i H' x H2 → gName 0 x σ' H2 fun σ2 H3 => tTT σ2 H3 fun b H4 => if b = true then te σ2 H4 fun v H5 => ys.length < sizeLine ∧ H5 p = some (.lst ys) ∧ (∃ m', m' < m ∧ W (i + 1) m' (ys ++ [v]) σ2 (upd H5 p (.lst (ys ++ [v]))))
        else ∃ m', m' < m ∧ W (i + 1) m' ys σ2 H4) := by
  intro p hp
  refine ⟨fun i m ys σ' H' => m = xs.length - i ∧ i ≤ xs.length ∧ ys.length = i ∧ Pv p i ys H' ∧ H' p = some (.lst ys) ∧ ∃ o, σ' = o :: fs, ⟨xs.length, by simp, Nat.zero_le _, rfl, hp0 p hp, upd_same, _, rfl⟩, ?_⟩
  rintro i m ys σ' H' ⟨rfl, hi, hlen, pv, hp', o, rfl⟩
  have hla := hl p i ys H' hp pv
  by_cases hlt : i < xs.length
  · refine .inr ⟨⟨xs, xs[i], SqL.of hla, List.getElem?_eq_getElem hlt⟩, fun x H2 hy => ?_⟩
    obtain ⟨rfl, hx⟩ := hy
    have hx' := hx xs (SqL.of hla)
    change te (some x :: fs) H2 _
    refine hte p i ys H2 x hp hx' hlen pv hp' _ fun v H5 h5 pv5 => ⟨?_, h5, xs.length - (i + 1), by omega, rfl, hlt, by simp [hlen], pv5, upd_same, _, rfl⟩
    rw [hlen, sizeLine_eq]; omega
  · have e : i = xs.length := by omega
    subst e
    exact .inl ⟨⟨xs, SqL.of hla, Nat.le_refl _⟩, q p ys H' hp pv hp' hlen⟩
/-- pairs of ints in the heap -/
def PrAt (H : Hp) (v : V) (p : Int × Int) : Prop := ∃ a, v = .ref a ∧ H a = some (.tup [.int p.1, .int p.2])
def dp (p : Int × Int) : PyData := .tuple [.int p.1, .int p.2]
end L2

set_option Elab.async false
set_option linter.all false
set_option maxRecDepth 100000
set_option maxHeartbeats 4000000
namespace L2
open PySem PySem.Spec PyProof.Rows
section
variable {X : Cx} {e : Expr} {t : TA} {p p3 p4 pos : Pos}
/-- sorted(xs, reverse=b), xs a list of ints -/
def tSortR (b : Bool) (t : TA) : TE := fun σ H Q => t σ H fun vs H1 => ∃ (l : Addr) (ns : List Int), vs = [.ref l] ∧ H1 l = some (.lst (ns.map V.int)) ∧ ns.length < 64 ∧ ∀ (q : Addr) (ms : List Int), H1 q = none → ms.Perm ns → Ordered b ms → Q (.ref q) (upd H1 q (.lst (ms.map V.int)))
theorem pe_sortedR {b : Bool} {kk : _} (hg : Gl X "sorted") (hm : X.mg "sorted" = none) (ha : PA X [e] t)
    (he : backTo pos (starEach [e] X.env) = (false, eval e X.env) :: backTo pos (starEach [] X.env) := by rfl) (hpl : (backTo pos (starEach [e] X.env)).any (·.1) = false := by rfl) :
    PE X (.Call (.Name "sorted" p) [e] [⟨some "reverse", .Constant (.bool b) kk p3, p4⟩] pos) (tSortR b t) := by
  intro pins s σ H Q I h
  refine wpAny_Call_Name_kw (ld_blt I hg hm bt_sorted ?_ (by decide) (by decide))
  refine callWith_kw (thn (ha pos pins s σ H _ I h) fun us s1 ⟨vs, H1, I1, r1, q1⟩ => ?_) he hpl
  obtain ⟨l, ns, rfl, hl, h64, q⟩ := q1
  obtain ⟨u, rfl, ru⟩ := vals1 r1
  cases ru
  show wpAny _ X.A (evalAll [(do let v ← eval (.Constant (.bool b) kk p3) X.env; standAt pos; pure v)]) _ _ s1
  refine wpAny_evalAll_cons (wpAny_bind (Constant_bool (wpAny_bind (wpAny_standAt (wpAny_pure (wpAny_evalAll_nil ?_))))))
  show wpAny _ X.A (call (.builtin "sorted") [.ref l] [(Str.ofString "reverse", .bool b)]) _ _ _
  obtain ⟨its, rv, pl, hz⟩ := I1.list (SqL.of (K := X.K) hl)
  have hlen := rv.length
  rw [List.length_map] at hlen
  refine sorted_ints_rev pl.isList (intsAre_of rv) (by omega) fun out ms a1 a2 a3 => ?_
  obtain ⟨ee, he'⟩ := sortedAll_at s1.heap its out
  have hml : ms.length = ns.length := a2.length_eq
  refine ⟨.ref (s1.heap.objs.size + 1), _, I1.laid (t' := s1.toks) (a := s1.heap.objs.size + 1) (o := .lst (ms.map V.int)) (fun b o q => sortedAll_old q) (Nat.le_succ _) ⟨?_, out.toList, ee, vals_ints a1, ?_⟩, rfl, q _ ms (I1.hok.fresh (Nat.le_succ _)) a2 a3⟩
  · rw [List.length_map, hml, sizeLine_eq]; omega
  · rw [he']
end
end L2
namespace L2
open PySem PySem.Spec PyProof.Rows MA
section
variable {X : Cx}
theorem ix_tup0 : IxR X (fun x y H Q => ∃ p xs i v, x = .ref p ∧ y = .int i ∧ H p = some (.tup xs) ∧ atI xs i = some v ∧ Q v H) := by
  intro value slice pins s σ H x y v u Q I rx ry h hs
  obtain ⟨p, xs, i, w', e1, e2, hp, ha, q⟩ := h
  exact ix_tup value slice pins s σ H x y v u Q I rx ry ⟨p, xs, i, w', e1, e2, SqT.of hp, ha, q⟩ hs
end
end L2
namespace L2
open PySem PySem.Spec PyProof.Rows MA
section
variable {X : Cx}
end
end L2

set_option Elab.async false
set_option linter.all false
set_option maxRecDepth 100000
set_option maxHeartbeats 1000000
namespace L2
open PySem PySem.Spec PyProof.Rows MA
section
variable {X : Cx}
end
end L2

set_option Elab.async false
set_option linter.all false
set_option maxRecDepth 100000
set_option maxHeartbeats 1000000
namespace L2
open PySem PySem.Spec PyProof.Rows
section
variable {X : Cx} {pins : List (Addr × Obj)} {σ : St} {H : Hp} {s : Shared} {h' : Heap} {fp : List Addr}
/-- several records of ours have turned -/
theorem Inv.turnedL {t' : Nat} (I : Inv X pins σ H s) (hf : ∀ b ∈ fp, FpOk X pins H b) (k : ∀ b o, b ∉ fp → s.heap.get? b = some o → h'.get? b = some o) : Inv X pins σ H { s with heap := h', toks := t' } := by
  have nit : ∀ b u, H b = some u → b ∉ fp := fun b u e z => by rw [(hf b z).1] at e; cases e
  have hL : X.env.locals ∉ fp := fun z => (hf _ z).2.1 rfl
  refine I.step (g' := s.gens) (d' := s.drawn) (ch := fp) (fun b hb => ⟨(hf b hb).2.2.2.1, (hf b hb).2.1, (hf b hb).2.2.2.2.1, (hf b hb).2.2.2.2.2⟩) (fun b o _ _ hc e _ => k b o hc e) (fun b o _ _ hc e _ => ⟨o.slots, k b o hc e⟩) (fun _ _ _ _ n => n)
    (fun b o hc e => ⟨o, k b o hc e⟩) (fun _ _ e => e) (fun _ _ _ e => e) (fun b ps e => ⟨#[], by rw [e]; simp⟩) (fun m hm => ?_) (fun b u e => ?_) I.bare
  · obtain ⟨o, es, ep, ho, r⟩ := hm
    exact ⟨o, es, ep, k _ o hL ho, r⟩
  · refine (I.hok b u e).stay (fun c v hc q => k c v ?_ q) (fun _ q => q) fun _ _ q => q
    rcases hc with z | z
    · rw [z]; exact nit b u e
    · exact nit c _ z
/-- .. and a new object is tracked -/
theorem Inv.turnedNew {t' : Nat} {T : Addr} {u : HO} (I : Inv X pins σ H s) (hf : ∀ b ∈ fp, FpOk X pins H b) (k : ∀ b o, b ∉ fp → s.heap.get? b = some o → h'.get? b = some o) (hT : s.heap.objs.size ≤ T) (new : ObjOk X.prog X.w (upd H T u) h' T u) :
    Inv X pins σ (upd H T u) { s with heap := h', toks := t' } := by
  have hn : H T = none := I.hok.fresh hT
  have nit : ∀ b u, H b = some u → b ∉ fp := fun b u e z => by rw [(hf b z).1] at e; cases e
  have hL : X.env.locals ∉ fp := fun z => (hf _ z).2.1 rfl
  have nT : ∀ b o, s.heap.get? b = some o → b ≠ T := fun b o e => Nat.ne_of_lt (Nat.lt_of_lt_of_le (Heap.lt_size e) hT)
  refine I.step (g' := s.gens) (d' := s.drawn) (ch := fp) (fun b hb => ⟨(hf b hb).2.2.2.1, (hf b hb).2.1, (hf b hb).2.2.2.2.1, (hf b hb).2.2.2.2.2⟩) (fun b o _ _ hc e _ => k b o hc e) (fun b o _ _ hc e _ => ⟨o.slots, k b o hc e⟩) (fun b o _ e n => by rw [upd_ne (nT b o e)]; exact n)
    (fun b o hc e => ⟨o, k b o hc e⟩) (fun b xs e => by rw [upd_ne (ne_of_none e hn)]; exact e) (fun b o v e => by rw [upd_ne (ne_of_none e hn)]; exact e) (fun b ps e => ⟨#[], by rw [upd_ne (ne_of_none e hn), e]; simp⟩) (fun m hm => ?_) (fun b v e => ?_) I.bare
  · obtain ⟨o, es, ep, ho, r⟩ := hm
    exact ⟨o, es, ep, k _ o hL ho, r⟩
  · by_cases hb : b = T
    · subst hb; rw [upd_same] at e; cases e; exact new
    · rw [upd_ne hb] at e
      refine (I.hok b v e).stay (fun c v' hc q => k c v' ?_ q) (fun c q => by rw [upd_ne (ne_of_none q hn)]; exact q) (fun c xs q => by rw [upd_ne (ne_of_none q hn)]; exact q) fun c ob q => by rw [upd_ne (ne_of_none q hn)]; exact q
      rcases hc with z | z
      · rw [z]; exact nit b v e
      · exact nit c _ z
end
/-- the pairs of two lists -/
def Itz (K : PySem.W.Frag) (a b : Addr) : It :=
  ⟨fun i H => ∃ xs ys x y, SqL K H a xs ∧ SqL K H b ys ∧ xs[i]? = some x ∧ ys[i]? = some y,
   fun i H v H' => ∃ p x y, v = .ref p ∧ H p = none ∧ H' = upd H p (.tup [x, y]) ∧ ∀ xs ys, SqL K H a xs → SqL K H b ys → xs[i]? = some x ∧ ys[i]? = some y,
   fun i H => ∃ xs ys, SqL K H a xs ∧ SqL K H b ys ∧ (xs.length ≤ i ∨ ys.length ≤ i)⟩
theorem turn_zip {P : Program} {w : World} {K : PySem.W.Frag} {elts : List Expr} {c : Nat} {pos : Pos} {z TI TO i1 i2 a b : Addr} (D : ZipApart z TI TO i1 i2 a b) :
    Turn P w K (.Tuple elts c pos) (Itz K a b) [z, TI, TO, i1, i2] z (fun i h => IsZip h z TI TO .none ∧ IsPair h TI (.ref i1) (.ref i2) ∧ (∃ u v, IsPair h TO u v) ∧ h.IsListIter i1 a i ∧ h.IsListIter i2 b i) where
  mem := by simp
  obj := fun i h st x hx => by
    obtain ⟨hz, hTI, ⟨u, v, hTO⟩, ⟨o1, e1, c1, d1⟩, o2, e2, c2, d2⟩ := st
    simp only [List.mem_cons, List.not_mem_nil, or_false] at hx
    rcases hx with rfl | rfl | rfl | rfl | rfl
    · exact ⟨_, hz, fun _ q => by cases q⟩
    · exact ⟨_, hTI, fun _ q => by cases q⟩
    · exact ⟨_, hTO, fun _ q => by cases q⟩
    · exact ⟨_, e1, fun _ q => by rw [d1] at q; cases q⟩
    · exact ⟨_, e2, fun _ q => by rw [d2] at q; cases q⟩
  keep := fun i h h' st k => by
    obtain ⟨hz, hTI, ⟨u, v, hTO⟩, h1, h2⟩ := st
    exact ⟨k z (by simp) _ hz, k TI (by simp) _ hTI, ⟨u, v, k TO (by simp) _ hTO⟩, h1.at fun o e => k i1 (by simp) o e, h2.at fun o e => k i2 (by simp) o e⟩
  item := by
    intro X hP hw hK hc i pins s σ H E I hf st hg
    subst hP hw hK
    obtain ⟨xs, ys, x, y, hq1, hq2, hx, hy⟩ := hg
    obtain ⟨its1, rv1, p1, _⟩ := I.list hq1
    obtain ⟨its2, rv2, p2, _⟩ := I.list hq2
    obtain ⟨u, hu, ru⟩ := rv1.get hx
    obtain ⟨v, hv, rv⟩ := rv2.get hy
    obtain ⟨hz, hTI, ⟨u0, v0, hTO⟩, h1, h2⟩ := st
    refine wpAny_pyNext_zip_item D hz hTI hTO h1 h2 p1.isList p2.isList (x := u) (y := v) (by simpa using hu) (by simpa using hv) fun h' a1 a2 a3 a4 a5 a6 hk => ⟨_, rfl, ?_⟩
    have lt : ∀ {c o}, s.heap.get? c = some o → s.heap.objs.size ≠ c := fun e => Nat.ne_of_gt (Heap.lt_size e)
    refine wpAny_letOwnedTupleGo_zip (s := { s with heap := h' }) a1 fun h'' b1 sb => ?_
    have hn : H s.heap.objs.size = none := I.hok.fresh (Nat.le_refl _)
    have kk : ∀ c o, c ∉ [z, TI, TO, i1, i2] → s.heap.get? c = some o → h''.get? c = some o := fun c o hc' e => by
      simp only [List.mem_cons, List.not_mem_nil, or_false, not_or] at hc'
      obtain ⟨n1, n2, n3, n4, n5⟩ := hc'
      exact sb.extBut _ _ n1 (hk c o n1 n3 n4 n5 e)
    have T1 : IsPair h'' s.heap.objs.size u v := sb.extBut _ _ (lt hz) a5
    refine ⟨.ref s.heap.objs.size, upd H s.heap.objs.size (.tup [x, y]), I.turnedNew (t' := s.toks) hf kk (Nat.le_refl _) ⟨by show 2 ≤ _; decide, [u, v], .cons ru (.cons rv .nil), _, T1, rfl, _, rfl, rfl⟩, rfl, ⟨_, x, y, rfl, hn, rfl, fun xs' ys' q1 q2 => ?_⟩, ⟨b1, ?_, ⟨_, _, sb.extBut _ _ D.TOz a2⟩, a3.extBut sb.extBut D.i1z, a4.extBut sb.extBut D.i2z⟩, fun b hb => ?_⟩
    · rw [I.list_inj q1 hq1, I.list_inj q2 hq2]; exact ⟨hx, hy⟩
    · exact sb.extBut _ _ D.TIz (hk _ _ D.TIz D.TITO D.TIi1 D.TIi2 hTI)
    · rw [upd_ne]
      · exact (hf b hb).1
      · simp only [List.mem_cons, List.not_mem_nil, or_false] at hb
        obtain ⟨o1, e1, _, _⟩ := h1
        obtain ⟨o2, e2, _, _⟩ := h2
        rcases hb with rfl | rfl | rfl | rfl | rfl
        · exact (lt hz).symm
        · exact (lt hTI).symm
        · exact (lt hTO).symm
        · exact (lt e1).symm
        · exact (lt e2).symm
  done := by
    intro X hP hw hK hc i pins s σ H E I hf st hg
    subst hP hw hK
    obtain ⟨xs, ys, hq1, hq2, hx⟩ := hg
    obtain ⟨its1, rv1, p1, _⟩ := I.list hq1
    obtain ⟨its2, rv2, p2, _⟩ := I.list hq2
    have l1 := rv1.length
    have l2 := rv2.length
    obtain ⟨hz, hTI, ⟨u0, v0, hTO⟩, h1, h2⟩ := st
    refine wpAny_pyNext_zip_end (I.ok.hd hc) D hz hTI hTO h1 h2 p1.isList p2.isList (by simp; omega) fun h' hk => ⟨rfl, I.turnedL (t' := s.toks) hf fun c o hc' e => ?_⟩
    simp only [List.mem_cons, List.not_mem_nil, or_false, not_or] at hc'
    obtain ⟨n1, n2, n3, n4, n5⟩ := hc'
    exact hk c o n1 n3 n4 n5 e
  self := fun _ _ _ _ _ st h => wpAny_pyIter_zip st.1 h
def iZip (K : PySem.W.Frag) (ta : TA) : TI := fun σ H R => ta σ H fun vs H1 => ∃ a b, vs = [.ref a, .ref b] ∧ (∃ xs, SqL K H1 a xs) ∧ (∃ ys, SqL K H1 b ys) ∧ R (Itz K a b) H1
theorem zip_apart {n a b : Nat} (ha : a < n) (hb : b < n) : ZipApart (n + 4) (n + 2) (n + 3) n (n + 1) a b := by
  constructor <;> (show ¬ ((_ : Nat) = _)) <;> omega
theorem boot_zip : bootBuiltins "zip" = some (.type "zip") := by decide +kernel
theorem pi_zip {X : Cx} {elts : List Expr} {c : Nat} {tpos : Pos} {a b : Expr} {ta : TA} {p pos : Pos} (hg : Gl X "zip") (hm : X.mg "zip" = none) (ha : PA X [a, b] ta) (hs : starEach [a, b] X.env = [(false, eval a X.env), (false, eval b X.env)] := by rfl) (hs2 : starEach [b] X.env = [(false, eval b X.env)] := by rfl) :
    PI X (.Tuple elts c tpos) (.Call (.Name "zip" p) [a, b] [] pos) (iZip X.K ta) := by
  intro pins s σ H R I h
  refine Call_ (ld_blt I hg hm boot_zip (PyProof.Rows.callWith_type1 (thn (ha pos pins s σ H _ I h) fun us s1 ⟨vs, H1, I1, r1, q1⟩ => ?_) (by rw [hs, hs2]) (by rw [hs2]; rfl)))
  obtain ⟨a, b, e, ⟨xs, hq1⟩, ⟨ys, hq2⟩, q⟩ := q1
  subst e
  cases r1 with
  | cons r rr =>
    cases rr with
    | cons r' rr =>
      cases rr
      cases r
      cases r'
      obtain ⟨its1, rv1, p1, _⟩ := I1.list hq1
      obtain ⟨its2, rv2, p2, _⟩ := I1.list hq2
      have la : a < s1.heap.objs.size := by obtain ⟨o, n, e, _⟩ := p1; exact Heap.lt_size e
      have lb : b < s1.heap.objs.size := by obtain ⟨o, n, e, _⟩ := p2; exact Heap.lt_size e
      refine call_zip_2 p1.isList p2.isList fun h' a1 a2 a3 a4 a5 a6 hk => wpAny_pyIter_zip a1 ?_
      have D : ZipApart (s1.heap.objs.size + 4) (s1.heap.objs.size + 2) (s1.heap.objs.size + 3) s1.heap.objs.size (s1.heap.objs.size + 1) a b := zip_apart la lb
      refine ⟨_, _, _, _, H1, rfl, I1.kept (t' := s1.toks) hk, turn_zip D, ⟨a1, a2, ⟨_, _, a3⟩, a4, a5⟩, fun x hx => ?_, q⟩
      have hx' : s1.heap.objs.size ≤ x := by
        simp only [List.mem_cons, List.not_mem_nil, or_false] at hx
        rcases hx with rfl | rfl | rfl | rfl | rfl <;> (show (_ : Nat) ≤ (_ : Nat)) <;> omega
      exact I1.fpOk hx' (I1.hok.fresh hx')
end L2

set_option Elab.async false
set_option linter.all false
set_option maxRecDepth 100000
set_option maxHeartbeats 1000000
namespace My
open PySem L2 MA
/-! a pen that is a list: its cells, where it stands, what is left -/
end My

set_option Elab.async false
set_option linter.all false
set_option maxRecDepth 100000
set_option maxHeartbeats 1000000
namespace L2
open PySem PySem.Spec PyProof.Rows
def gTup0 (n : Nat) (t : TGs) : TG := fun v σ H Q => ∃ a xs, v = .ref a ∧ H a = some (.tup xs) ∧ xs.length = n ∧ t xs σ H Q
theorem pg_tup0 {X : Cx} {pos : Pos} {es : List Expr} {k : Nat} {t : TGs} {n : Nat} (hc : X.calm = true) (h : PGs X es t)
    (hn : (assignEach es X.env).length = n := by rfl) (hst : (assignEach es X.env).findIdx? (·.1) = none := by rfl) : PG X (.Tuple es k pos) (gTup0 n t) := by
  intro pins s σ H v u Q I r hw
  obtain ⟨a, xs, e1, hq, hl, hw⟩ := hw
  exact pg_tup hc h hn hst pins s σ H v u Q I r ⟨a, xs, e1, SqT.of hq, hl, hw⟩
end L2
namespace My
open PySem L2 MA
end My

set_option Elab.async false
set_option linter.all false
set_option maxRecDepth 100000
set_option maxHeartbeats 4000000
namespace L2
open PySem PySem.Spec PyProof.Rows
section
variable {prog : Program} {w : World} {A : Around} {E : Value → Shared → Prop} {s : Shared}
end
/-- a list (true) or a tuple (false) -/
def IsB (h : Heap) : Bool → Addr → Array Value → Prop
  | true => h.IsList
  | false => h.IsTuple
def IterB (h : Heap) : Bool → Addr → Addr → Nat → Prop
  | true => h.IsListIter
  | false => h.IsTupleIter
def SqB (K : PySem.W.Frag) (H : Hp) : Bool → Addr → List V → Prop
  | true => SqL K H
  | false => SqT K H
theorem IsB.at {h h' : Heap} {b : Bool} {a : Addr} {its : Array Value} (x : IsB h b a its) (k : ∀ o, h.get? a = some o → h'.get? a = some o) : IsB h' b a its := by
  cases b <;> (obtain ⟨o, e, r⟩ := x; exact ⟨o, k o e, r⟩)
theorem IsB.lt {h : Heap} {b : Bool} {a : Addr} {its : Array Value} (x : IsB h b a its) : a < h.objs.size := by
  cases b <;> (obtain ⟨o, e, _⟩ := x; exact Heap.lt_size e)
section
variable {X : Cx} {pins : List (Addr × Obj)} {σ : St} {H : Hp} {s : Shared} {a : Addr} {xs ys : List V} {b : Bool}
theorem Inv.seqB (I : Inv X pins σ H s) (h : SqB X.K H b a xs) : ∃ its : List Value, Vals xs its ∧ IsB s.heap b a its.toArray ∧ xs.length ≤ sizeLine := by
  cases b with
  | true => obtain ⟨its, r, p, z⟩ := I.list h; exact ⟨its, r, p.isList, z⟩
  | false => obtain ⟨its, r, p, z⟩ := I.tuple h; exact ⟨its, r, p, z⟩
end
end L2

set_option Elab.async false
set_option linter.all false
set_option maxRecDepth 100000
set_option maxHeartbeats 4000000
namespace L2
open PySem PySem.Spec PyProof.Rows
section
variable {prog : Program} {w : World} {A : Around} {E : Value → Shared → Prop} {s : Shared}
def itc : Bool → String
  | true => "list_iterator"
  | false => "tuple_iterator"
theorem pyIterB {b : Bool} {l : Addr} {its : Array Value} {Q : Value → Shared → Prop} (hl : IsB s.heap b l its)
    (hQ : Q (.ref s.heap.objs.size) { s with heap := s.heap.push { cls := .type (itc b), data := .fields #[.ref l, .int 0 0] } }) : wpAny (model prog w) A (pyIter (.ref l)) Q E s := by
  cases b with
  | true => exact wpAny_pyIter_list hl hQ
  | false => exact wpAny_pyIter_tuple hl hQ
end
end L2

set_option Elab.async false
set_option linter.all false
set_option maxRecDepth 100000
set_option maxHeartbeats 4000000
namespace L2
open PySem PySem.Spec PyProof.Rows
end L2
namespace L2
open PySem PySem.Spec PyProof.Rows
section
variable {prog : Program} {w : World} {A : Around} {E : Value → Shared → Prop} {s : Shared}
end
end L2

set_option Elab.async false
set_option linter.all false
set_option maxRecDepth 100000
set_option maxHeartbeats 4000000
namespace L2
open PySem PySem.Spec PyProof.Rows
theorem walksB {prog : Program} {w : World} {A : Around} (hh : A.handled = none) (b : Bool) (I l : Addr) (hne : l ≠ I) (its : Array Value) :
    Walks prog w A I [I, l] [I] its.size (fun i v => its[i]? = some v) (fun i h => IterB h b I l i ∧ IsB h b l its) := by
  cases b with
  | true => exact Walks.list hh I l hne its
  | false => exact Walks.tuple hh I l hne its
theorem argBest_lt (f : Nat → Int) (n : Nat) : argBest (fun i j => decide (f i < f j)) n ≤ n ∧ ∀ j, j ≤ n → f (argBest (fun i j => decide (f i < f j)) n) ≤ f j := by
  have e : (fun i j : Nat => decide (f i < f j)) = fun i j => decide (-(f i) > -(f j)) := by
    funext i j
    rw [decide_eq_decide]
    omega
  rw [e]
  have := argBest_gt (fun i => -(f i)) n
  exact ⟨this.1, fun j hj => by have := this.2 j hj; omega⟩
section
variable {X : Cx}
theorem bestB (up : Bool) {pins : List (Addr × Obj)} {s : Shared} {σ : St} {H : Hp} {b : Bool} {l : Addr} {ns : List Int} {Q : VK} (hc : X.calm = true) (I : Inv X pins σ H s) (hl : SqB X.K H b l (ns.map V.int)) (hne : ns ≠ [])
    (q : ∀ M, M ∈ ns → (∀ a ∈ ns, if up = true then a ≤ M else M ≤ a) → Q (.int M) H) : wpAny (model X.prog X.w) X.A (call (.builtin (if up = true then "max" else "min")) [.ref l]) (EP X pins σ Q) X.xe s := by
  obtain ⟨its, rv, p, hz⟩ := I.seqB hl
  have hi := intsAre_of rv
  obtain ⟨ys, e⟩ := hi.allInts.items
  have hnum : ns = ys.toList.map (·.1) := by
    have h1 := hi.numsOf
    have h2 := nums_intItems ys
    rw [← e] at h2
    rw [← h1, ← h2]
  have hsz : 0 < ys.size := by
    have : 0 < ns.length := List.length_pos_iff.mpr hne
    rw [hnum] at this
    simpa using this
  have hlt := p.lt
  have hh : X.A.in1.handled = none := I.ok.hd hc
  rw [e] at p
  have st0 : IterB (s.heap.push { cls := .type (itc b), data := .fields #[.ref l, .int 0 0] }) b s.heap.objs.size l 0 := by cases b <;> exact ⟨_, Heap.get?_push_size _ rfl, rfl, rfl⟩
  have fp0 : ∀ c ∈ [s.heap.objs.size, l], c < (s.heap.push { cls := .type (itc b), data := .fields #[.ref l, .int 0 0] }).objs.size := fun c hc' => by
    rw [Heap.size_push]
    simp only [List.mem_cons, List.not_mem_nil, or_false] at hc'
    rcases hc' with rfl | rfl
    · exact Nat.lt_succ_self _
    · exact Nat.lt_succ_of_lt hlt
  have fin : ∀ (k : Nat) (v : Value) (h' : Heap) (tk : Nat), k ≤ ys.size - 1 → (intItems ys)[k]? = some v → (∀ a ∈ ns, if up = true then a ≤ numAt ys k else numAt ys k ≤ a) →
      (∀ c o, c ∉ [s.heap.objs.size] → (s.heap.push { cls := .type (itc b), data := .fields #[.ref l, .int 0 0] }).get? c = some o → h'.get? c = some o) → EP X pins σ Q v { s with heap := h', toks := tk } := fun k v h' tk hk hv ha kk => by
    obtain ⟨t, rfl⟩ := intItems_at hv
    refine ⟨.int (numAt ys k), H, I.kept (t' := tk) fun c o eo => kk c o ?_ (Heap.get?_push_of_some _ eo), ⟨t, rfl⟩, q _ ?_ ha⟩
    · intro z
      have : c = s.heap.objs.size := by simpa using z
      subst this
      exact Nat.lt_irrefl _ (Heap.lt_size eo)
    · rw [numAt_eq, hnum]; exact getD_mem (by rw [List.length_map, Array.length_toList]; omega)
  cases up with
  | true =>
    refine call_max_walk (pyIterB p ⟨_, _, _, _, _, _, _, rfl, walksB hh b _ l (Nat.ne_of_lt hlt) (intItems ys), ⟨st0, p.at fun o eo => Heap.get?_push_of_some _ eo⟩, fp0, by simpa [intItems] using hsz, CmpOf.ints_gt (numAt ys) (fun _ _ => intItems_at), fun v h' tk hv kk => ?_⟩)
    obtain ⟨h1, h2⟩ := argBest_gt (numAt ys) (ys.size - 1)
    have es : (intItems ys).size = ys.size := by simp [intItems]
    rw [es] at hv
    refine fin _ v h' tk h1 hv (fun a ha => ?_) kk
    rw [if_pos rfl]
    rw [hnum] at ha
    obtain ⟨j, hj, rfl⟩ := mem_getD ha
    rw [List.length_map, Array.length_toList] at hj
    rw [← numAt_eq]; exact h2 j (by omega)
  | false =>
    refine call_min_walk (pyIterB p ⟨_, _, _, _, _, _, _, rfl, walksB hh b _ l (Nat.ne_of_lt hlt) (intItems ys), ⟨st0, p.at fun o eo => Heap.get?_push_of_some _ eo⟩, fp0, by simpa [intItems] using hsz, CmpOf.ints_lt (numAt ys) (fun _ _ => intItems_at), fun v h' tk hv kk => ?_⟩)
    obtain ⟨h1, h2⟩ := argBest_lt (numAt ys) (ys.size - 1)
    have es : (intItems ys).size = ys.size := by simp [intItems]
    rw [es] at hv
    refine fin _ v h' tk h1 hv (fun a ha => ?_) kk
    rw [if_neg (by decide)]
    rw [hnum] at ha
    obtain ⟨j, hj, rfl⟩ := mem_getD ha
    rw [List.length_map, Array.length_toList] at hj
    rw [← numAt_eq]; exact h2 j (by omega)
/-- max(xs), min(xs): a list or a tuple of ints, not empty; the heap named alone -/
def rMaxB (K : PySem.W.Frag) (b : Bool) : List V → Hp → VK → Prop := fun xs H Q => ∃ (l : Addr) (ns : List Int), xs = [.ref l] ∧ SqB K H b l (ns.map V.int) ∧ ns ≠ [] ∧ ∀ M, M ∈ ns → (∀ a ∈ ns, a ≤ M) → Q (.int M) H
def rMinB (K : PySem.W.Frag) (b : Bool) : List V → Hp → VK → Prop := fun xs H Q => ∃ (l : Addr) (ns : List Int), xs = [.ref l] ∧ SqB K H b l (ns.map V.int) ∧ ns ≠ [] ∧ ∀ M, M ∈ ns → (∀ a ∈ ns, M ≤ a) → Q (.int M) H
theorem call_maxB (b : Bool) (hc : X.calm = true) : CallR X (.builtin "max") (rMaxB X.K b) := by
  intro pins s σ H xs us Q I r h
  obtain ⟨l, ns, rfl, hl, hne, q⟩ := h
  obtain ⟨u, rfl, ru⟩ := vals1 r
  cases ru
  exact bestB true hc I hl hne fun M h1 h2 => q M h1 fun a ha => by simpa using h2 a ha
theorem call_minB (b : Bool) (hc : X.calm = true) : CallR X (.builtin "min") (rMinB X.K b) := by
  intro pins s σ H xs us Q I r h
  obtain ⟨l, ns, rfl, hl, hne, q⟩ := h
  obtain ⟨u, rfl, ru⟩ := vals1 r
  cases ru
  exact bestB false hc I hl hne fun M h1 h2 => q M h1 fun a ha => by simpa using h2 a ha
end
end L2

set_option Elab.async false
set_option linter.all false
set_option maxRecDepth 100000
set_option maxHeartbeats 1000000
namespace L2
open PySem PySem.Spec PyProof.Rows MA
/-! ### ints in a row -/
abbrev iv (ns : List Int) : List V := ns.map V.int
theorem iv_get {ns : List Int} {i : Nat} (h : i < ns.length) : (iv ns)[i]? = some (.int ns[i]) := by rw [List.getElem?_map, List.getElem?_eq_getElem h]; rfl
theorem iv_atI {ns : List Int} {i : Nat} (h : i < ns.length) : atI (iv ns) (i : Int) = some (.int (ns.getD i 0)) := by
  rw [atI_nat (iv_get h), getD_of h]
section
variable {X : Cx}
end
theorem data_ints (H : Hp) : ∀ ns : List Int, DataL H (iv ns) (ns.map PyData.int)
  | [] => .nil
  | n :: ns => .cons (.int n) (data_ints H ns)
theorem noDict_ints : ∀ ns : List Int, PyData.hasDictAll (ns.map PyData.int) = false
  | [] => rfl
  | n :: ns => by simp [PyData.hasDictAll, PyData.hasDict, noDict_ints ns]
theorem sm_ints {ns : List Int} {m : Nat} (h : ∀ x ∈ ns, I36 x) (hm : 2 ≤ m) (hm2 : ns.length * 2 ≤ m) : Sm m (.tuple (ns.map PyData.int)) :=
  sm_tup (n := 1) (fun d hd => by obtain ⟨x, hx, rfl⟩ := List.mem_map.mp hd; exact sm_int36 (h x hx) 1) (by rw [noDict_ints]; rfl) hm (by rw [List.length_map]; exact hm2)
theorem depth_ints : ∀ ns : List Int, PyData.depthAll (ns.map PyData.int) = 0
  | [] => rfl
  | n :: ns => by simp [PyData.depthAll, PyData.depth, depth_ints ns]
end L2
namespace My
open PySem L2 MA
theorem lz {m : Nat} (n : Nat) (h : m = n) (hn : n ≤ 100 := by decide) : m ≤ sizeLine := by
  rw [h, sizeLine_eq]; omega
theorem lzz {m : Nat} (h : m ≤ 10000) : m ≤ sizeLine := by rw [sizeLine_eq]; omega
theorem penX_upd {H H2 : Hp} {p acc : Addr} {n m : Nat} (hn : H acc = none) (hp : Pen H p n) (x : SameX p H H2) (hp2 : Pen H2 p m) (o : HO) : Pen (upd H2 acc o) p m ∧ SameX p H (upd H2 acc o) := by
  obtain ⟨c, ns, a, l, h1, h2, _, _⟩ := hp
  obtain ⟨c', ns', a', l', h1', h2', h3', h4'⟩ := hp2
  have hap : p ≠ acc := ne_of_none h1 hn
  have hac : c ≠ acc := ne_of_none h2 hn
  obtain ⟨a'', l'', e⟩ := x.pen c a l h1
  rw [h1'] at e
  have ec : c' = c := by
    have e' := congrArg (fun o => match o with | some (HO.dK ((_, V.ref q) :: _)) => q | _ => c) e
    exact e'
  subst ec
  refine ⟨⟨c', ns', a', l', by rw [upd_ne hap]; exact h1', by rw [upd_ne hac]; exact h2', h3', h4'⟩, ⟨fun b u hb hbp => ?_, fun c2 a2 l2 e2 => ?_⟩⟩
  · rw [upd_ne (ne_of_none hb hn)]; exact x.all b u hb hbp
  · rw [upd_ne hap]; exact x.pen c2 a2 l2 e2
/-- what isn't the pen stays beside draws -/
theorem Pen.nep {H : Hp} {p b : Addr} {n : Nat} {o : HO} (hp : Pen H p n) (hb : H b = some o) (ho : ∀ kvs, o ≠ .dK kvs := by intro _ z; cases z) : b ≠ p := by
  obtain ⟨kvs, e⟩ := hp.dk
  rintro rfl
  rw [hb] at e
  cases e
  exact ho _ rfl
theorem Pen.keep {H H' : Hp} {p b : Addr} {n : Nat} {o : HO} (hp : Pen H p n) (x : SameX p H H') (hb : H b = some o) (ho : ∀ kvs, o ≠ .dK kvs := by intro _ z; cases z) : H' b = some o := x.all b o hb (hp.nep hb ho)
end My

set_option Elab.async false
set_option linter.all false
set_option maxRecDepth 100000
set_option maxHeartbeats 1000000
namespace L2
open PySem PySem.Spec PyProof.Rows MA
def hoB : Bool → List V → HO
  | true, xs => .lst xs
  | false, xs => .tup xs
theorem SqB.of {K : PySem.W.Frag} {H : Hp} {b : Bool} {a : Addr} {xs : List V} (h : H a = some (hoB b xs)) : SqB K H b a xs := by
  cases b
  · exact SqT.of h
  · exact SqL.of h
end L2
namespace HT
open PySem PySem.Spec PyProof.Rows
section
variable {prog : Program} {w : World} {A : Around} {E : Value → Shared → Prop} {s : Shared}
theorem getItem_tuple_all {t sl : Addr} {items : Array Value} {vl vu : Value} {lo hi : Option Int} {Q : Value → Shared → Prop} (ht : IsTup s.heap t items) (hs : s.heap.IsSliceOf sl vl vu .none) (pl : IsPart vl lo) (pu : IsPart vu hi)
    (hw : sIx items.size 0 lo = 0 ∧ sIx items.size items.size hi = items.size) (h : Q (.ref t) s) : wpAny (model prog w) A (getItem (.ref t) (.ref sl)) Q E s := by
  obtain ⟨os, q1, q2, q3⟩ := id hs
  have T : s.TypeIs (.ref sl) "slice" := ⟨os, q1, q2⟩
  unfold getItem
  try with_reducible refine wpAny_holding ?_
  first | refine wpAny_bind (wpAny_pure ?_) | skip
  refine wpAny_bind (wpAny_sequenceKey ht.typeIs (by decide) (wpAny_bind (wpAny_callSpecial?_slot (name := Str.ofString "__getitem__") ht.typeIs PyProof.Rows.slot_tuple_getitem (wpAny_call_entry PyProof.Rows.slot_tuple_getitem ht.typeIs entry_tuple_getitem ?_ (args_tuple_getitem _ _)))))
  refine wpAny_bind (m := Builtin.Tuple.tupleItemsOf (.ref t)) (tupleItemsOf_ ht (wpAny_bind (wpAny_typeOf T ?_)))
  rw [if_pos (by decide)]
  refine wpAny_bind (sliceApplied_gen hs pl pu ?_)
  show wpAny (model prog w) _ (if (((sIx items.size 0 lo : Nat) : Int) == 0 && (1 : Int) == 1 && (sIx items.size items.size hi - sIx items.size 0 lo) == items.size) = true then _ else _) _ _ s
  rw [if_pos (by rw [hw.1, hw.2]; simp)]
  refine wpAny_bind (m := Builtin.Tuple.tupleIsExact (.ref t)) ?_
  unfold Builtin.Tuple.tupleIsExact
  refine wpAny_bind (wpAny_typeOf ht.typeIs (wpAny_pure ?_))
  rw [if_pos (by decide)]
  exact wpAny_bind (wpAny_rule (wpAny_pure ⟨_, rfl, wpAny_pure h⟩))
end
end HT
namespace L2
open PySem PySem.Spec PyProof.Rows MA
/-- t[lo:hi], whatever it is of t -/
theorem sl_tupS {X : Cx} : SlR X (fun x lo hi H Q => ∃ a xs, x = .ref a ∧ H a = some (.tup xs) ∧ ∀ c H', Same H H' → H' c = some (.tup (cutV xs lo hi)) → Q (.ref c) H') := by
  intro pins s σ H x v vl vu lo hi sl Q I rx hs pl pu h
  obtain ⟨a, xs, e, hx, q⟩ := h
  by_cases hw : HT.sIx xs.length 0 lo = 0 ∧ HT.sIx xs.length xs.length hi = xs.length
  · subst e
    cases rx
    obtain ⟨its, r, ht, hz⟩ := I.tuple (SqT.of (K := X.K) hx)
    have hlen : its.toArray.size = xs.length := by rw [List.size_toArray]; exact r.length.symm
    refine ⟨"tuple", _, PyProof.Rows.slot_tuple_getitem.lookup, ht.typeIs, HT.getItem_tuple_all ht hs pl pu (by rw [hlen]; exact hw) ⟨.ref a, H, I, rfl, q a H (Same.refl _) ?_⟩⟩
    have : cutV xs lo hi = xs := by
      unfold cutV
      rw [hw.1, hw.2]
      simp
    rw [this]
    exact hx
  · exact sl_tup pins s σ H x v vl vu lo hi sl Q I rx hs pl pu ⟨a, xs, e, SqT.of hx, hw, fun p hp => q p _ (same_new hp _) upd_same⟩
section
variable {X : Cx} {e : Expr} {te : TE} {p2 p3 p4 pos : Pos}
theorem rep1 (x : Int) : ∀ k : Nat, (List.replicate k [V.int x]).flatten = iv (List.replicate k x)
  | 0 => rfl
  | k + 1 => by rw [List.replicate_succ, List.flatten_cons, rep1 x k, List.replicate_succ]; rfl
end
end L2
namespace L2
open PySem PySem.Spec PyProof.Rows MA
/-! ### data that lies in tuples and in what is new since H -/
end L2

set_option Elab.async false
set_option linter.all false
set_option maxRecDepth 100000
set_option maxHeartbeats 4000000
namespace L2
open PySem PySem.Spec PyProof.Rows
/-! ### comprehensions of two clauses: the block's body is any action on the new list -/
end L2

set_option Elab.async false
set_option linter.all false
set_option maxRecDepth 100000
set_option maxHeartbeats 1000000
namespace L2
open PySem PySem.Spec PyProof.Rows MA
/-! ### set(list of ints), len of a set, list(range(n)) -/
section
variable {X : Cx}
end
/-! ### readings of a clause's walk -/
/-! ### a tuple, a list walked inside a comprehension: no K -/
section
variable {X : Cx} {o e : Expr} {es : List Expr} {to : TE} {t : TA} {name : Str} {apos cpos : Pos} {id : String} {r : V → List V → Hp → VK → Prop}
end
end L2

set_option Elab.async false
set_option linter.all false
set_option maxRecDepth 100000
set_option maxHeartbeats 1000000
namespace L2
open PySem PySem.Spec PyProof.Rows MA SeqAt
/-! ### a text and a dict are not the same -/
section
variable {X : Cx}
end
end L2

set_option Elab.async false
set_option linter.all false
set_option maxRecDepth 100000
set_option maxHeartbeats 1000000
namespace PySem
open Sem (wp)
theorem list_has_no_keys : typeLookup (.type "list") "keys" = pure none := by rw [typeLookup_type, builtinLookup_eq_fast]; kernel_rfl
theorem no_keys_list {prog : Program} {w : World} {A : Around} {E : Value → Shared → Prop} {s : Shared} {a : Addr} {o : Obj} {xs : Array Value} {k : Nat} {Q : Option Value → Shared → Prop}
    (hx : s.heap.get? a = some o) (hc : o.cls = .type "list") (hdat : o.data = .seq xs k) (hd : o.dict = none) (hA : A.handled = none)
    (h : ∀ h' tk, (∀ b u, s.heap.get? b = some u → h'.get? b = some u) → Q none { s with heap := h', toks := tk }) :
    wpAny (model prog w) A (getAttr? (.ref a) "keys") Q E s := by
  have hmiss := list_has_no_keys
  obtain ⟨c, dct, dat, sl⟩ := o
  simp only at hc hdat hd
  subst hc hdat hd
  obtain ⟨hp, g, d, tk, os⟩ := s
  have hT : ∀ tk', (⟨hp, g, d, tk', os⟩ : Shared).TypeIs (.ref a) "list" := fun _ => ⟨_, hx, rfl⟩
  have f1 := sub_AttributeError
  have f3 := F.slot_list_getattribute.lookup
  have f4 := F.slot_list_getattribute.bind (.ref a)
  have f5 := am_list_getattr_none
  unfold getAttr? getAttrBy? getAttrBy
  repeat (any_goals (first | assumption | exact hT _ | ((with_reducible show wpAny _ _ (call (Value.builtin "list.__getattribute__") _ _) _ _ _); refine call_meets F.slot_list_getattribute (hT _) am_entry_list_getattribute (F.args_list_getattribute_2 _ _) (meets_getattribute_miss_list a xs k sl "keys" _ hmiss (by decide) (by size_fits)) ⟨hx, hA, fun h' tk' e hx' => ?_⟩) | wp_step))
  obtain ⟨t', u', he⟩ := hx'.there
  have hTe : (⟨h', g, d, tk', os⟩ : Shared).TypeIs (.ref e) "AttributeError" := ⟨_, he, rfl⟩
  show wpAny _ _ (getattributeRaised _ _ _ _ _ _ _) _ _ _
  unfold getattributeRaised
  repeat (any_goals (first | assumption | wp_step))
  exact h _ _ hx'.keeps
namespace F
theorem entry_dict_update_loop : entryFor table "dict.update.loop" = some Builtin.«dict.update.loop» := entryFor_of_tree (by kernel_rfl)
theorem plain_dict_update_loop : plainId "dict.update.loop" = true := by decide +kernel
end F
section
variable {prog : Program} {w : World} {K : Type} [DecidableEq K] {knd : KeyKind prog w K} {A : Around} {R : Result → Shared → Prop}
end
end PySem
namespace L2
open PySem PySem.Spec PyProof.Rows MA
section
variable {X : Cx}
end
end L2

set_option Elab.async false
set_option linter.all false
set_option maxRecDepth 100000
set_option maxHeartbeats 4000000
namespace L2
open PySem PySem.Spec PyProof.Rows
/-! ### dict comprehensions of one clause -/
end L2

set_option Elab.async false
set_option linter.all false
set_option maxRecDepth 100000
set_option maxHeartbeats 1000000
namespace L2
open PySem PySem.Spec PyProof.Rows
/-! ### for k, v in d.items(): the dict is frozen from then on -/
end L2

set_option Elab.async false
set_option linter.all false
set_option maxRecDepth 100000
set_option maxHeartbeats 4000000
/-! ### isinstance of an own exception -/
namespace L2
open PySem PySem.Builtin PySem.Builtin.ObjectAttr PySem.Spec PyProof.Rows
section
variable {K : PySem.W.Frag} {e C : Addr} {h : Heap} {M : Model}
end
section
variable {prog : Program} {w : World} {A : Around} {E : Value → Shared → Prop} {s : Shared} {K : PySem.W.Frag} {e C : Addr}
end
end L2

set_option Elab.async false
set_option linter.all false
set_option maxRecDepth 100000
set_option maxHeartbeats 4000000
/-! ### own exceptions -/
namespace L2
open PySem PySem.Spec PyProof.Rows
section
variable {X : Cx} {pins : List (Addr × Obj)} {σ : St} {H H' : Hp} {s s' : Shared}
end
/-! ### raise -/
section
variable {P : Program} {w : World} {K : PySem.W.Frag} {mg : Str → Option Value} {base : Heap} {N : List Str} {qual : Str} {scope : Scope} {f : Addr} {cd : Value} {A : Around} {outer : List Env} {s : Shared} {H : Hp} {E : XK}
end
section
variable {P : Program} {w : World} {K : PySem.W.Frag} {mg : Str → Option Value} {base : Heap} {x : Str} {ps : List Str} {k : Nat} {sp : Sp}
end
end L2

set_option Elab.async false
set_option linter.all false
set_option maxRecDepth 100000
set_option maxHeartbeats 4000000
/-! ### try .. except -/
namespace L2
open PySem PySem.Spec PyProof.Rows
section
variable {P : Program} {w : World} {outer : List Env} {H H' : Hp} {s s' : Shared} {x C : Addr} {B : Heap} {a0 : Value}
end
section
variable {X : Cx} {pins : List (Addr × Obj)} {σ : St} {H H' : Hp} {s s' : Shared} {x C : Addr} {B : Heap} {a0 : Value}
end
/-! ### what may raise: an expression, a statement -/
section
variable {X : Cx}
end
/-! ### the statement -/
end L2

set_option Elab.async false
set_option linter.all false
set_option maxRecDepth 100000
set_option maxHeartbeats 4000000
/-! ### lambdas -/
namespace L2
open PySem PySem.Spec PyProof.Rows
section
variable {cs : List Addr} {H H' H2 : Hp} {h h' : Heap} {b : Addr}
variable {P : Program} {w : World} {fs : List Addr}
end
end L2

set_option Elab.async false
set_option linter.all false
set_option maxRecDepth 100000
set_option maxHeartbeats 4000000
/-! ### a lambda without arguments, handed to a def that calls it -/
namespace L2
open PySem PySem.Spec PyProof.Rows
section
variable {P : Program} {w : World} {K : PySem.W.Frag} {mg : Str → Option Value} {base : Heap} {N : List Str} {qual : Str} {scope : Scope} {cl : List (Str × Addr)} {f c' : Addr} {cd : Value}
end
/-! ### the lambda is made -/
section
variable {X : Cx} {pins : List (Addr × Obj)} {σ : St} {H : Hp} {s : Shared} {c P : Addr} {q : Str} {params : Arguments} {body : Expr} {scope : Scope} {pos : Pos} {cl : List (Str × Addr)}
end
end L2

set_option Elab.async false
set_option linter.all false
set_option maxRecDepth 100000
set_option maxHeartbeats 4000000
namespace L2
open PySem PySem.Spec PyProof.Rows
/-! ### the closure is called, within a try -/
/-! ### isinstance(x, c): c by its name -/
end L2

set_option Elab.async false
set_option linter.all false
set_option maxRecDepth 100000
set_option maxHeartbeats 4000000
/-! ### the head of a law one of whose defs makes lambdas -/
namespace L2
open PySem PySem.Spec PyProof.Rows
end L2
namespace L2
end L2

set_option Elab.async false
set_option linter.all false
set_option maxRecDepth 100000
set_option maxHeartbeats 4000000
namespace My
open PySem L2 MA
end My
namespace L2
end L2
namespace My
open PySem L2 MA
end My
namespace My
open PySem L2 MA
end My

set_option Elab.async false
set_option linter.all false
set_option maxRecDepth 100000
set_option maxHeartbeats 4000000
namespace L2
open PySem PySem.Spec PyProof.Rows
section
variable {X : Cx}
end
end L2
namespace My
open PySem L2 MA
theorem same_updN {H H' : Hp} {l : Addr} (hl : H l = none) (s : Same H H') (o : HO) : Same H (upd H' l o) := fun b u q => by rw [upd_ne (ne_of_none q hl)]; exact s _ _ q
theorem iv_set (ns : List Int) (j : Nat) (y : Int) : (iv ns).set j (.int y) = iv (ns.set j y) := by show (ns.map V.int).set j (.int y) = (ns.set j y).map V.int; rw [List.map_set]
end My
namespace My
open PySem L2 MA
end My

set_option Elab.async false
set_option linter.all false
set_option maxRecDepth 100000
set_option maxHeartbeats 4000000
namespace L2
open PySem PySem.Spec PyProof.Rows
end L2
namespace My
open PySem L2 MA
end My

set_option Elab.async false
set_option linter.all false
set_option maxRecDepth 100000
set_option maxHeartbeats 4000000
namespace L2
open PySem PySem.Spec PyProof.Rows
section
variable {prog : Program} {w : World} {A : Around} {E : Value → Shared → Prop} {s : Shared}
end
end L2

set_option Elab.async false
set_option linter.all false
set_option maxRecDepth 100000
set_option maxHeartbeats 4000000
namespace L2
open PySem PySem.Spec PyProof.Rows
section
variable {prog : Program} {w : World} {A : Around} {E : Value → Shared → Prop} {s : Shared}
end
end L2

set_option Elab.async false
set_option linter.all false
set_option maxRecDepth 100000
set_option maxHeartbeats 4000000
namespace L2
open PySem PySem.Spec PyProof.Rows
end L2

set_option Elab.async false
set_option linter.all false
set_option maxRecDepth 100000
set_option maxHeartbeats 4000000
namespace L2
open PySem PySem.Spec PyProof.Rows
section
variable {prog : Program} {w : World} {A : Around} {E : Value → Shared → Prop} {s : Shared}
end
end L2

set_option Elab.async false
set_option linter.all false
set_option maxRecDepth 100000
set_option maxHeartbeats 4000000
namespace L2
open PySem PySem.Spec PyProof.Rows
section
variable {prog : Program} {w : World} {A : Around} {E : Value → Shared → Prop} {s : Shared}
end
end L2

set_option Elab.async false
set_option linter.all false
set_option maxRecDepth 100000
set_option maxHeartbeats 4000000
namespace L2
open PySem PySem.Spec PyProof.Rows
end L2

set_option Elab.async false
set_option linter.all false
set_option maxRecDepth 100000
set_option maxHeartbeats 4000000
namespace L2
open PySem PySem.Spec PyProof.Rows
end L2

set_option Elab.async false
set_option linter.all false
set_option maxRecDepth 100000
set_option maxHeartbeats 4000000
namespace L2
open PySem PySem.Spec PyProof.Rows MA
section
variable {X : Cx}
/-- sum(xs), xs a tuple of ints -/
theorem call_sumT (hc : X.calm = true) : CallR X (.builtin "sum") (fun xs H Q => ∃ (l : Addr) (ns : List Int), xs = [.ref l] ∧ H l = some (.tup (ns.map V.int)) ∧ Q (.int ns.sum) H) := by
  intro pins s σ H xs us Q I r h
  obtain ⟨l, ns, rfl, hl, q⟩ := h
  obtain ⟨u, rfl, ru⟩ := vals1 r
  cases ru
  obtain ⟨its, rv, p, hz⟩ := I.tuple (SqT.of hl)
  have hi := intsAre_of rv
  obtain ⟨ys, e⟩ := hi.allInts.items
  have hnum : ns = ys.toList.map (·.1) := by
    have h1 := hi.numsOf
    have h2 := nums_intItems ys
    rw [← e] at h2
    rw [← h1, ← h2]
  refine PySem.W.ktm_sumG (I.ok.hd hc) (xs := ys) (by rw [← e]; exact p) fun h' tk t' hk => ?_
  refine ⟨.int ns.sum, H, I.kept (t' := tk) hk, ⟨t', ?_⟩, q⟩
  rw [preSum_eq, List.take_of_length_le (by simp), hnum]
end
end L2

set_option Elab.async false
set_option linter.all false
set_option maxRecDepth 100000
set_option maxHeartbeats 4000000
namespace My
open PySem L2 MA
end My

set_option Elab.async false
set_option linter.all false
set_option maxRecDepth 100000
set_option maxHeartbeats 4000000
namespace L2
open PySem PySem.Spec PyProof.Rows MA SeqAt
section
variable {X : Cx}
end
end L2

set_option Elab.async false
set_option linter.all false
set_option maxRecDepth 100000
set_option maxHeartbeats 4000000
namespace My
open PySem L2 MA
end My

set_option Elab.async false
set_option linter.all false
set_option maxRecDepth 100000
set_option maxHeartbeats 4000000
namespace My
open PySem L2 MA
end My

set_option Elab.async false
set_option linter.all false
set_option maxRecDepth 100000
set_option maxHeartbeats 4000000
namespace My
open PySem L2 MA
end My

set_option Elab.async false
set_option linter.all false
set_option maxRecDepth 100000
set_option maxHeartbeats 4000000
/-! ### min(xs, key=lambda x: ..), over a list or a tuple -/
namespace L2
open PySem PySem.Spec PyProof.Rows
section
variable {P : Program} {w : World} {K : PySem.W.Frag} {mg : Str → Option Value} {base : Heap} {N : List Str} {qual : Str} {scope : Scope} {cl : List (Str × Addr)} {f c' : Addr} {cd : Value}
end
section
variable {X : Cx} {pins : List (Addr × Obj)} {σ : St} {H : Hp} {b : Bool} {l I S f : Addr} {xs : List V} {kf : Nat → Int} {R : Result → Shared → Prop}
end
end L2

set_option Elab.async false
set_option linter.all false
set_option maxRecDepth 100000
set_option maxHeartbeats 4000000
namespace L2
open PySem PySem.Spec PyProof.Rows
end L2

set_option Elab.async false
set_option linter.all false
set_option maxRecDepth 100000
set_option maxHeartbeats 4000000
/-! ### == and != of data: ints, texts, tuples and lists of them, nested -/
namespace L2
open PySem PySem.Spec PyProof.Rows MA SeqAt
section
variable {X : Cx} {pins : List (Addr × Obj)} {σ : St} {H : Hp} {s : Shared}
end
end L2

set_option Elab.async false
set_option linter.all false
set_option maxRecDepth 100000
set_option maxHeartbeats 4000000
namespace PySem.SeqAt
open AutoSeq1 (wpAny_loadPart')
open MeetsSeq MeetsSeq2 MeetsSeq3 SeqRoads2
end PySem.SeqAt
namespace L2
open PySem PySem.Spec PyProof.Rows MA
section
variable {X : Cx}
end
end L2

set_option Elab.async false
set_option linter.all false
set_option maxRecDepth 100000
set_option maxHeartbeats 4000000
/-! ### methods and classes of the text -/
namespace L2
open PySem PySem.Spec PyProof.Rows
section
variable {X : Cx} {C : Addr} {x m : Str} {ps : List Str} {k : Nat} {sp : Sp} {o e : Expr} {es : List Expr} {t : TA} {to : TE} {p pos apos : Pos}
end
end L2

set_option Elab.async false
set_option linter.all false
set_option maxRecDepth 100000
set_option maxHeartbeats 4000000
namespace PyProof.Rows
open PySem
section
variable {prog : Program} {w : World} {A : Around} {E : Value → Shared → Prop} {s : Shared}
end
end PyProof.Rows
namespace L2
open PySem PySem.Spec PyProof.Rows MA
section
variable {X : Cx} {e : Expr} {t : TA} {p p3 p4 pos : Pos}
end
end L2

set_option Elab.async false
set_option linter.all false
set_option maxRecDepth 100000
set_option maxHeartbeats 4000000
/-! ### reversed(range(n)) -/
namespace L2
open PySem PySem.Spec PyProof.Rows
section
variable {prog : Program} {w : World} {A : Around} {E : Value → Shared → Prop} {s : Shared}
end
section
variable {X : Cx} {tg : Expr}
end
end L2

set_option Elab.async false
set_option linter.all false
set_option maxRecDepth 100000
set_option maxHeartbeats 4000000
/-! ### a def handed over, called in a try -/
namespace L2
open PySem PySem.Spec PyProof.Rows
end L2

set_option Elab.async false
set_option linter.all false
set_option maxRecDepth 100000
set_option maxHeartbeats 4000000
/-! ### a comprehension whose own names are seen by another one within it -/
namespace L2
open PySem PySem.Spec PyProof.Rows
end L2

set_option Elab.async false
set_option linter.all false
set_option maxRecDepth 100000
set_option maxHeartbeats 4000000
/-! ### rules that name their K: for use inside comprehensions -/
namespace L2
open PySem PySem.Spec PyProof.Rows
section
variable {X : Cx} {tg l : Expr} {tl : TE}
theorem call_len_K (K : PySem.W.Frag) (h : X.K = K) : CallR X (.builtin "len") (fun xs H Q => ∃ p ys, xs = [.ref p] ∧ (SqL K H p ys ∨ SqT K H p ys) ∧ Q (.int ys.length) H) := by subst h; exact call_len_seq
theorem pi_tup_K (K : PySem.W.Frag) (h : X.K = K) (hl : PE X l tl) : PI X tg l (iTup K tl) := by subst h; exact pi_tup hl
end
section
variable {X : Cx}
end
/-! walks of a clause, read with any goal -/
end L2

set_option Elab.async false
set_option linter.all false
set_option maxRecDepth 100000
set_option maxHeartbeats 4000000
/-! ### a law that names but one of the own errors (Unlike) -/
namespace My
open PySem L2 MA
end My

set_option Elab.async false
set_option linter.all false
set_option maxRecDepth 100000
set_option maxHeartbeats 4000000
/-! ### < of tuples -/
namespace PySem.SeqAt
open AutoSeq1 (wpAny_loadPart')
open MeetsSeq MeetsSeq2 MeetsSeq3
section
variable {A : Around} {s : Shared}
end
end PySem.SeqAt

set_option Elab.async false
set_option linter.all false
set_option maxRecDepth 100000
set_option maxHeartbeats 4000000
/-! ### sorting by comparisons that leave all as it is: the tree of the questions, walked by an order -/
namespace Srt
open PySem PySem.W PyProof.Rows
/-- what a walk of the tree asks and tells, by the answers c -/
def Path {α : Type} (V : Nat → Nat → Prop) (c : Nat → Nat → Bool) (G : α → Prop) : KasT α → Prop
  | .ret a => G a
  | .ask i j k => V i j ∧ Path V c G (k (c i j))
section
variable {α β : Type} {V : Nat → Nat → Prop} {c : Nat → Nat → Bool}
theorem Path.bind {G : β → Prop} {f : α → KasT β} : ∀ {t : KasT α}, Path V c (fun a => Path V c G (f a)) t → Path V c G (t.bind f)
  | .ret _, p => p
  | .ask _ _ _, ⟨v, p⟩ => ⟨v, Path.bind p⟩
theorem Path.wp {G : α → Prop} {cmp : Nat → Nat → (Bool → Shared → Prop) → Shared → Prop} {Q : α → Shared → Prop} {s : Shared} (hc : ∀ i j C, V i j → C (c i j) s → cmp i j C s) (hq : ∀ a, G a → Q a s) :
    ∀ {t : KasT α}, Path V c G t → t.kasWp cmp Q s
  | .ret _, p => hq _ p
  | .ask i j k, ⟨v, p⟩ => hc i j _ v (Path.wp hc hq p)
end
/-- an order, by its "less" -/
structure Ord (c : Nat → Nat → Bool) : Prop where
  asym : ∀ i j, c i j = true → c j i = false
  tr : ∀ i j k, c j i = false → c k j = false → c k i = false
abbrev at' (p : Array Nat) (i : Nat) : Nat := p.getD i 0
def Up (c : Nat → Nat → Bool) (p : Array Nat) (m : Nat) : Prop := ∀ i j, i ≤ j → j < m → c (at' p j) (at' p i) = false
def Dn (c : Nat → Nat → Bool) (p : Array Nat) (m : Nat) : Prop := ∀ i j, i ≤ j → j < m → c (at' p i) (at' p j) = false
theorem at_of {p q : Array Nat} {i j : Nat} (h : p[i]? = q[j]?) : at' p i = at' q j := by
  unfold at'
  rw [Array.getD_eq_getD_getElem?, Array.getD_eq_getD_getElem?, h]
theorem at_rev {p : Array Nat} {i j : Nat} (hj : j ≤ p.size) (k : Nat) : at' (kas_rev p i j) k = if i ≤ k ∧ k < j then at' p (i + j - 1 - k) else at' p k := by
  have h := getElem?_mirror_all (i := i) hj k
  split at h
  · rename_i q; rw [if_pos q]; exact at_of h
  · rename_i q; rw [if_neg q]; exact at_of h
theorem at_bub {p : Array Nat} {k l : Nat} (hk : k < p.size) (hl : l ≤ k) (i : Nat) : at' (bubble p k (k - l)) i = if i = l then at' p k else if l < i ∧ i ≤ k then at' p (i - 1) else at' p i := by
  have h := getElem?_bubble hk (k - l) (by omega) i
  rw [show k - (k - l) = l by omega] at h
  split at h
  · rename_i q; rw [if_pos q]; exact at_of h
  · rename_i q; rw [if_neg q]
    split at h
    · rename_i q; rw [if_pos q]; exact at_of h
    · rename_i q; rw [if_neg q]; exact at_of h
/-- the places are those of n things -/
def Of (n : Nat) (p : Array Nat) : Prop := p.Perm (List.toArray (List.range n))
theorem Of.size {n : Nat} {p : Array Nat} (h : Of n p) : p.size = n := by have := h.size_eq; simpa using this
theorem Of.lt {n : Nat} {p : Array Nat} (h : Of n p) {i : Nat} (hi : i < n) : at' p i < n := by
  have hs := h.size
  have e : at' p i = p[i]'(by omega) := by unfold at'; simp [hs, hi]
  have hm : p[i]'(by omega) ∈ (List.range n) := by
    have := (Array.perm_iff_toList_perm.mp h).mem_iff (a := p[i]'(by omega))
    exact this.mp (by simp)
  rw [e]; exact List.mem_range.mp hm
theorem Of.rev {n : Nat} {p : Array Nat} (h : Of n p) (i j : Nat) : Of n (kas_rev p i j) := (mirror_perm p i j _).trans h
theorem Of.bub {n : Nat} {p : Array Nat} (h : Of n p) (i j : Nat) : Of n (bubble p i j) := (bubble_perm p i j).trans h
abbrev In (n : Nat) (i j : Nat) : Prop := i < n ∧ j < n ∧ i ≠ j
theorem Of.inn {n : Nat} {p : Array Nat} (h : Of n p) {i j : Nat} (hi : i < n) (hj : j < n) (hne : i ≠ j) : In n (at' p i) (at' p j) := by
  refine ⟨h.lt hi, h.lt hj, fun e => hne ?_⟩
  have hs := h.size
  have nd : p.toList.Nodup := (Array.perm_iff_toList_perm.mp h).nodup_iff.mpr (by simpa using List.nodup_range)
  have e1 : at' p i = p.toList[i]'(by simp; omega) := by unfold at'; simp [hs, hi]
  have e2 : at' p j = p.toList[j]'(by simp; omega) := by unfold at'; simp [hs, hj]
  rw [e1, e2] at e
  have pw := List.pairwise_iff_getElem.mp nd
  rcases Nat.lt_trichotomy i j with x | x | x
  · exact absurd e (pw i j (by simp; omega) (by simp; omega) x)
  · exact x
  · exact absurd e.symm (pw j i (by simp; omega) (by simp; omega) x)
section
variable {c : Nat → Nat → Bool} (O : Ord c) {n : Nat}
include O
theorem Ord.irr (i : Nat) : c i i = false := by
  cases h : c i i with
  | false => rfl
  | true => exact (O.asym i i h).symm.trans h ▸ rfl
theorem up_snoc {p : Array Nat} {m : Nat} (h : Up c p m) (h1 : 1 ≤ m) (e : c (at' p m) (at' p (m - 1)) = false) : Up c p (m + 1) := by
  intro i j hij hj
  rcases Nat.lt_or_ge j m with q | q
  · exact h i j hij q
  · have : j = m := by omega
    subst this
    rcases Nat.lt_or_ge i j with r | r
    · exact O.tr _ _ _ (h i (j - 1) (by omega) (by omega)) e
    · have : i = j := by omega
      subst this; exact O.irr _
theorem asc_path {p : Array Nat} (hp : Of n p) {G : Nat → Prop} : ∀ (f m : Nat), 1 ≤ m → m + f ≤ n → Up c p m → (∀ r, m ≤ r → r ≤ m + f → Up c p r → (r < m + f → c (at' p r) (at' p (r - 1)) = true) → G r) → Path (In n) c G (kas_asc p f m)
  | 0, m, _, _, h, g => g m (Nat.le_refl _) (Nat.le_refl _) h (fun q => absurd q (Nat.lt_irrefl _))
  | f + 1, m, h1, hn, h, g => by
    refine ⟨hp.inn (by omega) (by omega) (by omega), ?_⟩
    cases e : c (p.getD m 0) (p.getD (m - 1) 0) with
    | true => exact g m (Nat.le_refl _) (by omega) h (fun _ => e)
    | false => exact asc_path hp f (m + 1) (by omega) (by omega) (up_snoc O h h1 e) fun r a b u v => g r (by omega) (by omega) u (fun q => v (by omega))
/-- the last q + 1 of the first m are alike -/
def Eqs (c : Nat → Nat → Bool) (p : Array Nat) (m q : Nat) : Prop := ∀ i j, m ≤ i + (q + 1) → m ≤ j + (q + 1) → i < m → j < m → c (at' p i) (at' p j) = false
omit O in
theorem dn_rev {p : Array Nat} {m q : Nat} (hm : m ≤ p.size) (d : Dn c p m) (e : Eqs c p m q) (hq : q + 1 ≤ m) : Dn c (kas_rev p (m - (q + 1)) m) m := by
  intro i j hij hj
  rw [at_rev hm, at_rev hm]
  by_cases a : m - (q + 1) ≤ i ∧ i < m <;> by_cases b : m - (q + 1) ≤ j ∧ j < m
  · rw [if_pos a, if_pos b]; exact e _ _ (by omega) (by omega) (by omega) (by omega)
  · exfalso; omega
  · rw [if_neg a, if_pos b]; exact d _ _ (by omega) (by omega)
  · rw [if_neg a, if_neg b]; exact d _ _ (by omega) (by omega)
theorem dn_snoc {p : Array Nat} {m : Nat} (h : Dn c p m) (h1 : 1 ≤ m) (e : c (at' p (m - 1)) (at' p m) = false) : Dn c p (m + 1) := by
  intro i j hij hj
  rcases Nat.lt_or_ge j m with q | q
  · exact h i j hij q
  · have : j = m := by omega
    subst this
    rcases Nat.lt_or_ge i j with r | r
    · exact O.tr _ _ _ e (h i (j - 1) (by omega) (by omega))
    · have : i = j := by omega
      subst this; exact O.irr _
theorem desc_path {G : Array Nat × Nat × Nat → Prop} : ∀ (f : Nat) (p : Array Nat) (m q : Nat), Of n p → 1 ≤ m → q + 1 ≤ m → m + f ≤ n → Dn c p m → Eqs c p m q → (∀ p' r q', Of n p' → 1 ≤ r → q' + 1 ≤ r → r ≤ n → Dn c p' r → Eqs c p' r q' → G (p', r, q')) →
    Path (In n) c G (kas_desc f p m q)
  | 0, p, m, q, hp, h1, hq, hn, d, e, g => g p m q hp h1 hq (by omega) d e
  | f + 1, p, m, q, hp, h1, hq, hn, d, e, g => by
    refine ⟨hp.inn (by omega) (by omega) (by omega), ?_⟩
    have hs := hp.size
    cases e1 : c (p.getD m 0) (p.getD (m - 1) 0) with
    | true =>
      have one : ∀ {p' : Array Nat} {m : Nat}, Eqs c p' (m + 1) 0 := fun {p' m} i j a b x y => by
        have : i = j := by omega
        subst this; exact O.irr _
      show Path (In n) c G (if q > 0 then _ else _)
      by_cases hq0 : q > 0
      · rw [if_pos hq0]
        have hd := dn_rev (hs ▸ (by omega : m ≤ n)) d e hq
        refine desc_path f _ (m + 1) 0 (hp.rev _ _) (by omega) (by omega) (by omega) (dn_snoc O hd h1 ?_) one g
        rw [at_rev (by omega), at_rev (by omega), if_pos (by omega), if_neg (by omega)]
        have a := e (m - (q + 1) + m - 1 - (m - 1)) (m - 1) (by omega) (by omega) (by omega) (by omega)
        exact O.tr _ _ _ (O.asym _ _ e1) a
      · rw [if_neg hq0]
        exact desc_path f p (m + 1) 0 hp (by omega) (by omega) (by omega) (dn_snoc O d h1 (O.asym _ _ e1)) one g
    | false =>
      show Path (In n) c G (.ask _ _ _)
      refine ⟨hp.inn (by omega) (by omega) (by omega), ?_⟩
      cases e2 : c (p.getD (m - 1) 0) (p.getD m 0) with
      | true => exact g p m q hp h1 hq (by omega) d e
      | false =>
        refine desc_path f p (m + 1) (q + 1) hp (by omega) (by omega) (by omega) (dn_snoc O d h1 e2) ?_ g
        intro i j a b x y
        have alike : ∀ k, m ≤ k + (q + 1) → k < m → c (at' p k) (at' p m) = false ∧ c (at' p m) (at' p k) = false := fun k u v =>
          ⟨O.tr _ _ _ e2 (e k (m - 1) u (by omega) v (by omega)), O.tr _ _ _ (e (m - 1) k (by omega) u (by omega) v) e1⟩
        rcases Nat.lt_or_ge i m with u | u <;> rcases Nat.lt_or_ge j m with v | v
        · exact e i j (by omega) (by omega) u v
        · have : j = m := by omega
          subst this; exact (alike i (by omega) u).1
        · have : i = m := by omega
          subst this; exact (alike j (by omega) v).2
        · have : i = j := by omega
          subst this; exact O.irr _
omit O in
theorem up_of_dn {p : Array Nat} {m : Nat} (hm : m ≤ p.size) (d : Dn c p m) : Up c (kas_rev p 0 m) m := by
  intro i j hij hj
  rw [at_rev hm, at_rev hm, if_pos (by omega), if_pos (by omega)]
  exact d _ _ (by omega) (by omega)
theorem tail3_path {p : Array Nat} (hp : Of n p) {m : Nat} (h1 : 1 ≤ m) (hm : m ≤ n) (d : Dn c p m) {G : Nat × Array Nat → Prop} (g : ∀ r p', Of n p' → r ≤ n → Up c p' r → G (r, p')) : Path (In n) c G (kas_tail3 m n p) := by
  have hs := hp.size
  exact Path.bind (asc_path O (hp.rev 0 m) _ m h1 (by omega) (up_of_dn (by omega) d) fun r a b u _ => g r _ (hp.rev 0 m) (by omega) u)
theorem descPart_path {p : Array Nat} (hp : Of n p) {m : Nat} (h1 : 1 ≤ m) (hm : m + 1 ≤ n) (d : Dn c p m) (e : c (at' p (m - 1)) (at' p m) = false) {G : Nat × Array Nat → Prop} (g : ∀ r p', Of n p' → r ≤ n → Up c p' r → G (r, p')) :
    Path (In n) c G (kas_descPart m n p) := by
  refine Path.bind (desc_path O _ p (m + 1) 0 hp (by omega) (by omega) (by omega) (dn_snoc O d h1 e) (fun i j a b x y => ?_) fun p' r q' hp' h1' hq' hr' d' e' => ?_)
  · have : i = j := by omega
    subst this; exact O.irr _
  · have hs := hp'.size
    show Path (In n) c G (if q' > 0 then _ else _)
    by_cases hq0 : q' > 0
    · rw [if_pos hq0]; exact tail3_path O (hp'.rev _ _) h1' hr' (dn_rev (by omega) d' e' hq') g
    · rw [if_neg hq0]; exact tail3_path O hp' h1' hr' d' g
theorem count_path {p : Array Nat} (hp : Of n p) (hn : 2 ≤ n) {G : Nat × Array Nat → Prop} (g : ∀ r p', Of n p' → r ≤ n → Up c p' r → G (r, p')) : Path (In n) c G (kas_count n p) := by
  have hs := hp.size
  have one : Up c p 1 := fun i j a b => by
    have : i = j := by omega
    subst this; exact O.irr _
  refine Path.bind (asc_path O hp (n - 1) 1 (Nat.le_refl _) (by omega) one fun r a b u v => ?_)
  by_cases hr : (r == n) = true
  · rw [if_pos hr]; exact g r p hp (by omega) u
  · rw [if_neg hr]
    have hrn : r ≠ n := by intro z; subst z; simp at hr
    have vr := v (by omega)
    by_cases h1 : r > 1
    · rw [if_pos h1]
      refine ⟨hp.inn (by omega) (by omega) (by omega), ?_⟩
      cases e : c (p.getD 0 0) (p.getD (r - 1) 0) with
      | true => exact g r p hp (by omega) u
      | false =>
        have all : ∀ i j, i < r → j < r → c (at' p i) (at' p j) = false := fun i j x y =>
          O.tr (at' p j) (at' p 0) (at' p i) (O.tr (at' p j) (at' p (r - 1)) (at' p 0) (u j (r - 1) (by omega) (by omega)) e) (u 0 i (by omega) x)
        refine descPart_path O (hp.rev 0 r) (by omega) (by omega) (fun i j x y => ?_) ?_ g
        · rw [at_rev (by omega), at_rev (by omega), if_pos (by omega), if_pos (by omega)]
          exact all _ _ (by omega) (by omega)
        · rw [at_rev (by omega), at_rev (by omega), if_pos (by omega), if_neg (by omega)]
          exact O.tr _ _ _ (O.asym _ _ vr) (all _ _ (by omega) (by omega))
    · rw [if_neg h1]
      have : r = 1 := by omega
      subst this
      refine descPart_path O hp (by omega) (by omega) (fun i j x y => ?_) (O.asym _ _ vr) g
      have : i = j := by omega
      subst this; exact O.irr _
theorem place_path {p : Array Nat} (hp : Of n p) {k : Nat} (hk : k < n) (u : Up c p k) {G : Nat → Prop} : ∀ (f l r : Nat), r - l ≤ f → l ≤ r → r ≤ k → (∀ i, i < l → c (at' p k) (at' p i) = false) → (∀ i, r ≤ i → i < k → c (at' p k) (at' p i) = true) →
    (∀ l, l ≤ k → (∀ i, i < l → c (at' p k) (at' p i) = false) → (∀ i, l ≤ i → i < k → c (at' p k) (at' p i) = true) → G l) → Path (In n) c G (kas_place p k f l r)
  | 0, l, r, hf, hlr, hr, lo, hi, g => by
    have : l = r := by omega
    subst this
    exact g l (by omega) lo hi
  | f + 1, l, r, hf, hlr, hr, lo, hi, g => by
    show Path (In n) c G (if l ≥ r then _ else _)
    by_cases h : l ≥ r
    · rw [if_pos h]
      have : l = r := by omega
      subst this
      exact g l (by omega) lo hi
    · rw [if_neg h]
      refine ⟨hp.inn (by omega) (by omega) (by omega), ?_⟩
      cases e : c (p.getD k 0) (p.getD ((l + r) / 2) 0) with
      | true =>
        refine place_path hp hk u f l ((l + r) / 2) (by omega) (by omega) (by omega) lo (fun i a b => ?_) g
        have q := u ((l + r) / 2) i a b
        cases z : c (at' p k) (at' p i) with
        | true => rfl
        | false => exact absurd (O.tr _ _ _ q z) (by rw [show c (at' p k) (at' p ((l + r) / 2)) = true from e]; simp)
      | false =>
        refine place_path hp hk u f ((l + r) / 2 + 1) r (by omega) (by omega) hr (fun i a => ?_) hi g
        rcases Nat.lt_or_ge i l with b | b
        · exact lo i b
        · exact O.tr _ _ _ (u i ((l + r) / 2) (by omega) (by omega)) e
theorem bin_path {G : Array Nat → Prop} : ∀ (f : Nat) (p : Array Nat) (k : Nat), Of n p → k + f = n → Up c p k → (∀ p', Of n p' → Up c p' n → G p') → Path (In n) c G (kas_bin f p k)
  | 0, p, k, hp, hk, u, g => by
    have : k = n := by omega
    subst this
    exact g p hp u
  | f + 1, p, k, hp, hk, u, g => by
    have hs := hp.size
    refine Path.bind (place_path O hp (by omega) u k 0 k (by omega) (by omega) (by omega) (fun i a => by omega) (fun i a b => by omega) fun l hl lo hi => ?_)
    refine bin_path f _ (k + 1) (hp.bub _ _) (by omega) (fun i j hij hj => ?_) g
    rw [at_bub (by omega) hl, at_bub (by omega) hl]
    by_cases a : i = l
    · rw [if_pos a]
      by_cases b : j = l
      · rw [if_pos b]; exact O.irr _
      · rw [if_neg b, if_pos (by omega)]
        exact O.asym _ _ (hi _ (by omega) (by omega))
    · rw [if_neg a]
      by_cases b : j = l
      · rw [if_pos b, if_neg (by omega)]
        exact lo _ (by omega)
      · rw [if_neg b]
        by_cases a' : l < i ∧ i ≤ k <;> by_cases b' : l < j ∧ j ≤ k
        · rw [if_pos a', if_pos b']; exact u _ _ (by omega) (by omega)
        · exfalso; omega
        · rw [if_neg a', if_pos b']; exact u _ _ (by omega) (by omega)
        · rw [if_neg a', if_neg b']; exact u _ _ (by omega) (by omega)
theorem sort_path (hn : 2 ≤ n) {G : Array Nat → Prop} (g : ∀ p, Of n p → Up c p n → G p) : Path (In n) c G (kas_sort n) := by
  refine Path.bind (count_path O (Array.Perm.refl _) hn fun r p' hp hr u => ?_)
  show Path (In n) c G (if r < n then _ else _)
  by_cases h : r < n
  · rw [if_pos h]
    have u' : Up c p' (max r 1) := by
      rcases Nat.eq_zero_or_pos r with z | z
      · subst z
        intro i j a b
        have : i = j := by omega
        subst this; exact O.irr _
      · rw [Nat.max_eq_left z]; exact u
    exact bin_path O _ p' _ hp (by omega) u' g
  · rw [if_neg h]
    have : r = n := by omega
    subst this; exact g p' hp u
end
end Srt

set_option Elab.async false
set_option linter.all false
set_option maxRecDepth 100000
set_option maxHeartbeats 4000000
namespace Srt
open PySem PySem.W PyProof.Rows
/-! ### list.sort, sorted: fewer than 64 things, any order whose questions change nothing -/
section
variable {prog : Program} {w : World} {A : Around} {E : Value → Shared → Prop} {s : Shared}
def Kept (a : Addr) (h h' : Heap) : Prop := ∀ b o, b ≠ a → h.get? b = some o → h'.get? b = some o
/-- the things vs can be asked: their kind κ, their order c -/
structure Asks (prog : Program) (w : World) (A : Around) (vs : List Value) (c : Nat → Nat → Bool) (κ : SortKind) (s : Shared) : Prop where
  kind : ∀ (E : Value → Shared → Prop) (Q : SortKind → Shared → Prop), Q κ s → wpAny (model prog w) A (keyKind' vs.toArray) Q E s
  less : ∀ i j, In vs.length i j → ∀ (Q : Bool → Shared → Prop), Q (c i j) s → wpAny (model prog w) A (keyLt' κ (vs.getD i Value.none) (vs.getD j Value.none)) Q (fun _ _ => False) s
abbrev outOf (vs : List Value) (p : Array Nat) : Array Value := List.toArray (p.toList.map fun i => vs.getD i Value.none)
theorem range_getD (vs : List Value) : ((List.range vs.length).map fun i => vs.getD i Value.none) = vs := by
  refine List.ext_getElem (by simp) fun i h1 h2 => ?_
  simp at h1
  simp [h1]
theorem list_sort_by {a : Addr} {vs : List Value} {n : Nat} {P : PySem.Fin → Shared → Prop} {c : Nat → Nat → Bool} (O : Ord c) {κ : SortKind} (at0 : s.heap.get? a = some (seqObj "list" vs.toArray n)) (few : vs.length < 64)
    (ak : 2 ≤ vs.length → ∀ h' : Heap, Kept a s.heap h' → Asks prog w A vs c κ { s with heap := h' })
    (fin : ∀ p : Array Nat, Of vs.length p → Up c p vs.length → P (.done (.ret .none)) { s with heap := sortedHeap s.heap a vs (outOf vs p) }) : wpAny (model prog w) A (Builtin.«list.sort» ⟨[.ref a], []⟩) P E s := by
  rw [list_sort_plain]
  have la : a < s.heap.objs.size := Heap.lt_size at0
  refine wpAny_bind (listItems_at at0 rfl (wpAny_bind (listUpdate_at at0 rfl ?_ (by rw [List.size_toArray, sizeLine_eq]; omega) (Nat.zero_le _))))
  obtain ⟨e1, at1⟩ : ∃ e1, (s.heap.update a (Obj.mapSeq fun _ => (#[] : Array Value))).get? a = some (seqObj "list" #[] e1) := ⟨_, get?_update_seq at0 fun _ => #[]⟩
  refine wpAny_bind (seqEpoch_at at1 rfl (wpAny_bind (wpAny_newTuple (wpAny_bind (wpAny_newList (wpAny_holding ?_))) (by rw [sizeLine_eq]; simp; omega))))
  have at2 : (((s.heap.update a (Obj.mapSeq fun _ => (#[] : Array Value))).push (seqObj "tuple" vs.toArray 0)).push (seqObj "list" #[] 0)).get? a = some (seqObj "list" #[] e1) := Heap.get?_push_of_some _ (Heap.get?_push_of_some _ at1)
  have kp : Kept a s.heap (((s.heap.update a (Obj.mapSeq fun _ => (#[] : Array Value))).push (seqObj "tuple" vs.toArray 0)).push (seqObj "list" #[] 0)) := fun b o nb e =>
    Heap.get?_push_of_some _ (Heap.get?_push_of_some _ ((Heap.get?_update_ne _ _ _ _ nb).trans e))
  show wpAny (model prog w) A _ P E { s with heap := ((s.heap.update a (Obj.mapSeq fun _ => (#[] : Array Value))).push (seqObj "tuple" vs.toArray 0)).push (seqObj "list" #[] 0) }
  dsimp only
  have zz : vs.toArray.size = vs.length := by simp
  by_cases few2 : vs.toArray.size < 2
  · rw [if_pos few2, if_pos few2]
    refine wpAny_bind (wpAny_pure ?_)
    rw [StateT.run_pure]
    refine wpAny_bind (wpAny_pure (wpAny_bind (seqEpoch_at at2 rfl (wpAny_bind (listUpdate_at at2 rfl ?_ (by simp) (by show (Array.map _ (vs.toArray.zip vs.toArray)).size ≤ _; simp; rw [sizeLine_eq]; omega))))))
    simp only [bne_self_eq_false, Bool.false_eq_true, if_false]
    have eo : outOf vs (List.toArray (List.range vs.length)) = Array.map (·.2) (vs.toArray.zip vs.toArray) := by
      apply Array.toList_inj.mp
      show (List.range vs.length).map _ = _
      rw [range_getD, Array.toList_map]
      simp only [Array.toList_zip]
      exact (List.map_snd_zip (Nat.le_refl _)).symm
    have := fin (List.toArray (List.range vs.length)) (Array.Perm.refl _) (fun i j x y => by
      have : i = j := by omega
      subst this; exact O.irr _)
    rw [eo] at this
    exact wpAny_pure this
  · rw [if_neg few2, if_neg few2]
    have K := ak (by omega) _ kp
    refine wpAny_bind (K.kind _ _ ?_)
    refine wpAny_bind (wpAny_mono (kat_run (vs := vs) (ks := vs) (Q := fun st' s' => s' = { s with heap := ((s.heap.update a (Obj.mapSeq fun _ => (#[] : Array Value))).push (seqObj "tuple" vs.toArray 0)).push (seqObj "list" #[] 0) } ∧ failedOf st' = none ∧ ∃ p, Of vs.length p ∧ Up c p vs.length ∧ (arrOf st').map (·.2) = outOf vs p)
      (G := fun p s' => s' = { s with heap := ((s.heap.update a (Obj.mapSeq fun _ => (#[] : Array Value))).push (seqObj "tuple" vs.toArray 0)).push (seqObj "list" #[] 0) } ∧ Of vs.length p ∧ Up c p vs.length) rfl (by omega) few (fun p st' s' _ har hf ⟨es, o1, o2⟩ => ⟨es, hf, p, o1, o2, kat_snds rfl har⟩) ?_) ?_ fun _ _ e => e)
    · exact Path.wp (fun i j C v hC => K.less i j v C hC) (fun p hp => ⟨rfl, hp⟩) (sort_path O (by omega) (G := fun p => Of vs.length p ∧ Up c p vs.length) fun p a b => ⟨a, b⟩)
    · rintro ⟨⟨⟩, st'⟩ s' ⟨rfl, hf, p, o1, o2, eo⟩
      dsimp only
      refine wpAny_bind (seqEpoch_at at2 rfl (wpAny_bind (listUpdate_at at2 rfl ?_ (by simp) (by rw [eo]; show (outOf vs p).size ≤ _; simp; rw [o1.size, sizeLine_eq]; omega))))
      rw [hf]
      simp only [bne_self_eq_false, Bool.false_eq_true, if_false]
      have := fin p o1 o2
      rw [← eo] at this
      exact wpAny_pure this
end
end Srt

set_option Elab.async false
set_option linter.all false
set_option maxRecDepth 100000
set_option maxHeartbeats 4000000
namespace Srt
open PySem PySem.W PyProof.Rows
section
variable {prog : Program} {w : World} {A : Around} {E : Value → Shared → Prop} {s : Shared}
/-- what sorted tells, once the things are gathered -/
def Told (prog : Program) (w : World) (A : Around) (Q : Value → Shared → Prop) (vs : List Value) (s1 : Shared) : Prop :=
  vs.length < 64 ∧ ∃ c κ, Ord c ∧ (2 ≤ vs.length → ∀ h' : Heap, (∀ b o, s1.heap.get? b = some o → h'.get? b = some o) → Asks prog w A vs c κ { s1 with heap := h' }) ∧
    ∀ p e (h' : Heap), Of vs.length p → Up c p vs.length → (∀ b o, s1.heap.get? b = some o → h'.get? b = some o) → h'.get? s1.heap.objs.size = some (seqObj "list" (outOf vs p) e) → Q (.ref s1.heap.objs.size) { s1 with heap := h' }
theorem sorted_by {x : Value} {Q : Value → Shared → Prop} (col : wpAny (model prog w) A.in1 (collect x) (Told prog w A.in1.in1 Q) E s) : wpAny (model prog w) A (call (.builtin "sorted") [x]) Q E s := by
  refine Calls.call_function_entry kind_sorted plain_sorted entry_sorted (args_sorted1 _) ?_
  unfold Builtin.«sorted»
  refine wpAny_bind (m := checkCount "sorted" 1 1 _) (wpAny_pure (wpAny_bind (wpAny_mono col (fun vs s1 told => ?_) fun _ _ e => e)))
  obtain ⟨few, c, κ, O, ak, fin⟩ := told
  refine wpAny_bind (wpAny_newList ?_ (by rw [sizeLine_eq]; omega))
  have at0 : (s1.heap.push (seqObj "list" vs.toArray 0)).get? s1.heap.objs.size = some (seqObj "list" vs.toArray 0) := Heap.get?_push_size _ rfl
  refine wpAny_bind (wpAny_holding (wpAny_call_entry slot_list_sort ⟨_, at0, rfl⟩ entry_list_sort (list_sort_by (s := { s1 with heap := s1.heap.push (seqObj "list" vs.toArray 0) }) O at0 few (fun h2 h' kp => ak h2 h' fun b o e => kp b o (Nat.ne_of_lt (Heap.lt_size e)) (Heap.get?_push_of_some _ e)) fun p o1 o2 => ⟨_, rfl, wpAny_pure ⟨_, rfl, ?_⟩⟩) (args_list_sort _)))
  obtain ⟨e, he⟩ := sortedHeap_at (out := outOf vs p) at0
  refine fin p e _ o1 o2 (fun b o q => ?_) he
  have lt := Heap.lt_size q
  rw [sortedHeap_old (Nat.ne_of_lt lt) (by show b < (s1.heap.push _).objs.size; rw [size_push']; exact Nat.lt_succ_of_lt lt)]
  exact Heap.get?_push_of_some _ q
end
end Srt

set_option Elab.async false
set_option linter.all false
set_option maxRecDepth 100000
set_option maxHeartbeats 4000000
namespace DI
open PySem PySem.W PyProof.Rows
/-- a dict by its entries -/
def DEnt (h : Heap) (d : Addr) (es : Array DictEntry) (ep : Nat) : Prop := ∃ o, h.get? d = some o ∧ o.ExactDict ∧ o.data = .dict es ep
theorem DEnt.ty {s : Shared} {d : Addr} {es : Array DictEntry} {ep : Nat} (x : DEnt s.heap d es ep) : s.TypeIs (.ref d) "dict" := let ⟨o, e, c, _⟩ := x; ⟨o, e, c.1⟩
theorem DEnt.at {h h' : Heap} {d : Addr} {es : Array DictEntry} {ep : Nat} (x : DEnt h d es ep) (k : ∀ o, h.get? d = some o → h'.get? d = some o) : DEnt h' d es ep := let ⟨o, e, c⟩ := x; ⟨o, k o e, c⟩
section
variable {prog : Program} {w : World} {A : Around} {E : Value → Shared → Prop} {s : Shared} {it d : Addr} {es : Array DictEntry} {i ep : Nat}
theorem key_next {Q : Option Value → Shared → Prop} (ki : s.heap.IsKeyIter it d i es.size ep) (de : DEnt s.heap d es ep) (li : i < es.size)
    (fin : ∀ h', h'.IsKeyIter it d (i + 1) es.size ep → Heap.SameBut it s.heap h' → Q (some es[i].key) { s with heap := h' }) : wpAny (model prog w) A (pyNext (.ref it)) Q E s := by
  obtain ⟨oi, gi, ci, fi⟩ := id ki
  obtain ⟨od, gd, xd, dd⟩ := de
  have ti := ki.typeIs
  unfold pyNext
  refine wpAny_bind (wpAny_attempt (wpAny_callSpecial?_slot (name := Str.ofString "__next__") ti F.slot_dict_keyiterator_next (wpAny_call_entry F.slot_dict_keyiterator_next ti F.entry_dict_keyiterator_next (wpAny_bind (wpAny_pure (wpAny_bind (wpAny_bind ?_)))) (F.args_dict_keyiterator_next_1 _))))
  refine wpAny_bind (wpAny_typeNameOfWhole_keyiter ti (wpAny_pure (wpAny_bind (wpAny_fieldsOf gi fi ?_))))
  simp only [show Builtin.Dict_items.ownsTuple "dict_keyiterator" = false by decide, Bool.false_eq_true, if_false]
  show wpAny _ _ (if (Value.ref d == Value.none) = true then _ else _) _ _ s
  rw [if_neg (show ¬ ((Value.ref d == Value.none) = true) from Bool.false_ne_true)]
  refine wpAny_bind (wpAny_pure (wpAny_bind (wpAny_dictEntries gd dd ?_)))
  rw [if_neg (by simp)]
  refine wpAny_bind (wpAny_pure (wpAny_bind (wpAny_dictEpoch gd dd ?_)))
  rw [if_neg (by simp)]
  refine wpAny_pure ?_
  simp only [show ¬ ((i : Int) < 0) from by omega, if_false, Int.toNat_natCast, Array.getElem?_eq_getElem li]
  refine wpAny_bind (wpAny_bind (wpAny_typeNameOfWhole_keyiter ti (wpAny_pure (wpAny_bind (wpAny_isOneOf_keyiter ti ?_)))))
  show wpAny _ _ (setField (.ref it) 1 (rawInt ((i : Int) + 1)) >>= _) _ _ s
  have nx : (s.heap.update it (Obj.mapFields (·.setIfInBounds 1 (rawInt ((i : Int) + 1))))).IsKeyIter it d (i + 1) es.size ep :=
    ⟨_, Heap.get?_update_self _ gi (Obj.isFreed_of_fields (Obj.data_mapFields fi _)), (Obj.cls_mapFields ..).trans ci, by rw [Obj.data_mapFields fi]; simp [rawInt]⟩
  have tn : Shared.TypeIs { s with heap := s.heap.update it (Obj.mapFields (·.setIfInBounds 1 (rawInt ((i : Int) + 1)))) } (.ref it) "dict_keyiterator" := Heap.IsKeyIter.typeIs (s := { s with heap := s.heap.update it (Obj.mapFields (·.setIfInBounds 1 (rawInt ((i : Int) + 1)))) }) nx
  refine wpAny_bind (wpAny_setField gi fi (by simp) (wpAny_bind (wpAny_holding (wpAny_bind (wpAny_isOneOf_keyiter tn ?_)))))
  show wpAny _ _ (pure es[i].key) _ _ _
  exact wpAny_pure (wpAny_pure ⟨_, rfl, wpAny_pure (fin _ nx (Heap.SameBut.update ..))⟩)
theorem key_end {Q : Option Value → Shared → Prop} (hh : A.handled = none) (ki : s.heap.IsKeyIter it d i es.size ep) (de : DEnt s.heap d es ep) (li : es.size ≤ i) (fin : ∀ h', Heap.ExtBut it s.heap h' → Q none { s with heap := h' }) :
    wpAny (model prog w) A (pyNext (.ref it)) Q E s := by
  obtain ⟨oi, gi, ci, fi⟩ := id ki
  obtain ⟨od, gd, xd, dd⟩ := de
  have ti := ki.typeIs
  unfold pyNext
  refine wpAny_bind (wpAny_attempt (wpAny_callSpecial?_slot (name := Str.ofString "__next__") ti F.slot_dict_keyiterator_next (wpAny_call_entry F.slot_dict_keyiterator_next ti F.entry_dict_keyiterator_next (wpAny_bind (wpAny_pure (wpAny_bind (wpAny_bind ?_)))) (F.args_dict_keyiterator_next_1 _))))
  refine wpAny_bind (wpAny_typeNameOfWhole_keyiter ti (wpAny_pure (wpAny_bind (wpAny_fieldsOf gi fi ?_))))
  simp only [show Builtin.Dict_items.ownsTuple "dict_keyiterator" = false by decide, Bool.false_eq_true, if_false]
  show wpAny _ _ (if (Value.ref d == Value.none) = true then _ else _) _ _ s
  rw [if_neg (show ¬ ((Value.ref d == Value.none) = true) from Bool.false_ne_true)]
  refine wpAny_bind (wpAny_pure (wpAny_bind (wpAny_dictEntries gd dd ?_)))
  rw [if_neg (by simp)]
  refine wpAny_bind (wpAny_pure (wpAny_bind (wpAny_dictEpoch gd dd ?_)))
  rw [if_neg (by simp)]
  refine wpAny_pure ?_
  simp only [show ¬ ((i : Int) < 0) from by omega, if_false, Int.toNat_natCast, Array.getElem?_eq_none li]
  refine wpAny_bind (wpAny_bind (wpAny_typeNameOfWhole_keyiter ti (wpAny_pure ?_)))
  show wpAny _ _ (setField (.ref it) 0 .none >>= _) _ _ s
  refine wpAny_bind (wpAny_setField gi fi (by simp) ?_)
  show wpAny _ _ (newExc (.type "StopIteration") [] >>= _) _ _ _
  refine wpAny_bind ?_
  simp only [newExc, newTuple]
  refine wpAny_bind (wpAny_newObj_type (wpAny_bind (m := firstArgMember _ _) (wpAny_of_eq (a := Value.none) (by first | rfl | (simp only [firstArgMember]; rfl)) (wpAny_newObj_type ?_ (by size_fits)))) (by size_fits))
  simp only [raiseNew]
  refine wpAny_bind (wpAny_handled ?_)
  rw [show A.in1.handled = none from hh]
  refine wpAny_bind (wpAny_pure (wpAny_throw ?_))
  refine wpAny_bind (wpAny_isInstance (T := "StopIteration") (b := true) ⟨_, Heap.get?_push_size _ rfl, rfl⟩ isSubtype_stop (wpAny_pure (fin _ ?_)))
  exact ((Heap.SameBut.update ..).extBut.push _).push _
/-- iter(d) -/
theorem key_iter {Q : Value → Shared → Prop} (hd : (d == sysModules) = false) (de : DEnt s.heap d es ep) (fin : Q (.ref s.heap.objs.size) { s with heap := s.heap.push { cls := .type "dict_keyiterator", data := .fields #[.ref d, .int 0 0, .int es.size 0, .int ep 0] } }) : wpAny (model prog w) A (pyIter (.ref d)) Q E s := by
  have td := de.ty
  obtain ⟨od, gd, xd, dd⟩ := id de
  refine wpAny_pyIter_slot td F.slot_dict_iter (wpAny_call_entry F.slot_dict_iter td F.entry_dict_iter ?_ (F.args_dict_iter_1 _))
  unfold Builtin.«dict.__iter__» Builtin.Dict.dictSlotNone
  refine wpAny_bind (wpAny_bind (wpAny_notOrdered_dict td ?_))
  show wpAny _ _ (pure (Value.ref d)) _ _ s
  refine wpAny_pure ?_
  show wpAny _ _ (Builtin.Dict.showsAll d >>= _) _ _ s
  unfold Builtin.Dict.showsAll
  rw [if_neg (by rw [hd]; exact Bool.false_ne_true)]
  refine wpAny_bind (wpAny_pure (wpAny_bind (wpAny_dictEntries gd dd (wpAny_bind (wpAny_dictEpoch gd dd ?_)))))
  exact wpAny_bind (wpAny_newObj_type (wpAny_pure ⟨_, rfl, "dict_keyiterator", _, ⟨_, Heap.get?_push_size _ rfl, rfl⟩, F.slot_dict_keyiterator_next.lookup, by simpa [rawInt] using fin⟩))
/-- d.values(), d.items(): the view -/
theorem view_values (hd : (d == sysModules) = false) : MeetsIn prog w (Builtin.«dict.values» ⟨[.ref d], []⟩) (fun _ R s => (∃ es ep, DEnt s.heap d es ep) ∧ R (.ok (.ret (.ref s.heap.objs.size))) { s with heap := s.heap.push { cls := .type "dict_values", data := .fields #[.ref d] } }) :=
  .of_wp fun A R s ⟨⟨es, ep, de⟩, h⟩ => by
    refine wpAny_bind (β := PySem.Fin) (α := Addr) ?_
    unfold Builtin.Dict.noArgs
    refine wpAny_bind (wpAny_notOrdered_dict de.ty ?_)
    show wpAny _ _ (pure d) _ _ s
    refine wpAny_pure ?_
    show wpAny _ _ (Builtin.Dict.showsAll d >>= _) _ _ s
    unfold Builtin.Dict.showsAll
    rw [if_neg (by rw [hd]; exact Bool.false_ne_true)]
    exact wpAny_bind (wpAny_pure (wpAny_bind (wpAny_newObj_type (wpAny_pure ⟨_, rfl, h⟩))))
theorem val_iter {v : Addr} {Q : Value → Shared → Prop} (vw : s.heap.IsValuesView v d) (de : DEnt s.heap d es ep) (fin : Q (.ref s.heap.objs.size) { s with heap := s.heap.push { cls := .type "dict_valueiterator", data := .fields #[.ref d, .int 0 0, .int es.size 0, .int ep 0] } }) : wpAny (model prog w) A (pyIter (.ref v)) Q E s := by
  obtain ⟨ov, gv, cv, fv⟩ := id vw
  obtain ⟨od, gd, xd, dd⟩ := id de
  refine wpAny_pyIter_slot vw.typeIs F.slot_dict_values_iter (wpAny_call_entry F.slot_dict_values_iter vw.typeIs F.entry_dict_values_iter ?_ (F.args_dict_values_iter_1 _))
  unfold Builtin.«dict_values.__iter__» Builtin.Dict_items.dictOf Builtin.Dict_items.newIterator
  refine wpAny_bind (wpAny_pure (wpAny_bind (wpAny_bind (wpAny_field gv fv (x := .ref d) rfl (wpAny_pure (wpAny_bind (wpAny_bind (wpAny_dictEntries gd dd (wpAny_bind (wpAny_dictEpoch gd dd ?_))))))))))
  simp only [show Builtin.Dict_items.ownsTuple "dict_valueiterator" = false by decide, Bool.false_eq_true, if_false]
  exact wpAny_newObj_type (wpAny_pure ⟨_, rfl, "dict_valueiterator", _, ⟨_, Heap.get?_push_size _ rfl, rfl⟩, F.slot_dict_valueiterator_next.lookup, by simpa [rawInt] using fin⟩)
theorem val_next {Q : Option Value → Shared → Prop} (ki : s.heap.IsValIter it d i es.size ep) (de : DEnt s.heap d es ep) (li : i < es.size)
    (fin : ∀ h', h'.IsValIter it d (i + 1) es.size ep → Heap.SameBut it s.heap h' → Q (some es[i].val) { s with heap := h' }) : wpAny (model prog w) A (pyNext (.ref it)) Q E s := by
  obtain ⟨oi, gi, ci, fi⟩ := id ki
  obtain ⟨od, gd, xd, dd⟩ := de
  have ti := ki.typeIs
  unfold pyNext
  refine wpAny_bind (wpAny_attempt (wpAny_callSpecial?_slot (name := Str.ofString "__next__") ti F.slot_dict_valueiterator_next (wpAny_call_entry F.slot_dict_valueiterator_next ti F.entry_dict_valueiterator_next (wpAny_bind (wpAny_pure (wpAny_bind (wpAny_bind ?_)))) (F.args_dict_valueiterator_next_1 _))))
  refine wpAny_bind (wpAny_typeNameOfWhole_valiter ti (wpAny_pure (wpAny_bind (wpAny_fieldsOf gi fi ?_))))
  simp only [show Builtin.Dict_items.ownsTuple "dict_valueiterator" = false by decide, Bool.false_eq_true, if_false]
  show wpAny _ _ (if (Value.ref d == Value.none) = true then _ else _) _ _ s
  rw [if_neg (show ¬ ((Value.ref d == Value.none) = true) from Bool.false_ne_true)]
  refine wpAny_bind (wpAny_pure (wpAny_bind (wpAny_dictEntries gd dd ?_)))
  rw [if_neg (by simp)]
  refine wpAny_bind (wpAny_pure (wpAny_bind (wpAny_dictEpoch gd dd ?_)))
  rw [if_neg (by simp)]
  refine wpAny_pure ?_
  simp only [show ¬ ((i : Int) < 0) from by omega, if_false, Int.toNat_natCast, Array.getElem?_eq_getElem li]
  refine wpAny_bind (wpAny_bind (wpAny_typeNameOfWhole_valiter ti (wpAny_pure (wpAny_bind (wpAny_isOneOf_valiter ti ?_)))))
  show wpAny _ _ (setField (.ref it) 1 (rawInt ((i : Int) + 1)) >>= _) _ _ s
  have nx : (s.heap.update it (Obj.mapFields (·.setIfInBounds 1 (rawInt ((i : Int) + 1))))).IsValIter it d (i + 1) es.size ep :=
    ⟨_, Heap.get?_update_self _ gi (Obj.isFreed_of_fields (Obj.data_mapFields fi _)), (Obj.cls_mapFields ..).trans ci, by rw [Obj.data_mapFields fi]; simp [rawInt]⟩
  have tn : Shared.TypeIs { s with heap := s.heap.update it (Obj.mapFields (·.setIfInBounds 1 (rawInt ((i : Int) + 1)))) } (.ref it) "dict_valueiterator" := Heap.IsValIter.typeIs (s := { s with heap := s.heap.update it (Obj.mapFields (·.setIfInBounds 1 (rawInt ((i : Int) + 1)))) }) nx
  refine wpAny_bind (wpAny_setField gi fi (by simp) (wpAny_bind (wpAny_holding (wpAny_bind (wpAny_isOneOf_valiter tn ?_)))))
  refine wpAny_bind (wpAny_isOneOf_valiter tn ?_)
  show wpAny _ _ (pure es[i].val) _ _ _
  exact wpAny_pure (wpAny_pure ⟨_, rfl, wpAny_pure (fin _ nx (Heap.SameBut.update ..))⟩)
theorem val_end {Q : Option Value → Shared → Prop} (hh : A.handled = none) (ki : s.heap.IsValIter it d i es.size ep) (de : DEnt s.heap d es ep) (li : es.size ≤ i) (fin : ∀ h', Heap.ExtBut it s.heap h' → Q none { s with heap := h' }) :
    wpAny (model prog w) A (pyNext (.ref it)) Q E s := by
  obtain ⟨oi, gi, ci, fi⟩ := id ki
  obtain ⟨od, gd, xd, dd⟩ := de
  have ti := ki.typeIs
  unfold pyNext
  refine wpAny_bind (wpAny_attempt (wpAny_callSpecial?_slot (name := Str.ofString "__next__") ti F.slot_dict_valueiterator_next (wpAny_call_entry F.slot_dict_valueiterator_next ti F.entry_dict_valueiterator_next (wpAny_bind (wpAny_pure (wpAny_bind (wpAny_bind ?_)))) (F.args_dict_valueiterator_next_1 _))))
  refine wpAny_bind (wpAny_typeNameOfWhole_valiter ti (wpAny_pure (wpAny_bind (wpAny_fieldsOf gi fi ?_))))
  simp only [show Builtin.Dict_items.ownsTuple "dict_valueiterator" = false by decide, Bool.false_eq_true, if_false]
  show wpAny _ _ (if (Value.ref d == Value.none) = true then _ else _) _ _ s
  rw [if_neg (show ¬ ((Value.ref d == Value.none) = true) from Bool.false_ne_true)]
  refine wpAny_bind (wpAny_pure (wpAny_bind (wpAny_dictEntries gd dd ?_)))
  rw [if_neg (by simp)]
  refine wpAny_bind (wpAny_pure (wpAny_bind (wpAny_dictEpoch gd dd ?_)))
  rw [if_neg (by simp)]
  refine wpAny_pure ?_
  simp only [show ¬ ((i : Int) < 0) from by omega, if_false, Int.toNat_natCast, Array.getElem?_eq_none li]
  refine wpAny_bind (wpAny_bind (wpAny_typeNameOfWhole_valiter ti (wpAny_pure ?_)))
  show wpAny _ _ (setField (.ref it) 0 .none >>= _) _ _ s
  refine wpAny_bind (wpAny_setField gi fi (by simp) ?_)
  show wpAny _ _ (newExc (.type "StopIteration") [] >>= _) _ _ _
  refine wpAny_bind ?_
  simp only [newExc, newTuple]
  refine wpAny_bind (wpAny_newObj_type (wpAny_bind (m := firstArgMember _ _) (wpAny_of_eq (a := Value.none) (by first | rfl | (simp only [firstArgMember]; rfl)) (wpAny_newObj_type ?_ (by size_fits)))) (by size_fits))
  simp only [raiseNew]
  refine wpAny_bind (wpAny_handled ?_)
  rw [show A.in1.handled = none from hh]
  refine wpAny_bind (wpAny_pure (wpAny_throw ?_))
  refine wpAny_bind (wpAny_isInstance (T := "StopIteration") (b := true) ⟨_, Heap.get?_push_size _ rfl, rfl⟩ isSubtype_stop (wpAny_pure (fin _ ?_)))
  exact ((Heap.SameBut.update ..).extBut.push _).push _
end
end DI

set_option Elab.async false
set_option linter.all false
set_option maxRecDepth 100000
set_option maxHeartbeats 4000000
namespace DI
open PySem PySem.W PyProof.Rows
section
variable {prog : Program} {w : World} {A : Around} {d r : Addr} {es : Array DictEntry} {ep : Nat}
def IsKey (es : Array DictEntry) (i : Nat) (v : Value) : Prop := ∃ e, es[i]? = some e ∧ v = e.key
def IsVal (es : Array DictEntry) (i : Nat) (v : Value) : Prop := ∃ e, es[i]? = some e ∧ v = e.val
theorem walks_key (hh : A.handled = none) (I d : Addr) (hne : d ≠ I) (es : Array DictEntry) (ep : Nat) : Walks prog w A I [I, d] [I] es.size (IsKey es) (fun i h => h.IsKeyIter I d i es.size ep ∧ DEnt h d es ep) where
  sub := by simp
  frame := fun i h h' st k => ⟨st.1.at fun o e => k I (by simp) o e, st.2.at fun o e => k d (by simp) o e⟩
  item := fun i s Q E hi st hQ => key_next st.1 st.2 hi fun h' k' sb => hQ _ h' s.toks ⟨_, Array.getElem?_eq_getElem hi, rfl⟩ ⟨k', st.2.at fun o e => (sb.2 d hne).trans e⟩ fun b o hb e => (sb.2 b (by simpa using hb)).trans e
  done := fun s Q E st hQ => key_end hh st.1 st.2 (Nat.le_refl _) fun h' eb => hQ h' s.toks fun b o hb e => eb b o (by simpa using hb) e
  self := fun i s Q E st h => wpAny_pyIter_keyiter st.1 h
theorem walks_val (hh : A.handled = none) (I d : Addr) (hne : d ≠ I) (es : Array DictEntry) (ep : Nat) : Walks prog w A I [I, d] [I] es.size (IsVal es) (fun i h => h.IsValIter I d i es.size ep ∧ DEnt h d es ep) where
  sub := by simp
  frame := fun i h h' st k => ⟨st.1.at fun o e => k I (by simp) o e, st.2.at fun o e => k d (by simp) o e⟩
  item := fun i s Q E hi st hQ => val_next st.1 st.2 hi fun h' k' sb => hQ _ h' s.toks ⟨_, Array.getElem?_eq_getElem hi, rfl⟩ ⟨k', st.2.at fun o e => (sb.2 d hne).trans e⟩ fun b o hb e => (sb.2 b (by simpa using hb)).trans e
  done := fun s Q E st hQ => val_end hh st.1 st.2 (Nat.le_refl _) fun h' eb => hQ h' s.toks fun b o hb e => eb b o (by simpa using hb) e
  self := fun i s Q E st h => wpAny_pyIter_valiter st.1 h
theorem DEnt.lt {h : Heap} (x : DEnt h d es ep) : d < h.objs.size := let ⟨_, e, _⟩ := x; Heap.lt_size e
theorem src_dict (lo : (d == sysModules) = false) : KdlSrc prog w "dict" d d es.size (IsKey es) (fun h => DEnt h d es ep) where
  type := fun _ x => x.ty
  there := fun _ x => ⟨x.lt, x.lt⟩
  keep := fun _ _ x k => x.at fun o e => k d (.inl rfl) o e
  notList := by decide
  notTuple := by decide
  hint := fun _ _ _ _ x q => kdl_hint_dict x.ty q
  iter := fun _ _ hh x => ⟨_, _, (fun _ _ q => key_iter lo x q), walks_key hh _ d (Nat.ne_of_lt x.lt) es ep, ⟨⟨_, Heap.get?_push_size _ rfl, rfl, rfl⟩, x.at fun o e => Heap.get?_push_of_some _ e⟩⟩
/-- collect of what can be walked -/
theorem collect_src {T : String} {n : Nat} {P : Nat → Value → Prop} {OK : Heap → Prop} {E : Value → Shared → Prop} {s : Shared} {Q : List Value → Shared → Prop} (K : KdlSrc prog w T r d n P OK) (hh : A.handled = none) (ok : OK s.heap) (few : n ≤ sizeLine)
    (fin : ∀ h' tk (vs : List Value), (∀ b o, s.heap.get? b = some o → h'.get? b = some o) → vs.length = n → (∀ j v, vs[j]? = some v → P j v) → Q vs { s with heap := h', toks := tk }) : wpAny (model prog w) A (collect (.ref r)) Q E s := by
  unfold collect
  refine wpAny_bind (wpAny_runValue (codeAny_builtin PySem.F.entry_proto_collect ?_))
  rw [Around.under_plainId PySem.F.plain_proto_collect _]
  show wpAny _ A.in1 (newList [] >>= fun l => again (.builtin "list.__iadd__" ⟨[l, .ref r], []⟩)) _ _ s
  refine wpAny_bind (wpAny_newObj_type (wpAny_pure ⟨plainId_quiet PySem.F.plain_list_iadd _, codeAny_builtin PySem.F.entry_list_iadd ?_⟩))
  rw [Around.under_plainId PySem.F.plain_list_iadd _]
  have th := K.there _ ok
  show wpAny _ A.in1 (Builtin.List.listExtendWith (.ref s.heap.objs.size) (.ref r) (.ref s.heap.objs.size)) _ _ _
  refine kdl_extend (A := A) (R := fun (x : Result) s' => match x with
    | .ok (.ret v) => wpAny (model prog w) A (match v with
      | .ref a => do
        let o ← load a
        match o.data with
        | .seq xs _ => pure xs.toList
        | _ => unsupported "internal:collect"
      | _ => unsupported "internal:collect") Q E s'
    | .ok _ => False
    | .error e => E e s') (s := { s with heap := s.heap.push { cls := .type "list", data := .seq #[] } }) K hh (K.keep _ _ ok fun b _ o e => Heap.get?_push_of_some _ e) s.heap.objs.size (Nat.ne_of_gt th.1) (Nat.ne_of_gt th.2) _ 0 (Heap.get?_push_size _ rfl) (fun h' tk acc c k hS it => ?_) few
  show wpAny _ A (load s.heap.objs.size >>= _) _ _ { s with heap := h', toks := tk }
  refine wpAny_bind (wpAny_load hS (wpAny_pure ?_))
  exact fin h' tk acc.toList (fun b o e => k b o (Nat.ne_of_lt (Heap.lt_size e)) (Heap.get?_push_of_some _ e)) (by rw [Array.length_toList]; exact it.1) fun j v e => it.2 j v (by rw [← Array.getElem?_toList]; exact e)
end
end DI

set_option Elab.async false
set_option linter.all false
set_option maxRecDepth 100000
set_option maxHeartbeats 4000000
namespace L2
open PySem PySem.W PySem.Spec PyProof.Rows DI
/-! ### sorted(d), sorted(d.items()), list(d), sum(d.values()): d a dict whose keys are tuples -/
/-- the entries of a tracked dict with tuples as keys -/
def EntT (H : Hp) (kvs : List (List Key × V)) (es : Array DictEntry) : Prop :=
  Paired (fun (p : List Key × V) (e : DictEntry) => ∃ b, e.key = .ref b ∧ H b = some (.tup (p.1.map kV)) ∧ RelV p.2 e.val) kvs es.toList
theorem EntT.size {H : Hp} {kvs : List (List Key × V)} {es : Array DictEntry} (h : EntT H kvs es) : es.size = kvs.length := by have := Paired.length h; simpa using this.symm
theorem EntT.at {H : Hp} {kvs : List (List Key × V)} {es : Array DictEntry} (h : EntT H kvs es) {i : Nat} {e : DictEntry} (q : es[i]? = some e) : ∃ kv b, kvs[i]? = some kv ∧ e.key = .ref b ∧ H b = some (.tup (kv.1.map kV)) ∧ RelV kv.2 e.val := by
  have : ∀ {l : List (List Key × V)} {m : List DictEntry}, Paired (fun (p : List Key × V) (e : DictEntry) => ∃ b, e.key = .ref b ∧ H b = some (.tup (p.1.map kV)) ∧ RelV p.2 e.val) l m → ∀ {i : Nat} {e}, m[i]? = some e → ∃ kv b, l[i]? = some kv ∧ e.key = .ref b ∧ H b = some (.tup (kv.1.map kV)) ∧ RelV kv.2 e.val := by
    intro l m r
    induction r with
    | nil => intro i e q; simp at q
    | @cons p q ps qs hq t ih =>
      intro i e z
      cases i with
      | zero => simp at z; subst z; obtain ⟨b, h1, h2, h3⟩ := hq; exact ⟨p, b, rfl, h1, h2, h3⟩
      | succ i => simpa using ih (by simpa using z)
  exact this h (by rw [Array.getElem?_toList]; exact q)
theorem Inv.entT {X : Cx} {pins : List (Addr × Obj)} {σ : St} {H : Hp} {s : Shared} {d : Addr} {kvs : List (List Key × V)} (I : Inv X pins σ H s) (h : Rd H d (.dT kvs)) : (d == sysModules) = false ∧ kvs.length ≤ sizeLine ∧ (kvs.map (·.1)).Nodup ∧ ∃ es ep, DEnt s.heap d es ep ∧ EntT H kvs es := by
  obtain ⟨z, y, xs, r, o, es, ep, h1, h2, h3, h4, h5⟩ := (show ObjOk X.prog X.w H s.heap d (.dT kvs) from rd_of I.hok h)
  have ek : kvs.map (·.1) = xs.map (·.1) := by
    clear h4 h5 z h
    induction r with
    | nil => rfl
    | @cons p q ps qs hq t ih => rw [List.map_cons, List.map_cons, hq.1, ih]
  refine ⟨y, z, by rw [ek]; exact h5, es, ep, ⟨o, h1, h2, h3⟩, ?_⟩
  unfold EntT
  rw [h4]
  clear h4 h5 ek z h
  induction r with
  | nil => exact .nil
  | @cons p q ps qs hq t ih => exact .cons ⟨q.2.1, rfl, hq.2.1, hq.2.2⟩ ih
section
variable {X : Cx} {pins : List (Addr × Obj)} {σ : St} {A : Around} {R : Result → Shared → Prop} {it S d : Addr} {es : Array DictEntry} {ep : Nat} {kvs : List (List Key × V)} {H0 : Hp} {res : Value}
end
end L2

set_option Elab.async false
set_option linter.all false
set_option maxRecDepth 100000
set_option maxHeartbeats 4000000
namespace Srt
open PySem PySem.W PySem.Spec PyProof.Rows L2
/-! ### the order of tuples of ints -/
def lexI : List Int → List Int → Bool
  | [], [] => false
  | [], _ :: _ => true
  | _ :: _, [] => false
  | a :: as, b :: bs => if a = b then lexI as bs else decide (a < b)
theorem lexI_asym : ∀ a b, lexI a b = true → lexI b a = false
  | [], [], h => by simp [lexI] at h
  | [], _ :: _, _ => rfl
  | _ :: _, [], h => by simp [lexI] at h
  | a :: as, b :: bs, h => by
    unfold lexI at h ⊢
    by_cases e : a = b
    · rw [if_pos e] at h; rw [if_pos e.symm]; exact lexI_asym as bs h
    · rw [if_neg e] at h; rw [if_neg (Ne.symm e)]
      simp at h ⊢; omega
theorem lexI_tr : ∀ a b c, lexI b a = false → lexI c b = false → lexI c a = false
  | [], [], c, _, h => h
  | [], b :: bs, [], _, _ => rfl
  | [], b :: bs, c :: cs, _, _ => rfl
  | a :: as, [], c, h, _ => by simp [lexI] at h
  | a :: as, b :: bs, [], _, h => by simp [lexI] at h
  | a :: as, b :: bs, c :: cs, h1, h2 => by
    unfold lexI at h1 h2 ⊢
    by_cases e1 : b = a <;> by_cases e2 : c = b
    · rw [if_pos e1] at h1; rw [if_pos e2] at h2; rw [if_pos (e2.trans e1)]; exact lexI_tr as bs cs h1 h2
    · rw [if_pos e1] at h1; rw [if_neg e2] at h2; rw [if_neg (fun z => e2 (z.trans e1.symm))]; rw [← e1]; exact h2
    · rw [if_neg e1] at h1; rw [if_pos e2] at h2; rw [if_neg (fun z => e1 (e2.symm.trans z))]; rw [e2]; exact h1
    · rw [if_neg e1] at h1; rw [if_neg e2] at h2
      simp at h1 h2
      rw [if_neg (by omega)]; simp; omega
theorem lexI_tot : ∀ a b, lexI a b = false → lexI b a = false → a = b
  | [], [], _, _ => rfl
  | [], _ :: _, h, _ => by simp [lexI] at h
  | _ :: _, [], _, h => by simp [lexI] at h
  | a :: as, b :: bs, h1, h2 => by
    unfold lexI at h1 h2
    by_cases e : a = b
    · subst e; rw [if_pos rfl] at h1 h2; rw [lexI_tot as bs h1 h2]
    · rw [if_neg e] at h1; rw [if_neg (Ne.symm e)] at h2
      simp at h1 h2; omega
theorem ordI (ks : Nat → List Int) : Ord fun i j => lexI (ks i) (ks j) := ⟨fun i j h => lexI_asym _ _ h, fun i j k h1 h2 => lexI_tr _ _ _ h1 h2⟩
/-- a tuple of ints -/
def TupI (h : Heap) (b : Addr) (ks : List Int) : Prop := ∃ o items n, h.get? b = some o ∧ o.cls = .type "tuple" ∧ o.data = .seq items n ∧ IntsAre items.toList ks
theorem TupI.at {h h' : Heap} {b : Addr} {ks : List Int} (x : TupI h b ks) (k : ∀ o, h.get? b = some o → h'.get? b = some o) : TupI h' b ks := let ⟨o, i, n, e, r⟩ := x; ⟨o, i, n, k o e, r⟩
section
variable {prog : Program} {w : World} {A : Around} {E : Value → Shared → Prop} {s : Shared}
theorem lex_ints {Q : Bool → Shared → Prop} : ∀ {xs ys : List Value} {as bs : List Int} (i : Nat), IntsAre xs as → IntsAre ys bs → Q (lexI as bs) s → KatLex prog w A true (decide (xs.length < ys.length)) Q (xs.zip ys) i s
  | _, _, _, _, i, .nil, .nil, h => h
  | _, _, _, _, i, .nil, .cons _ _ _, h => by simpa [lexI, KatLex] using h
  | _, _, _, _, i, .cons _ _ _, .nil, h => by simpa [lexI, KatLex] using h
  | _, _, _, _, i, .cons (vs := xs) (ns := as) a t ra, .cons (vs := ys) (ns := bs) b u rb, h => by
    rw [List.zip_cons_cons]
    refine kat_cons ((SeqAt.EqAt.int_int a t b u) prog w _ _ (kat_go (fun e => kat_yes ?_) fun e => kat_no ?_))
    · have e' : a = b := by simpa using e
      subst e'
      have := lex_ints (Q := Q) (xs := xs) (ys := ys) (as := as) (bs := bs) (i + 1) ra rb (by unfold lexI at h; rw [if_pos rfl] at h; exact h)
      simpa using this
    · have e' : a ≠ b := by simpa using e
      have h' : Q (decide (a < b)) s := by unfold lexI at h; rw [if_neg e'] at h; exact h
      cases i with
      | zero => exact oneLt_int h'
      | succ i => exact kat_one _ _ (lt_int h')
theorem less_ints {x y : Addr} {as bs : List Int} {Q : Bool → Shared → Prop} (hx : TupI s.heap x as) (hy : TupI s.heap y bs) (h : Q (lexI as bs) s) : wpAny (model prog w) A (keyLt' (tuples' true) (.ref x) (.ref y)) Q E s := by
  obtain ⟨ox, xs, n, e1, c1, d1, r1⟩ := hx
  obtain ⟨oy, ys, m, e2, c2, d2, r2⟩ := hy
  refine kat_lt e1 d1 e2 d2 ?_
  have := lex_ints (prog := prog) (w := w) (A := A) 0 r1 r2 h
  simpa using this
end
end Srt

set_option Elab.async false
set_option linter.all false
set_option maxRecDepth 100000
set_option maxHeartbeats 4000000
namespace L2
open PySem PySem.W PySem.Spec PyProof.Rows DI Srt
theorem paired_at {α β : Type} {F : α → β → Prop} : ∀ {xs : List α} {ys : List β}, xs.length = ys.length → (∀ (j : Nat) x y, xs[j]? = some x → ys[j]? = some y → F x y) → Paired F xs ys
  | [], [], _, _ => .nil
  | x :: xs, y :: ys, hl, h => .cons (h 0 x y rfl rfl) (paired_at (by simpa using hl) fun j a b p q => h (j + 1) a b (by simpa using p) (by simpa using q))
  | [], _ :: _, hl, _ => by simp at hl
  | _ :: _, [], hl, _ => by simp at hl
theorem paired_get {α β : Type} {F : α → β → Prop} {xs : List α} {ys : List β} (h : Paired F xs ys) : ∀ {j : Nat} {x : α}, xs[j]? = some x → ∃ y, ys[j]? = some y ∧ F x y := by
  induction h with
  | nil => intro j x e; simp at e
  | @cons a b as bs r t ih =>
    intro j x e
    cases j with
    | zero => simp at e; subst e; exact ⟨b, rfl, r⟩
    | succ j => simpa using ih (by simpa using e)
theorem paired_get' {α β : Type} {F : α → β → Prop} {xs : List α} {ys : List β} (h : Paired F xs ys) {j : Nat} {x : α} {y : β} (e1 : xs[j]? = some x) (e2 : ys[j]? = some y) : F x y := by
  obtain ⟨z, e, r⟩ := paired_get h e1
  rw [e2] at e; cases e; exact r
/-- tuples of ints, by their addresses -/
abbrev TupsAt (H : Hp) (bs : List Addr) (ks : List (List Int)) : Prop := Paired (fun b k => H b = some (.tup (iv k))) bs ks
theorem Inv.tupI {X : Cx} {pins : List (Addr × Obj)} {σ : St} {H : Hp} {s : Shared} {b : Addr} {k : List Int} (I : Inv X pins σ H s) (h : H b = some (.tup (iv k))) : TupI s.heap b k := by
  obtain ⟨z, its, r, o, e, c, n, d, _⟩ := (show ObjOk X.prog X.w H s.heap b (.tup (iv k)) from I.hok b _ h)
  exact ⟨o, its.toArray, n, e, c, d, by simpa using intsAre_of r⟩
theorem of_map {α : Type} {n : Nat} {p : Array Nat} (hp : Of n p) {ks : List α} (hk : ks.length = n) (d : α) : (p.toList.map fun i => ks.getD i d).Perm ks := by
  have h1 := (Array.perm_iff_toList_perm.mp hp).map fun i => ks.getD i d
  have h2 : ((List.toArray (List.range n)).toList.map fun i => ks.getD i d) = ks := by
    show (List.range n).map _ = ks
    refine List.ext_getElem (by simp [hk]) fun i a b => ?_
    simp at a
    simp [hk ▸ a]
  rw [h2] at h1; exact h1
theorem up_pairwise {c : Nat → Nat → Bool} {n : Nat} {p : Array Nat} (hp : Of n p) (u : Up c p n) : p.toList.Pairwise fun i j => c j i = false := by
  rw [List.pairwise_iff_getElem]
  intro i j hi hj hij
  have hs := hp.size
  have := u i j (Nat.le_of_lt hij) (by rw [← hs]; simpa using hj)
  have e1 : at' p i = p.toList[i] := by unfold at'; simp at hi; simp [hi]
  have e2 : at' p j = p.toList[j] := by unfold at'; simp at hj; simp [hj]
  rw [e1, e2] at this; exact this
theorem asks_ints {prog : Program} {w : World} {A : Around} {s : Shared} {bs : List Addr} {ks : List (List Int)} (hl : bs.length = ks.length) (h2 : 2 ≤ bs.length) (ht : ∀ (j : Nat) b k, bs[j]? = some b → ks[j]? = some k → TupI s.heap b k ∧ k ≠ []) :
    Asks prog w A (bs.map Value.ref) (fun i j => lexI (ks.getD i []) (ks.getD j [])) (tuples' true) s where
  kind := fun E Q h => by
    obtain ⟨fs, hf, hi, hn⟩ : ∃ fs : List Value, KatTups s.heap (bs.map Value.ref) fs ∧ (∀ v ∈ fs, ∃ n t, v = .int n t) ∧ fs.length = bs.length := by
      clear h2 h
      induction bs generalizing ks with
      | nil => exact ⟨[], .nil, (fun v hv => nomatch hv), rfl⟩
      | cons b bs ih =>
        cases ks with
        | nil => simp at hl
        | cons k ks =>
          obtain ⟨fs, h1, h2, h3⟩ := ih (ks := ks) (by simpa using hl) fun j b' k' e1 e2 => ht (j + 1) b' k' (by simpa using e1) (by simpa using e2)
          obtain ⟨⟨o, items, n, e, c, d, r⟩, ne⟩ := ht 0 b k rfl rfl
          obtain ⟨x, xs, rfl⟩ : ∃ x xs, k = x :: xs := by cases k with
            | nil => exact absurd rfl ne
            | cons x xs => exact ⟨x, xs, rfl⟩
          generalize hit : items.toList = l at r
          cases r with
          | cons n' t q =>
            refine ⟨.int x t :: fs, .cons e c d ?_ h1, fun v hv => ?_, by simp [h3]⟩
            · rw [← Array.getElem?_toList, hit]; rfl
            · rcases List.mem_cons.mp hv with rfl | hv
              · exact ⟨_, _, rfl⟩
              · exact h2 v hv
    refine kat_kind (T := .type "int") hf (by omega) (fun v hv => ?_) (by decide) h
    obtain ⟨n, t, rfl⟩ := hi v hv
    exact .now
  less := fun i j ⟨hi, hj, hne⟩ Q h => by
    rw [List.length_map] at hi hj
    have g1 : (bs.map Value.ref).getD i Value.none = .ref bs[i] := by simp [hi]
    have g2 : (bs.map Value.ref).getD j Value.none = .ref bs[j] := by simp [hj]
    have k1 : ks.getD i [] = ks[i]'(by omega) := by simp [hl ▸ hi]
    have k2 : ks.getD j [] = ks[j]'(by omega) := by simp [hl ▸ hj]
    rw [g1, g2]
    rw [k1, k2] at h
    exact less_ints (ht i _ _ (by simp [hi]) (by simp [hl ▸ hi])).1 (ht j _ _ (by simp [hj]) (by simp [hl ▸ hj])).1 h
/-- sorted(d): the keys of d, tuples of ints, in order -/
def Rising (ms : List (List Int)) : Prop := ms.Pairwise fun a b => lexI b a = false
def rSortedK : List V → Hp → VK → Prop := fun xs H Q => ∃ (d : Addr) (kvs : List (List Key × V)) (ks : List (List Int)), xs = [.ref d] ∧ Rd H d (.dT kvs) ∧ kvs.map (·.1) = ks.map (fun k => k.map Sum.inl) ∧ (∀ k ∈ ks, k ≠ []) ∧ ks.length < 64 ∧
  ∀ (q : Addr) (bs : List Addr) (ms : List (List Int)), H q = none → ms.Perm ks → Rising ms → TupsAt H bs ms → Q (.ref q) (upd H q (.lst (bs.map V.ref)))
section
variable {X : Cx}
theorem keys_inl {H : Hp} {b : Addr} {k : List Int} (h : H b = some (.tup ((k.map Sum.inl).map kV))) : H b = some (.tup (iv k)) := by
  rw [h, List.map_map]; rfl
theorem vals_refs : ∀ (bs : List Addr), Vals (bs.map V.ref) (bs.map Value.ref)
  | [] => .nil
  | _ :: bs => .cons rfl (vals_refs bs)
theorem tups_out {H : Hp} {bs : List Addr} {ks : List (List Int)} (h : TupsAt H bs ks) {n : Nat} {p : Array Nat} (hp : Of n p) (hn : ks.length = n) : TupsAt H (p.toList.map fun i => bs.getD i 0) (p.toList.map fun i => ks.getD i []) := by
  refine paired_at (by simp) fun j x y e1 e2 => ?_
  have hl := Paired.length h
  rw [List.getElem?_map, Option.map_eq_some_iff] at e1 e2
  obtain ⟨i, hi, rfl⟩ := e1
  obtain ⟨i', hi', rfl⟩ := e2
  rw [hi] at hi'; cases hi'
  have lt : i < n := by
    have := (Array.perm_iff_toList_perm.mp hp).mem_iff.mp (List.mem_of_getElem? hi)
    exact List.mem_range.mp this
  have l1 : i < bs.length := by omega
  have l2 : i < ks.length := by omega
  exact paired_get' h (x := bs.getD i 0) (y := ks.getD i []) (j := i) (by simp [l1]) (by simp [l2])
theorem call_sortedK (hc : X.calm = true) : CallR X (.builtin "sorted") rSortedK := by
  intro pins s σ H xs us Q I r h
  obtain ⟨d, kvs, ks, rfl, hd, ek, hne, few, q⟩ := h
  obtain ⟨u, rfl, ru⟩ := vals1 r
  obtain rfl : u = Value.ref d := ru
  obtain ⟨lo, z, nd, es, ep, de, en⟩ := I.entT hd
  have hkl : kvs.length = ks.length := by have := congrArg List.length ek; simpa using this
  have hes := en.size
  refine sorted_by (collect_src (src_dict lo) (I.ok.hd hc) de (by omega) fun h' tk vs kp lv pv => ?_)
  obtain ⟨bs, rfl, tb⟩ : ∃ bs : List Addr, vs = bs.map Value.ref ∧ TupsAt H bs ks := by
    have : ∀ (j : Nat) v, vs[j]? = some v → ∃ b k, v = .ref b ∧ ks[j]? = some k ∧ H b = some (.tup (iv k)) := fun j v e => by
      obtain ⟨e', he, rfl⟩ := pv j v e
      obtain ⟨kv, b, w1, w2, w3, _⟩ := en.at he
      have hk : (kvs.map (·.1))[j]? = some kv.1 := by rw [List.getElem?_map, w1]; rfl
      rw [ek, List.getElem?_map, Option.map_eq_some_iff] at hk
      obtain ⟨k, hk1, hk2⟩ := hk
      exact ⟨b, k, w2, hk1, keys_inl (by rw [hk2]; exact w3)⟩
    have hvl : vs.length = ks.length := by omega
    clear pv lv hes en ek hne few q hkl nd z
    induction vs generalizing ks with
    | nil => cases ks with
      | nil => exact ⟨[], rfl, .nil⟩
      | cons k ks => simp at hvl
    | cons v vs ih =>
      cases ks with
      | nil => simp at hvl
      | cons k ks =>
        obtain ⟨b, k', rfl, e1, e2⟩ := this 0 v rfl
        simp at e1; subst e1
        obtain ⟨bs, rfl, t⟩ := ih ks (fun j v e => by simpa using this (j + 1) v (by simpa using e)) (by simpa using hvl)
        exact ⟨b :: bs, rfl, .cons e2 t⟩
  have hbl : bs.length = ks.length := Paired.length tb
  have I2 : Inv X pins σ H { s with heap := h', toks := tk } := I.kept (t' := tk) kp
  refine ⟨by simpa [hbl] using few, fun i j => lexI (ks.getD i []) (ks.getD j []), tuples' true, ordI _, fun h2 h'' kp2 => asks_ints hbl (by simpa using h2) fun j b k e1 e2 => ⟨?_, hne k (List.mem_of_getElem? e2)⟩, fun p e h'' o1 o2 kp2 at2 => ?_⟩
  · exact (I2.tupI (paired_get' tb e1 e2)).at fun o e => kp2 b o e
  · rw [List.length_map, hbl] at o1 o2
    have pw := up_pairwise o1 o2
    refine ⟨.ref h'.objs.size, _, I2.laid (t' := tk) (a := h'.objs.size) (o := .lst ((p.toList.map fun i => bs.getD i 0).map V.ref)) kp2 (Nat.le_refl _) ⟨?_, (p.toList.map fun i => bs.getD i 0).map Value.ref, e, vals_refs _, ?_⟩, rfl, q _ (p.toList.map fun i => bs.getD i 0) (p.toList.map fun i => ks.getD i []) (I2.hok.fresh (Nat.le_refl _)) (of_map o1 rfl _) ?_ (tups_out tb o1 rfl)⟩
    · simp; rw [o1.size, sizeLine_eq]; omega
    · rw [at2]
      congr 3
      unfold outOf
      rw [List.map_map]
      congr 1
      refine List.map_congr_left fun i hi => ?_
      have lt : i < ks.length := List.mem_range.mp ((Array.perm_iff_toList_perm.mp o1).mem_iff.mp hi)
      simp [hbl ▸ lt]
    · exact List.pairwise_map.mpr pw
end
end L2

set_option Elab.async false
set_option linter.all false
set_option maxRecDepth 100000
set_option maxHeartbeats 4000000
namespace L2
open PySem PySem.W PySem.Spec PyProof.Rows DI Srt
/-! ### d.items(), d.values(): views, known by their object -/
def vaV (v d : Addr) : HO := .ext fun h => h.IsValuesView v d
section
variable {X : Cx} {o : Expr} {to : TE} {apos cpos : Pos}
def tValues (to : TE) : TE := fun σ H Q => to σ H fun x H1 => ∃ d kvs, x = .ref d ∧ Rd H1 d (.dT kvs) ∧ ∀ v, H1 v = none → Q (.ref v) (upd H1 v (vaV v d))
theorem pe_values (ho : PE X o to) (hbase : attributeBase o "values" X.env (eval o X.env) = eval o X.env := by rfl) (hline : (apos.endLine == cpos.line) = true := by rfl) : PE X (.Call (.Attribute o "values" apos) [] [] cpos) (tValues to) := by
  intro pins s σ H Q I h
  refine wpAny_Call_method0_late hbase hline (thn (ho pins s σ H _ I h) fun v s1 ⟨x, H1, I1, r1, d, kvs, ex, hd, q⟩ => ?_)
  subst ex
  cases r1
  obtain ⟨lo, z, nd, es, ep, de, en⟩ := I1.entT hd
  obtain ⟨ob, gb, xb, db⟩ := id de
  refine ⟨"dict", "dict.values", F.plainAttrs_dict, F.slot_dict_values, F.type_dict_values, de.ty, (fun b e => by cases e; exact ⟨ob, gb, xb.2.1⟩), Calls.callWith_builtin rfl (PySem.evalArgs_none ?_)⟩
  refine call_meetsIn F.slot_dict_values de.ty F.entry_dict_values (F.args_dict_values_1 _) (view_values lo) ⟨⟨es, ep, de⟩, .ref s1.heap.objs.size, _, I1.laid (t' := s1.toks) (o := vaV s1.heap.objs.size d) (fun b u e => Heap.get?_push_of_some _ e) (Nat.le_refl _) ⟨⟨_, Heap.get?_push_size _ rfl, rfl, rfl⟩, ⟨_, Heap.get?_push_size _ rfl⟩, fun h1 h2 ⟨o, e, r⟩ k => ⟨o, k o e, r⟩⟩, rfl, q _ (I1.hok.fresh (Nat.le_refl _))⟩
end
section
variable {X : Cx}
/-- sum(d.values()), ints -/
theorem preSum_list (f : Nat → Int) (ns : List Int) (h : ∀ i, i < ns.length → f i = ns.getD i 0) : PySem.preSum f ns.length = ns.sum := by
  have : ∀ m, m ≤ ns.length → PySem.preSum f m = (ns.take m).sum := by
    intro m
    induction m with
    | zero => intro _; simp [PySem.preSum]
    | succ m ih =>
      intro hm
      show PySem.preSum f m + f m = _
      have hl : m < ns.length := by omega
      rw [ih (by omega), h m hl, List.take_succ_eq_append_getElem hl, List.sum_append]
      simp [hl]
  have := this ns.length (Nat.le_refl _)
  rwa [List.take_length] at this
theorem call_sumV (hc : X.calm = true) : CallR X (.builtin "sum") (fun xs H Q => ∃ v d kvs ns, xs = [.ref v] ∧ H v = some (vaV v d) ∧ Rd H d (.dT kvs) ∧ kvs.map (·.2) = iv ns ∧ Q (.int ns.sum) H) := by
  intro pins s σ H xs us Q I r h
  obtain ⟨v, d, kvs, ns, rfl, hv, hd, en', q⟩ := h
  obtain ⟨u, rfl, ru⟩ := vals1 r
  obtain rfl : u = Value.ref v := ru
  obtain ⟨lo, z, nd, es, ep, de, en⟩ := I.entT hd
  obtain ⟨vw, _, _⟩ := (show ObjOk X.prog X.w H s.heap v (vaV v d) from I.hok v _ hv)
  have hl : kvs.length = ns.length := by have := congrArg List.length en'; simpa using this
  have hes := en.size
  refine PySem.call_sum_walkG (val_iter vw de ⟨_, _, _, _, _, _, (fun i => ns.getD i 0), rfl, walks_val (A := X.A.in1) (show X.A.in1.handled = none from I.ok.hd hc) _ d (Nat.ne_of_lt de.lt) es ep, ⟨⟨_, Heap.get?_push_size _ rfl, rfl, rfl⟩, de.at fun o e => Heap.get?_push_of_some _ e⟩, ?_, ?_, fun h' tk t' kp => ?_⟩)
  · intro b hb
    show b < (s.heap.push _).objs.size
    rw [Heap.size_push]
    simp only [List.mem_cons, List.not_mem_nil, or_false] at hb
    rcases hb with rfl | rfl
    · exact Nat.lt_succ_self _
    · exact Nat.lt_succ_of_lt de.lt
  · rintro i w' ⟨e, he, rfl⟩
    obtain ⟨kv, b, w1, w2, w3, w4⟩ := en.at he
    have hk : (kvs.map (·.2))[i]? = some kv.2 := by rw [List.getElem?_map, w1]; rfl
    rw [en', List.getElem?_map, Option.map_eq_some_iff] at hk
    obtain ⟨n, hn1, hn2⟩ := hk
    rw [← hn2] at w4
    obtain ⟨t, ht⟩ := (show ∃ t, e.val = Value.int n t from w4)
    refine ⟨t, ?_⟩
    rw [ht]; congr 1
    show n = ns.getD i 0
    rw [List.getD_eq_getElem?_getD, hn1]; rfl
  · have e : PySem.preSum (fun i => ns.getD i 0) es.size = ns.sum := by rw [hes, hl]; exact preSum_list _ ns fun i _ => rfl
    rw [e]
    refine ⟨.int ns.sum, H, I.kept (t' := tk) fun b o g => kp b o ?_ (Heap.get?_push_of_some _ g), ⟨_, rfl⟩, q⟩
    intro hm
    rw [List.mem_singleton.mp hm] at g
    exact absurd (Heap.lt_size g) (Nat.lt_irrefl _)
end
end L2

set_option Elab.async false
set_option linter.all false
set_option maxRecDepth 100000
set_option maxHeartbeats 4000000
namespace L2
open PySem PySem.W PySem.Spec PyProof.Rows DI Srt
section
variable {X : Cx} {pins : List (Addr × Obj)} {σ : St} {H : Hp} {s : Shared} {A : Around} {E : Value → Shared → Prop} {v d : Addr} {es : Array DictEntry} {ep : Nat} {kvs : List (List Key × V)}
end
end L2

set_option Elab.async false
set_option linter.all false
set_option maxRecDepth 100000
set_option maxHeartbeats 4000000
namespace L2
open PySem PySem.W PySem.Spec PyProof.Rows DI Srt
/-- keys that are tuples of ints -/
abbrev kI (kw : List Int × V) : List Key × V := (kw.1.map Sum.inl, kw.2)
section
variable {X : Cx}
end
end L2

set_option Elab.async false
set_option linter.all false
set_option maxRecDepth 100000
set_option maxHeartbeats 4000000
namespace L2
open PySem PySem.W PySem.Spec PyProof.Rows DI Srt
/-! ### walks whose yields are known: one set of readings for all iterators -/
structure Yields (J : It) (n : Nat) (f : Nat → Hp → V → Hp → Prop) (ok : Hp → Prop) : Prop where
  go : ∀ i H, i < n → ok H → J.go i H
  yld : ∀ i H x H', i < n → ok H → J.yld i H x H' → f i H x H'
  stop : ∀ H, ok H → J.stop n H
section
variable {J : It} {n : Nat} {f : Nat → Hp → V → Hp → Prop} {ok : Hp → Prop}
theorem for_Y (Y : Yields J n f ok) {g : TG} {tb : TS} {D : Ends} {σ : St} {H : Hp} (Pv : Nat → St → Hp → Prop) (h0 : Pv 0 σ H) (hok : ∀ i σ H, Pv i σ H → ok H)
    (hs : ∀ i x σ H H', i < n → Pv i σ H → f i H x H' → g x σ H' fun σ2 H2 => tb { D with nx := Pv (i + 1), ct := Pv (i + 1), bk := D.nx } σ2 H2) (hd : ∀ σ H, Pv n σ H → D.nx σ H) :
    ∃ W : Nat → Nat → St → Hp → Prop, (∃ m, W 0 m σ H) ∧ ∀ i m σ H, W i m σ H →
      (J.stop i H ∧ D.nx σ H) ∨ (J.go i H ∧ ∃ N : St → Hp → Prop, (∀ σ' H', N σ' H' → ∃ m', m' < m ∧ W (i + 1) m' σ' H') ∧ ∀ x H', J.yld i H x H' → g x σ H' fun σ2 H2 => tb { D with nx := N, ct := N, bk := D.nx } σ2 H2) := by
  refine ⟨fun i m σ H => m = n - i ∧ i ≤ n ∧ Pv i σ H, ⟨n, by simp, Nat.zero_le _, h0⟩, ?_⟩
  rintro i m σ H ⟨rfl, hi, p⟩
  have o := hok i σ H p
  by_cases hlt : i < n
  · exact .inr ⟨Y.go i H hlt o, Pv (i + 1), fun σ' H' p' => ⟨n - (i + 1), by omega, rfl, hlt, p'⟩, fun x H' y => hs i x σ H H' hlt p (Y.yld i H x H' hlt o y)⟩
  · have e : i = n := by omega
    subst e
    exact .inl ⟨Y.stop H o, hd σ H p⟩
/-- [e for x in ..] and [e for x in .. if c] -/
theorem comp_Y (Y : Yields J n f ok) {g : TG} {tc : TT} {te : TE} {H : Hp} {R : Addr → Hp → Prop} {σ1 : St} (Pv : Addr → Nat → List V → St → Hp → Prop) (hn : n ≤ 100000) (hp0 : ∀ p, H p = none → Pv p 0 [] σ1 (upd H p (.lst [])))
    (hok : ∀ p i ys σ' H', H p = none → Pv p i ys σ' H' → ok H')
    (hs : ∀ p i ys σ' H' x H'', H p = none → i < n → ys.length ≤ i → Pv p i ys σ' H' → H' p = some (.lst ys) → f i H' x H'' → ∀ (Q1 : V → St → Hp → Prop) (Q2 : St → Hp → Prop), (∀ v σ2 H5, H5 p = some (.lst ys) → Pv p (i + 1) (ys ++ [v]) σ2 (upd H5 p (.lst (ys ++ [v]))) → Q1 v σ2 H5) → (∀ σ2 H4, H4 p = some (.lst ys) → Pv p (i + 1) ys σ2 H4 → Q2 σ2 H4) →
      g x σ' H'' fun σ2 H3 => tc σ2 H3 fun b H4 => if b = true then te σ2 H4 fun v H5 => Q1 v σ2 H5 else Q2 σ2 H4)
    (q : ∀ p ys σ' H', H p = none → Pv p n ys σ' H' → H' p = some (.lst ys) → ys.length ≤ n → R p H') :
    ∀ p, H p = none → ∃ W : Nat → Nat → List V → St → Hp → Prop, (∃ m, W 0 m [] σ1 (upd H p (.lst []))) ∧ ∀ i m ys σ' H', W i m ys σ' H' →
      (J.stop i H' ∧ R p H') ∨ (J.go i H' ∧ ∀ x H2, J.yld i H' x H2 → g x σ' H2 fun σ2 H3 => tc σ2 H3 fun b H4 => if b = true then te σ2 H4 fun v H5 => ys.length < sizeLine ∧ H5 p = some (.lst ys) ∧ (∃ m', m' < m ∧ W (i + 1) m' (ys ++ [v]) σ2 (upd H5 p (.lst (ys ++ [v]))))
        else ∃ m', m' < m ∧ W (i + 1) m' ys σ2 H4) := by
  intro p hp
  refine ⟨fun i m ys σ' H' => m = n - i ∧ i ≤ n ∧ ys.length ≤ i ∧ Pv p i ys σ' H' ∧ H' p = some (.lst ys), ⟨n, by simp, Nat.zero_le _, Nat.zero_le _, hp0 p hp, upd_same⟩, ?_⟩
  rintro i m ys σ' H' ⟨rfl, hi, hl, pv, hp'⟩
  have o := hok p i ys σ' H' hp pv
  by_cases hlt : i < n
  · refine .inr ⟨Y.go i H' hlt o, fun x H2 y => hs p i ys σ' H' x H2 hp hlt hl pv hp' (Y.yld i H' x H2 hlt o y) _ _ (fun v σ2 H5 h5 pv5 => ⟨by rw [sizeLine_eq]; omega, h5, n - (i + 1), by omega, rfl, hlt, by simp; omega, pv5, upd_same⟩) fun σ2 H4 h4 pv4 => ⟨n - (i + 1), by omega, rfl, hlt, by omega, pv4, h4⟩⟩
  · have e : i = n := by omega
    subst e
    exact .inl ⟨Y.stop H' o, q p ys σ' H' hp pv hp' hl⟩
end
theorem yields_lst {K : PySem.W.Frag} {a : Addr} {xs : List V} : Yields (Itl K a) xs.length (fun i H x H' => H' = H ∧ xs[i]? = some x) (fun H => H a = some (.lst xs)) :=
  ⟨fun i H hi o => ⟨xs, xs[i], SqL.of o, by simp [hi]⟩, fun i H x H' hi o ⟨e, y⟩ => ⟨e, y xs (SqL.of o)⟩, fun H o => ⟨xs, SqL.of o, Nat.le_refl _⟩⟩
theorem yields_tup {K : PySem.W.Frag} {a : Addr} {xs : List V} : Yields (Itt K a) xs.length (fun i H x H' => H' = H ∧ xs[i]? = some x) (fun H => H a = some (.tup xs)) :=
  ⟨fun i H hi o => ⟨xs, xs[i], SqT.of o, by simp [hi]⟩, fun i H x H' hi o ⟨e, y⟩ => ⟨e, y xs (SqT.of o)⟩, fun H o => ⟨xs, SqT.of o, Nat.le_refl _⟩⟩
/-! ### a dict with tuples as keys, walked -/
theorem Inv.freezeT {X : Cx} {pins : List (Addr × Obj)} {σ : St} {H : Hp} {s : Shared} {d : Addr} {kvs : List (List Key × V)} (I : Inv X pins σ H s) (h : H d = some (.dT kvs)) : ∃ o, Inv X pins σ (upd H d (.frz o (.dT kvs))) s := by
  obtain ⟨z, y, xs, r, o, es, ep, h1, h2⟩ := (show ObjOk X.prog X.w H s.heap d (.dT kvs) from I.hok d _ h)
  refine ⟨o, d_write (t' := s.toks) I (by rw [h]; exact True.intro) ⟨rfl, fun _ _ => rfl⟩ ⟨o, h1⟩ ⟨h1, z, y, xs, KT.keeps r fun b ys e => ?_, o, es, ep, h1, h2⟩⟩
  rw [upd_ne (ne_of e h (fun z => nomatch z))]; exact e
theorem Inv.thawT {X : Cx} {pins : List (Addr × Obj)} {σ : St} {H : Hp} {s : Shared} {d : Addr} {o : Obj} {kvs : List (List Key × V)} (I : Inv X pins σ H s) (h : H d = some (.frz o (.dT kvs))) (hn : ∀ o u, X.H₀ d ≠ some (.frz o u)) : Inv X pins σ (upd H d (.dT kvs)) s := by
  have ne : ∀ {b : Addr} {u : HO}, H b = some u → u ≠ .frz o (.dT kvs) → b ≠ d := fun e z => ne_of e h z
  have nd : ∀ {b : Addr}, H b = none → b ≠ d := fun {b} e z => by subst z; rw [h] at e; cases e
  have B := I.base
  refine ⟨I.ok, I.os, I.bare, ⟨B.keep, B.slot, fun b o' e n hx => ?_, B.there, fun b xs e => ?_, fun b o' u e => ?_, fun b ps e => ?_⟩, I.loc, I.cell, ?_, fun x c e => ?_, fun p hp => ?_, fun b u e => ?_, I.len⟩
  · have := B.free b o' e n hx; rw [upd_ne (nd this)]; exact this
  · have := B.tups b xs e; rw [upd_ne (ne this (fun z => nomatch z))]; exact this
  · have := B.frzs b o' u e
    rw [upd_ne (fun z => by subst z; exact hn o' u e)]; exact this
  · obtain ⟨m, q⟩ := B.tbls b ps e
    exact ⟨m, by rw [upd_ne (ne q (fun z => nomatch z))]; exact q⟩
  · rw [upd_ne (nd I.free)]; exact I.free
  · have := I.freeC x c e; rw [upd_ne (nd this)]; exact this
  · obtain ⟨p1, p2, p3⟩ := I.pin p hp
    exact ⟨p1, by rw [upd_ne (nd p2)]; exact p2, p3⟩
  · have st : ∀ {b : Addr} {u : HO}, ObjOk X.prog X.w H s.heap b u → ObjOk X.prog X.w (upd H d (.dT kvs)) s.heap b u := fun x =>
      x.stay (fun _ _ _ q => q) (fun c q => by rw [upd_ne (ne q (fun z => nomatch z))]; exact q) (fun c xs q => by rw [upd_ne (ne q (fun z => nomatch z))]; exact q) fun c ob q => by rw [upd_ne (ne q (fun z => by cases z))]; exact q
    by_cases hb : b = d
    · subst hb; rw [upd_same] at e; cases e
      exact st (I.hok b _ h).2
    · rw [upd_ne hb] at e; exact st (I.hok b u e)
theorem Inv.notFrz {X : Cx} {pins : List (Addr × Obj)} {σ : St} {H : Hp} {s : Shared} {d : Addr} {kvs : List (List Key × V)} (I : Inv X pins σ H s) (h : H d = some (.dT kvs)) : ∀ o u, X.H₀ d ≠ some (.frz o u) := fun o u e => by
  have := I.base.frzs d o u e
  rw [h] at this; cases this
/-- a statement that walks the dict at d, an expression that does: behind it the dict is as ahead of it -/
def sThaw (ts : TS) : TS := fun D σ H => ∃ d kvs, H d = some (.dT kvs) ∧ ts { D with nx := fun σ' H' => ∃ o kvs', H' d = some (.frz o (.dT kvs')) ∧ D.nx σ' (upd H' d (.dT kvs')) } σ H
theorem ps_thaw {X : Cx} {st : Stmt} {ts : TS} (h : PS X st ts) : PS X st (sThaw ts) := by
  intro pins s σ H D I ⟨d, kvs, hd, q⟩
  have nf := I.notFrz hd
  refine thn (h pins s σ H _ I q) fun f s1 q1 => ?_
  cases f with
  | next =>
    obtain ⟨σ1, H1, I1, o, kvs', hz, q2⟩ := q1
    exact ⟨σ1, _, I1.thawT hz nf, q2⟩
  | cont => exact q1
  | brk => exact q1
  | ret v => exact q1
def tThaw (te : TE) : TE := fun σ H Q => ∃ d kvs, H d = some (.dT kvs) ∧ te σ H fun v H' => ∃ o kvs', H' d = some (.frz o (.dT kvs')) ∧ Q v (upd H' d (.dT kvs'))
theorem pe_thaw {X : Cx} {e : Expr} {te : TE} (h : PE X e te) : PE X e (tThaw te) := by
  intro pins s σ H Q I ⟨d, kvs, hd, q⟩
  have nf := I.notFrz hd
  refine thn (h pins s σ H _ I q) fun u s1 ⟨v, H1, I1, r1, o, kvs', hz, q2⟩ => ?_
  exact ⟨v, _, I1.thawT hz nf, r1, q2⟩
def ItkT (d : Addr) (o : Obj) : It :=
  ⟨fun i H => ∃ kvs kv, H d = some (.frz o (.dT kvs)) ∧ kvs[i]? = some kv, fun i H v H' => H' = H ∧ ∃ b kv, v = .ref b ∧ H b = some (.tup (kv.1.map kV)) ∧ ∀ kvs, H d = some (.frz o (.dT kvs)) → kvs[i]? = some kv, fun i H => ∃ kvs, H d = some (.frz o (.dT kvs)) ∧ kvs.length ≤ i⟩
/-- the frozen dict's entries -/
theorem Inv.entZ {X : Cx} {pins : List (Addr × Obj)} {σ : St} {H : Hp} {s : Shared} {d : Addr} {o : Obj} {kvs : List (List Key × V)} {es : Array DictEntry} {ep : Nat} (I : Inv X pins σ H s) (h : H d = some (.frz o (.dT kvs))) (ho : o.data = .dict es ep) : DEnt s.heap d es ep ∧ EntT H kvs es := by
  obtain ⟨g, z, y, xs, r, o', es', ep', h1, h2, h3, h4, h5⟩ := I.hok d _ h
  rw [g] at h1; cases h1
  rw [ho] at h3; cases h3
  refine ⟨⟨o, g, h2, ho⟩, ?_⟩
  unfold EntT
  rw [h4]
  clear h4 h5 z h
  induction r with
  | nil => exact .nil
  | @cons p q ps qs hq t ih => exact .cons ⟨q.2.1, rfl, hq.2.1, hq.2.2⟩ ih
theorem turn_keysT {P : Program} {w : World} {K : PySem.W.Frag} {tg : Expr} {it d : Addr} {o : Obj} {es : Array DictEntry} {ep : Nat} (hod : o.data = .dict es ep) : Turn P w K tg (ItkT d o) [it] it (fun i h => h.IsKeyIter it d i es.size ep) where
  mem := by simp
  obj := fun i h st b hb => by
    obtain ⟨o, e, c, d⟩ := st
    rw [List.mem_singleton.mp hb]
    exact ⟨o, e, fun v z => by rw [d] at z; cases z⟩
  keep := fun i h h' st k => st.at fun o e => k it (by simp) o e
  item := by
    intro X hP hw hK hc i pins s σ H E I hf st hg
    subst hP hw hK
    obtain ⟨kvs, kv, hH, hx⟩ := hg
    obtain ⟨de, en⟩ := I.entZ hH hod
    have li : i < es.size := by rw [en.size]; exact (List.getElem?_eq_some_iff.mp hx).1
    obtain ⟨kv', b, w1, w2, w3, w4⟩ := en.at (Array.getElem?_eq_getElem li)
    rw [hx] at w1; cases w1
    obtain ⟨f0, f1, f2, f3, f4, f5⟩ := hf it (by simp)
    refine key_next st de li fun h' st' sb => ⟨_, rfl, ?_⟩
    have I1 : Inv X pins σ H { s with heap := h' } := I.turned (t' := s.toks) (fun b o hb e => (sb.2 b hb).trans e) f0 f1 f3 f4 f5
    obtain ⟨oi, e, c, dd⟩ := id st'
    exact go_of (s := { s with heap := h' }) e c dd (by decide) ⟨.ref b, H, I1, by rw [w2]; rfl, ⟨rfl, b, kv, rfl, w3, fun ks hk => by rw [hH] at hk; cases hk; exact hx⟩, st', fun b hb => (hf b hb).1⟩
  done := by
    intro X hP hw hK hc i pins s σ H E I hf st hg
    subst hP hw hK
    obtain ⟨kvs, hH, hx⟩ := hg
    obtain ⟨de, en⟩ := I.entZ hH hod
    obtain ⟨f0, f1, f2, f3, f4, f5⟩ := hf it (by simp)
    exact key_end (I.ok.hd hc) st de (by rw [en.size]; exact hx) fun h' eb => ⟨rfl, I.turned (t' := s.toks) (fun b o hb e => eb b o hb e) f0 f1 f3 f4 f5⟩
  self := fun A i s Q E st h => wpAny_pyIter_keyiter st h
def iKeysT (to : TE) : TI := fun σ H R => to σ H fun x H1 => ∃ d kvs, x = .ref d ∧ ((H1 d = some (.dT kvs) ∧ ∀ o, R (ItkT d o) (upd H1 d (.frz o (.dT kvs)))) ∨ ∃ o, H1 d = some (.frz o (.dT kvs)) ∧ R (ItkT d o) H1)
theorem Inv.frozenT {X : Cx} {pins : List (Addr × Obj)} {σ : St} {H : Hp} {s : Shared} {d : Addr} {kvs : List (List Key × V)} {R : Obj → Hp → Prop} (I : Inv X pins σ H s) (q : (H d = some (.dT kvs) ∧ ∀ o, R o (upd H d (.frz o (.dT kvs)))) ∨ ∃ o, H d = some (.frz o (.dT kvs)) ∧ R o H) :
    ∃ o H2, Inv X pins σ H2 s ∧ H2 d = some (.frz o (.dT kvs)) ∧ R o H2 := by
  rcases q with ⟨e, q⟩ | ⟨o, e, q⟩
  · obtain ⟨o, I2⟩ := I.freezeT e
    exact ⟨o, _, I2, upd_same, q o⟩
  · exact ⟨o, H, I, e, q⟩
theorem pi_keysT {X : Cx} {tg o : Expr} {to : TE} (ho : PE X o to) : PI X tg o (iKeysT to) := by
  intro pins s σ H R I h
  refine thn (ho pins s σ H _ I h) fun v s1 ⟨x, H1, I1, r1, d, kvs, ex, q1⟩ => ?_
  subst ex
  cases r1
  obtain ⟨ob, H2, I2, e2, q⟩ := I1.frozenT (R := fun o H => R (ItkT d o) H) q1
  obtain ⟨lo, z, nd, es, ep, ⟨ob', g1, x1, d1⟩, en⟩ := I2.entT (.inr ⟨ob, e2⟩)
  obtain ⟨g2, _⟩ := I2.hok d _ e2
  rw [g2] at g1; cases g1
  refine key_iter lo ⟨ob, g2, x1, d1⟩ ?_
  refine ⟨s1.heap.objs.size, [s1.heap.objs.size], _, _, H2, rfl, I2.kept (t' := s1.toks) fun b u e => Heap.get?_push_of_some _ e, turn_keysT d1, ⟨_, Heap.get?_push_size _ rfl, rfl, rfl⟩, fun b hb => ?_, q⟩
  rw [List.mem_singleton.mp hb]
  exact I2.fpOk (Nat.le_refl _) (I2.hok.fresh (Nat.le_refl _))
theorem yields_keysT {d : Addr} {o : Obj} {kws : List (List Int × V)} : Yields (ItkT d o) kws.length (fun i H x H' => H' = H ∧ ∃ b kw, x = .ref b ∧ H b = some (.tup (iv kw.1)) ∧ kws[i]? = some kw) (fun H => H d = some (.frz o (.dT (kws.map kI)))) :=
  ⟨fun i H hi h => ⟨_, kI kws[i], h, by simp [hi]⟩, fun i H x H' hi h ⟨e, b, kv, e1, e2, e3⟩ => by
    have := e3 _ h
    rw [List.getElem?_map, Option.map_eq_some_iff] at this
    obtain ⟨kw, h1, h2⟩ := this
    subst h2
    exact ⟨e, b, kw, e1, keys_inl e2, h1⟩, fun H h => ⟨_, h, by simp⟩⟩
end L2

set_option Elab.async false
set_option linter.all false
set_option maxRecDepth 100000
set_option maxHeartbeats 4000000
namespace L2
open PySem PySem.Spec PyProof.Rows
/-! ### dict comprehensions with tuples as keys -/
end L2

set_option Elab.async false
set_option linter.all false
set_option maxRecDepth 100000
set_option maxHeartbeats 4000000
namespace L2
open PySem PySem.W PySem.Spec PyProof.Rows DI Srt
/-! ### dict(a list of pairs), the keys tuples -/
def mergeT (kvs more : List (List Key × V)) : List (List Key × V) := more.foldl (fun acc kv => putK acc kv.1 kv.2) kvs
theorem length_mergeT : ∀ (more kvs : List (List Key × V)), (mergeT kvs more).length ≤ kvs.length + more.length
  | [], kvs => by show kvs.length ≤ kvs.length + 0; omega
  | p :: r, kvs => by
    have h1 := length_mergeT r (putK kvs p.1 p.2)
    have h2 := length_putK kvs p.1 p.2
    show (mergeT (putK kvs p.1 p.2) r).length ≤ _
    rw [List.length_cons]; omega
theorem mergeT_snoc (kvs more : List (List Key × V)) (kv : List Key × V) : mergeT kvs (more ++ [kv]) = putK (mergeT kvs more) kv.1 kv.2 := by unfold mergeT; rw [List.foldl_append]; rfl
/-- the rows are pairs of a key, a tuple, and a thing -/
abbrev RowsT (H : Hp) (ys : List V) (kvs : List (List Key × V)) : Prop := Paired (fun v (kv : List Key × V) => ∃ a b, v = .ref a ∧ H a = some (.tup [.ref b, kv.2]) ∧ H b = some (.tup (kv.1.map kV))) ys kvs
section
variable {X : Cx} {pins : List (Addr × Obj)} {σ : St} {A : Around} {R : Result → Shared → Prop} {it l d : Addr} {ys : List V} {kvs : List (List Key × V)} {H : Hp}
theorem dict_loopT (hh : A.in1.handled = none) (hu : A.in1.units < cLine) (hl : H l = some (.lst ys)) (hk : RowsT H ys kvs) (hz : ys.length ≤ 1000) (hdn : H d = none)
    (fin : ∀ s', Inv X pins σ (upd H d (.dT (mergeT [] kvs))) s' → R (.ok (.ret .none)) s') :
    ∀ (k i : Nat) (j : Int) (s : Shared), ys.length - i = k → i ≤ ys.length → s.heap.IsListIter it l i → Inv X pins σ (upd H d (.dT (mergeT [] (kvs.take i)))) s → FpOk X pins (upd H d (.dT (mergeT [] (kvs.take i)))) it →
      codeAny (model X.prog X.w) A (.builtin "dict.update.loop" ⟨[.ref d, .ref it, rawInt j, .none], []⟩) R s := by
  intro k
  have hlen : kvs.length = ys.length := (Paired.length hk).symm
  have nd : ∀ {b : Addr} {o u : HO}, H b = some o → upd H d u b = some o := fun {b o u} e => by rw [upd_ne (ne_of_none e hdn)]; exact e
  induction k with
  | zero =>
    intro i j s hk' hi st I f
    have hin : i = ys.length := by omega
    subst hin
    refine codeAny_builtin PySem.F.entry_dict_update_loop ?_
    rw [Around.under_plainId PySem.F.plain_dict_update_loop _]
    show wpAny _ A.in1 (pyNext (.ref it) >>= _) _ _ s
    obtain ⟨its, rv, p, _⟩ := I.list (SqL.of (K := X.K) (nd hl))
    have hil := rv.length
    refine wpAny_bind (wpAny_pyNext_list_end hh st p.isList (by simp; omega) fun h' eb => wpAny_bind (wpAny_pure (wpAny_pure ?_)))
    have e : kvs.take ys.length = kvs := by rw [← hlen, List.take_length]
    rw [e] at I
    exact fin _ (I.turned (t' := s.toks) (fun b o hb e => eb b o hb e) (by rw [e] at f; exact f.1) f.2.1 f.2.2.2.1 f.2.2.2.2.1 f.2.2.2.2.2)
  | succ k ih =>
    intro i j s hk' hi st I f
    have hlt : i < ys.length := by omega
    refine codeAny_builtin PySem.F.entry_dict_update_loop ?_
    rw [Around.under_plainId PySem.F.plain_dict_update_loop _]
    show wpAny _ A.in1 (pyNext (.ref it) >>= _) _ _ s
    obtain ⟨its, rv, p, _⟩ := I.list (SqL.of (K := X.K) (nd hl))
    have hyi : ys[i]? = some ys[i] := List.getElem?_eq_getElem hlt
    obtain ⟨u, hu', ru⟩ := rv.get hyi
    refine wpAny_bind (wpAny_pyNext_list_item st p.isList (x := u) (by simpa using hu') fun h' st' sb => ?_)
    have I1 : Inv X pins σ (upd H d (.dT (mergeT [] (kvs.take i)))) { s with heap := h' } := I.turned (t' := s.toks) (fun b o hb e => (sb.2 b hb).trans e) f.1 f.2.1 f.2.2.2.1 f.2.2.2.2.1 f.2.2.2.2.2
    obtain ⟨kv, hkv, a, b, ea, ha, hb⟩ := paired_get hk hyi
    rw [ea] at ru
    cases ru
    obtain ⟨us, r2, tu, _⟩ := I1.tuple (SqT.of (K := X.K) (nd (u := .dT (mergeT [] (kvs.take i))) ha))
    cases r2 with
    | cons rk rr => cases rr with
      | cons rv' rr =>
        cases rr; cases rk
        rename_i uv
        obtain ⟨⟨cls, dct, dat, sl⟩, ho, hc, n, hdd⟩ := id tu
        simp only at hc hdd
        subst hc hdd
        dsimp only
        refine wpAny_bind (wpAny_holding (wpAny_bind (wpAny_tryCatch ?_)))
        unfold Builtin.Dict.pairItems
        refine wpAny_bind (wpAny_typeOf (s := { s with heap := h' }) ⟨_, ho, rfl⟩ ?_)
        rw [if_pos (by decide)]
        refine wpAny_bind (wpAny_seqItems ho rfl (wpAny_pure ?_))
        show wpAny _ _ (holding [.ref b, uv] (dictSet d (.ref b) uv)) _ _ _
        obtain ⟨z, hd, xs, rel, dd⟩ := dt_of I1.hok (upd_same (H := H) (a := d))
        have hxl : xs.length ≤ sizeLine := by rw [← Paired.length rel]; exact z
        have ekey : (kvs.take (i + 1)) = kvs.take i ++ [kv] := by
          rw [List.take_succ, hkv]; rfl
        refine wpAny_holding (wpAny_dictSet_heap (knd := tupleKind (mixKind X.prog X.w)) hu (key_of I1.hok (nd hb)) dd (fun h2 dd' hs => ?_) hxl)
        obtain ⟨qo, es, ep, hq, h2', h3, h4, _, h5⟩ := dd'
        have hml := length_mergeT (kvs.take (i + 1)) []
        have I2 : Inv X pins σ (upd H d (.dT (mergeT [] (kvs.take (i + 1))))) { s with heap := h2, toks := s.toks + (tupleKind (mixKind X.prog X.w)).draws kv.1 } := by
          have := d_write (t' := s.toks + (tupleKind (mixKind X.prog X.w)).draws kv.1) (ob := .dT (putK (mergeT [] (kvs.take i)) kv.1 kv.2)) I1 (by rw [upd_same]; exact True.intro) hs ⟨qo, hq⟩ ⟨?_, hd, _, (rel.put kv.1 (nd hb) rv').keeps fun c ys ec => ?_, qo, es, ep, hq, h2', h3, h4, h5⟩
          · rw [upd_upd] at this
            rw [ekey, mergeT_snoc]; exact this
          · rw [← mergeT_snoc, ← ekey]
            rw [List.length_take, List.length_nil] at hml
            rw [sizeLine_eq]; omega
          · have hc : c ≠ d := by intro z; subst z; rw [upd_same] at ec; cases ec
            rw [upd_ne hc]; exact ec
        refine wpAny_pure ⟨plainId_quiet PySem.F.plain_dict_update_loop _, ih (i + 1) _ _ (by omega) hlt ?_ I2 ?_⟩
        · have hid : it ≠ d := by intro z; subst z; have := f.1; rw [upd_same] at this; cases this
          exact st'.at fun o e => hs.extBut it o hid e
        · have hid : it ≠ d := by intro z; subst z; have := f.1; rw [upd_same] at this; cases this
          exact ⟨by rw [upd_ne hid]; have := f.1; rwa [upd_ne hid] at this, f.2⟩
theorem call_dictT (hc : X.calm = true) (hu : X.A.units + 3 < cLine) : CallR X (.type "dict") (fun xs H Q => ∃ (l : Addr) (ys : List V) (kvs : List (List Key × V)), xs = [.ref l] ∧ H l = some (.lst ys) ∧ RowsT H ys kvs ∧ ys.length ≤ 1000 ∧ ∀ p, H p = none → Q (.ref p) (upd H p (.dT (mergeT [] kvs)))) := by
  intro pins s σ H xs us Q I r h
  obtain ⟨l, ys, kvs, rfl, hl, hk, hz, q⟩ := h
  obtain ⟨u, rfl, rx⟩ := vals1 r
  cases rx
  have hn := I.hok.fresh (Nat.le_refl s.heap.objs.size)
  refine callType_codes (Q₁ := fun obj s₁ => obj = .ref s.heap.objs.size ∧ s₁ = { s with heap := s.heap.push { cls := .type "dict", data := .dict #[] } }) PySem.F.kt_called_dict (PySem.F.kt_typeCall_dict_1 _) PySem.F.entry_dict_init (kt_code_dict_new _ ⟨rfl, rfl⟩) ?_
  rintro obj s₁ ⟨rfl, rfl⟩
  have I1 := I.laid (a := s.heap.objs.size) (o := .dT []) (h' := s.heap.push { cls := .type "dict", data := .dict #[] }) (t' := s.toks) (fun _ _ q => Heap.get?_push_of_some _ q) (Nat.le_refl _) (dt_empty s.heap I.big)
  have hT0 : Shared.TypeIs { s with heap := s.heap.push { cls := .type "dict", data := .dict #[] } } (.ref s.heap.objs.size) "dict" := ⟨_, Heap.get?_push_size _ rfl, rfl⟩
  obtain ⟨_, its, n, rv, ho⟩ := (show ObjOk X.prog X.w H s.heap l (.lst ys) from I.hok l _ hl)
  have ho' : (s.heap.push { cls := .type "dict", data := .dict #[] }).get? l = some { cls := .type "list", data := .seq its.toArray n } := Heap.get?_push_of_some _ ho
  refine ⟨hT0, PySem.F.args_dict_init_2 _ _, ?_⟩
  unfold Builtin.«dict.__init__»
  refine wpAny_bind ?_
  unfold Builtin.Dict.selfAndRest
  refine wpAny_bind (wpAny_notOrdered_dict hT0 ?_)
  show wpAny _ _ (pure (s.heap.objs.size, [Value.ref l])) _ _ _
  refine wpAny_pure ?_
  show wpAny _ _ (Builtin.Dict.updateFrom "dict.__init__" s.heap.objs.size (.ref l) [] .none) _ _ _
  unfold Builtin.Dict.updateFrom
  refine wpAny_bind (wpAny_typeOf ⟨_, ho', rfl⟩ ?_)
  rw [if_pos (by decide)]
  refine wpAny_bind (no_keys_list ho' rfl rfl rfl (by simpa using I.ok.hd hc) fun h1 tk1 k1 => ?_)
  simp only [Option.isNone_none, if_true]
  refine wpAny_bind (wpAny_rule ?_)
  have I2 : Inv X pins σ (upd H s.heap.objs.size (.dT [])) { s with heap := h1, toks := tk1 } := I1.kept (t' := tk1) k1
  refine wpAny_bind (wpAny_pyIter_list (items := its.toArray) ⟨_, k1 _ _ ho', rfl, n, rfl⟩ (wpAny_pure ⟨plainId_quiet PySem.F.plain_dict_update_loop _, ?_⟩))
  refine dict_loopT (X := X) (pins := pins) (σ := σ) (H := H) (ys := ys) (kvs := kvs) (l := l) (by simpa using I.ok.hd hc) (by show X.A.units + 1 + 1 < cLine; omega) hl hk hz hn (fun s' I' => ⟨rfl, .ref s.heap.objs.size, _, I', rfl, q _ hn⟩) (ys.length - 0) 0 0 _ (by omega) (Nat.zero_le _) ⟨_, Heap.get?_push_size _ rfl, rfl, rfl⟩ (I2.kept (t' := tk1) fun b o e => Heap.get?_push_of_some _ e) ?_
  exact I2.fpOk (Nat.le_refl _) (I2.hok.fresh (Nat.le_refl _))
end
end L2

set_option Elab.async false
set_option linter.all false
set_option maxRecDepth 100000
set_option maxHeartbeats 1000000
namespace L2
open PySem PySem.Spec PyProof.Rows Srt
/-! ### tables: tuples of ints with ints -/
abbrev Mp := List (List Int × Int)
def kII (p : List Int × Int) : List Key × V := (p.1.map Sum.inl, .int p.2)
def dI (m : Mp) : HO := .dT (m.map kII)
def hasM (m : Mp) (k : List Int) : Bool := m.any fun p => decide (p.1 = k)
def getM (m : Mp) (k : List Int) : Int := ((m.find? fun p => decide (p.1 = k)).map (·.2)).getD 0
def putM (m : Mp) (k : List Int) (v : Int) : Mp := if hasM m k = true then m.map (fun p => if p.1 = k then (p.1, v) else p) else m ++ [(k, v)]
def keysM (m : Mp) : List (List Int) := m.map (·.1)
theorem inl_inj {a b : List Int} : a.map (Sum.inl : Int → Key) = b.map Sum.inl ↔ a = b := List.map_inj_right fun _ _ e => Sum.inl.inj e
theorem dec_inl (a b : List Int) : decide (a.map (Sum.inl : Int → Key) = b.map Sum.inl) = decide (a = b) := by
  by_cases e : a = b
  · subst e; simp
  · rw [decide_eq_false e, decide_eq_false (fun z => e (inl_inj.mp z))]
theorem any_dI (m : Mp) (k : List Int) : ((m.map kII).any fun kv => decide (kv.1 = k.map Sum.inl)) = hasM m k := by
  unfold hasM
  rw [List.any_map]
  congr 1
  funext p
  exact dec_inl p.1 k
theorem putK_dI (m : Mp) (k : List Int) (v : Int) : putK (m.map kII) (k.map Sum.inl) (.int v) = (putM m k v).map kII := by
  unfold putK putM
  rw [any_dI]
  by_cases h : hasM m k = true
  · rw [if_pos h, if_pos h, List.map_map, List.map_map]
    refine List.map_congr_left fun p _ => ?_
    by_cases e : p.1 = k
    · simp [kII, e]
    · simp [kII, e, inl_inj]
  · rw [if_neg h, if_neg h, List.map_append]; rfl
theorem valV_dI : ∀ (m : Mp) (k : List Int), valV (m.map kII) (k.map Sum.inl) = (m.find? fun p => decide (p.1 = k)).map fun p => V.int p.2
  | [], _ => rfl
  | p :: m, k => by
    rw [List.map_cons, List.find?_cons]
    by_cases e : p.1 = k
    · rw [valV_pos (by simp [kII, e]), decide_eq_true e]; rfl
    · rw [valV_neg (by simp [kII, inl_inj, e]), decide_eq_false e]; exact valV_dI m k
theorem valV_getD (m : Mp) (k : List Int) : (valV (m.map kII) (k.map Sum.inl)).getD (.int 0) = .int (getM m k) := by
  rw [valV_dI]; unfold getM
  cases m.find? fun p => decide (p.1 = k) <;> rfl
theorem hasM_iff {m : Mp} {k : List Int} : hasM m k = true ↔ k ∈ keysM m := by
  unfold hasM keysM
  rw [List.any_eq_true, List.mem_map]
  simp
theorem valV_some {m : Mp} {k : List Int} (h : k ∈ keysM m) : valV (m.map kII) (k.map Sum.inl) = some (.int (getM m k)) := by
  rw [valV_dI]; unfold getM
  cases e : m.find? fun p => decide (p.1 = k) with
  | some p => rfl
  | none =>
    obtain ⟨p, hp, rfl⟩ := List.mem_map.mp h
    have := List.find?_eq_none.mp e p hp
    simp at this
theorem getM_nil (k : List Int) : getM [] k = 0 := rfl
theorem getM_cons (p : List Int × Int) (m : Mp) (k : List Int) : getM (p :: m) k = if p.1 = k then p.2 else getM m k := by
  unfold getM
  rw [List.find?_cons]
  by_cases e : p.1 = k
  · rw [decide_eq_true e, if_pos e]; rfl
  · rw [decide_eq_false e, if_neg e]
theorem getM_absent {m : Mp} {k : List Int} (h : k ∉ keysM m) : getM m k = 0 := by
  induction m with
  | nil => rfl
  | cons p m ih =>
    rw [getM_cons, if_neg (fun e => h (by simp [keysM, e])), ih fun z => h (by simp only [keysM, List.map_cons, List.mem_cons] at *; exact .inr z)]
theorem getM_mem {m : Mp} (nd : (keysM m).Nodup) {p : List Int × Int} (h : p ∈ m) : getM m p.1 = p.2 := by
  induction m with
  | nil => cases h
  | cons q m ih =>
    rw [getM_cons]
    simp only [keysM, List.map_cons, List.nodup_cons] at nd
    rcases List.mem_cons.mp h with rfl | h
    · rw [if_pos rfl]
    · rw [if_neg (fun e => nd.1 (by rw [e]; exact List.mem_map_of_mem h)), ih nd.2 h]
theorem keys_put (m : Mp) (k : List Int) (v : Int) : keysM (putM m k v) = if hasM m k = true then keysM m else keysM m ++ [k] := by
  unfold putM
  by_cases h : hasM m k = true
  · rw [if_pos h, if_pos h]
    unfold keysM
    rw [List.map_map]
    refine List.map_congr_left fun p _ => ?_
    by_cases e : p.1 = k <;> simp [e]
  · rw [if_neg h, if_neg h]; simp [keysM]
theorem keys_put_mem {m : Mp} {k j : List Int} {v : Int} : j ∈ keysM (putM m k v) ↔ j ∈ keysM m ∨ j = k := by
  rw [keys_put]
  by_cases h : hasM m k = true
  · rw [if_pos h]
    exact ⟨.inl, fun z => z.elim id fun e => by rw [e]; exact hasM_iff.mp h⟩
  · rw [if_neg h]; simp
theorem nodup_put {m : Mp} {k : List Int} {v : Int} (h : (keysM m).Nodup) : (keysM (putM m k v)).Nodup := by
  rw [keys_put]
  by_cases e : hasM m k = true
  · rw [if_pos e]; exact h
  · rw [if_neg e]
    refine List.nodup_append.mpr ⟨h, by simp, fun x hx y hy z => ?_⟩
    rw [List.mem_singleton] at hy
    subst hy z
    exact e (hasM_iff.mpr hx)
theorem getM_map_put (m : Mp) (k j : List Int) (v : Int) : getM (m.map fun p => if p.1 = k then (p.1, v) else p) j = if j = k ∧ hasM m k = true then v else getM m j := by
  induction m with
  | nil => simp [hasM, getM_nil]
  | cons p m ih =>
    rw [List.map_cons, getM_cons, getM_cons, ih]
    have hh : hasM (p :: m) k = (decide (p.1 = k) || hasM m k) := rfl
    rw [hh]
    by_cases e : p.1 = k
    · rw [if_pos e, decide_eq_true e]
      by_cases ej : p.1 = j
      · rw [if_pos ej, if_pos ⟨ej.symm.trans e, rfl⟩]
      · have : j ≠ k := fun z => ej (e.trans z.symm)
        rw [if_neg ej, if_neg (fun z => this z.1), if_neg (fun z => this z.1), if_neg ej]
    · rw [if_neg e, decide_eq_false e, Bool.false_or]
      by_cases ej : p.1 = j
      · have : j ≠ k := fun z => e (ej.trans z)
        rw [if_pos ej, if_neg (fun z => this z.1), if_pos ej]
      · rw [if_neg ej, if_neg ej]
theorem getM_snoc (m : Mp) (k j : List Int) (v : Int) (h : k ∉ keysM m) : getM (m ++ [(k, v)]) j = if j = k then v else getM m j := by
  induction m with
  | nil =>
    rw [List.nil_append, getM_cons]
    by_cases e : k = j
    · rw [if_pos e, if_pos e.symm]
    · rw [if_neg e, if_neg (fun z => e z.symm)]
  | cons p m ih =>
    rw [List.cons_append, getM_cons, getM_cons, ih fun z => h (by simp only [keysM, List.map_cons, List.mem_cons] at *; exact .inr z)]
    by_cases ej : p.1 = j
    · have : j ≠ k := fun z => h (by simp [keysM, ej.trans z])
      rw [if_pos ej, if_pos ej, if_neg this]
    · rw [if_neg ej, if_neg ej]
theorem getM_put (m : Mp) (k j : List Int) (v : Int) : getM (putM m k v) j = if j = k then v else getM m j := by
  unfold putM
  by_cases h : hasM m k = true
  · rw [if_pos h, getM_map_put]
    by_cases e : j = k <;> simp [e, h]
  · rw [if_neg h, getM_snoc _ _ _ _ fun z => h (hasM_iff.mpr z)]
def valsM (m : Mp) : List Int := m.map (·.2)
theorem vals_put {m : Mp} (nd : (keysM m).Nodup) (k : List Int) (v : Int) : (valsM (putM m k (getM m k + v))).sum = (valsM m).sum + v := by
  unfold putM
  by_cases h : hasM m k = true
  · rw [if_pos h]
    have hk : ∀ (m : Mp), (keysM m).Nodup → k ∈ keysM m → (valsM (m.map fun p => if p.1 = k then (p.1, getM m k + v) else p)).sum = (valsM m).sum + v := by
      intro m
      have gen : ∀ (m : Mp) (g : Int), (keysM m).Nodup → (k ∈ keysM m → g = getM m k) → (valsM (m.map fun p => if p.1 = k then (p.1, g + v) else p)).sum = (valsM m).sum + if k ∈ keysM m then v else 0 := by
        intro m g
        induction m with
        | nil => intro _ _; simp [valsM, keysM]
        | cons p m ih =>
          intro nd hg
          simp only [keysM, List.map_cons, List.nodup_cons] at nd
          have hk' : k ∈ keysM (p :: m) ↔ k = p.1 ∨ k ∈ keysM m := by simp [keysM]
          by_cases e : p.1 = k
          · have hnk : k ∉ keysM m := by rw [← e]; exact nd.1
            have hgv : g = p.2 := by rw [hg (hk'.mpr (.inl e.symm)), getM_cons, if_pos e]
            have := ih nd.2 (fun z => absurd z hnk)
            rw [if_neg hnk] at this
            simp only [valsM, List.map_cons, List.sum_cons] at this ⊢
            rw [if_pos e, if_pos (hk'.mpr (.inl e.symm))]
            rw [this, hgv]; omega
          · have := ih nd.2 (fun z => by rw [hg (hk'.mpr (.inr z)), getM_cons, if_neg e])
            simp only [valsM, List.map_cons, List.sum_cons] at this ⊢
            rw [if_neg e, this]
            by_cases z : k ∈ keysM m
            · rw [if_pos z, if_pos (hk'.mpr (.inr z))]; omega
            · rw [if_neg z, if_neg (fun q => (hk'.mp q).elim (fun r => e r.symm) z)]; omega
      intro nd hm
      have := gen m (getM m k) nd fun _ => rfl
      rwa [if_pos hm] at this
    exact hk m nd (hasM_iff.mp h)
  · rw [if_neg h]
    rw [getM_absent fun z => h (hasM_iff.mpr z)]
    simp [valsM]
theorem sum_perm {a b : List Int} (h : a.Perm b) : a.sum = b.sum := by
  induction h with
  | nil => rfl
  | cons x _ ih => simp [ih]
  | swap x y l => simp; omega
  | trans _ _ h1 h2 => exact h1.trans h2
theorem sum_mul (l : List Int) (c : Int) : (l.map fun a => a * c).sum = l.sum * c := by
  induction l with
  | nil => simp
  | cons a l ih => simp [ih, Int.add_mul]
/-! ### in order -/
def rise (ks : List (List Int)) : List (List Int) := ks.mergeSort fun a b => !lexI b a
theorem rising_unique {a b : List (List Int)} (h : a.Perm b) (ha : Rising a) (hb : Rising b) : a = b :=
  List.Perm.eq_of_pairwise (le := fun x y => lexI y x = false) (fun x y _ _ h1 h2 => lexI_tot x y h2 h1) ha hb h
theorem rise_perm (ks : List (List Int)) : (rise ks).Perm ks := List.mergeSort_perm ks _
theorem rise_rising (ks : List (List Int)) : Rising (rise ks) := by
  have := List.pairwise_mergeSort (le := fun a b => !lexI b a) (fun a b c h1 h2 => by simp at *; exact lexI_tr _ _ _ h1 h2) (fun a b => by
    cases h : lexI b a with
    | false => simp
    | true => simp [lexI_asym _ _ h]) ks
  exact this.imp fun {a b} h => by simpa using h
theorem rise_eq {ms ks : List (List Int)} (h : ms.Perm ks) (hr : Rising ms) : ms = rise ks := rising_unique (h.trans (rise_perm ks).symm) hr (rise_rising ks)
end L2

set_option Elab.async false
set_option linter.all false
set_option maxRecDepth 100000
set_option maxHeartbeats 1000000
namespace L2
open PySem PySem.Spec PyProof.Rows Srt
theorem hu3_of {A : Around} {k : Nat} (hr : Room k A) : A.units + 3 < cLine := by have := hr.un; omega
theorem DGet.tz {H : Hp} {a b : Addr} {kvs : List (List Key × V)} {k : List Key} (e : Rd H a (.dT kvs)) (eb : H b = some (.tup (k.map kV))) : DGet H a (.ref b) (valV kvs k) := .inr ⟨kvs, k, b, e, rfl, eb, rfl⟩
end L2

set_option Elab.async false
set_option linter.all false
set_option maxRecDepth 100000
set_option maxHeartbeats 1000000
namespace L2
open PySem PySem.Spec PyProof.Rows Srt
theorem yields_zip {K : PySem.W.Frag} {a b : Addr} {xs ys : List V} (hl : xs.length = ys.length) : Yields (Itz K a b) xs.length (fun i H v H' => ∃ p x y, v = .ref p ∧ H p = none ∧ H' = upd H p (.tup [x, y]) ∧ xs[i]? = some x ∧ ys[i]? = some y) (fun H => H a = some (.lst xs) ∧ H b = some (.lst ys)) :=
  ⟨fun i H hi o => ⟨xs, ys, xs[i], ys[i], SqL.of o.1, SqL.of o.2, by simp [hi], by simp [hl ▸ hi]⟩,
   fun i H v H' hi o ⟨p, x, y, e1, e2, e3, e4⟩ => ⟨p, x, y, e1, e2, e3, e4 xs ys (SqL.of o.1) (SqL.of o.2)⟩,
   fun H o => ⟨xs, ys, SqL.of o.1, SqL.of o.2, .inl (Nat.le_refl _)⟩⟩
end L2
namespace L2
open PySem PySem.Spec PyProof.Rows Srt
/-! ### walks without a K: for the second clause of a comprehension -/
end L2

set_option Elab.async false
set_option linter.all false
set_option maxRecDepth 100000
set_option maxHeartbeats 4000000
/-! ### a table of defs -/
namespace L2
open PySem PySem.Spec PyProof.Rows
/-- a def, as a thing -/
structure FnT (P : Program) (w : World) (K : PySem.W.Frag) (mg : Str → Option Value) (base : Heap) (k : Nat) (f : Addr) (ps : List Str) (sp : Sp) : Prop where
  ex : ∃ fd, FnOk P w K mg base CX0 k f fd ps sp ∧ PySem.W.keepIn K (.ref f) = true ∧ Binds K fd ps []
theorem Cal.fnT {P : Program} {w : World} {K : PySem.W.Frag} {mg : Str → Option Value} {base : Heap} {x : Str} {ps : List Str} {k : Nat} {sp : Sp} (c : Cal P w K mg base x ps k sp) {f : Addr} (hf : mg x = some (.ref f)) : FnT P w K mg base k f ps sp := by
  obtain ⟨f', fd, F, m, kp, b⟩ := c.ex
  rw [hf] at m
  cases m
  exact ⟨fd, F, kp, b⟩
def tCallV (P : Program) (w : World) (K : PySem.W.Frag) (mg : Str → Option Value) (base : Heap) (k i : Nat) (t : TA) : TE := fun σ H Q => ∃ f ps sp, σ[i]? = some (some (.ref f)) ∧ FnT P w K mg base k f ps sp ∧ t σ H fun vs H1 => sp vs H1 Q E0
theorem pe_callV {X : Cx} (P : Program) (w : World) (K : PySem.W.Frag) (mg : Str → Option Value) (base : Heap) (hP : X.prog = P) (hw : X.w = w) (hK : X.K = K) (hmg : X.mg = mg) (hbs : X.base = base) {i k : Nat} {x : Str} {p pos : Pos} {e : Expr} {es : List Expr} {t : TA} (hr : Room k X.A) (hN : X.N[i]? = some x) (hv : Vis X.env.scope x) (ha : PA X (e :: es) t) (hd : (x == ("__debug__" : Str)) = false := by decide) (hcd : (x == ("__classdict__" : Str)) = false := by decide)
    (he : starEach (e :: es) X.env = (false, eval e X.env) :: starEach es X.env := by rfl) (hpl : (backTo pos (starEach es X.env)).any (·.1) = false := by rfl) :
    PE X (.Call (.Name x p) (e :: es) [] pos) (tCallV P w K mg base k i t) := by
  subst hP hw hK hmg hbs
  intro pins s σ H Q I h
  obtain ⟨f, ps, sp, e1, ⟨fd, F, kp, hb⟩, hs⟩ := h
  have hn := pe_var (X := X) (pos := p) hN hv hd hcd
  refine wpAny_Call_Name_kw (thn (hn pins s σ H (fun v H' => v = .ref f ∧ H' = H) I ⟨.ref f, e1, rfl, rfl⟩) fun u s1 h1 => ?_)
  obtain ⟨v, H1, I1, r, rfl, rfl⟩ := h1
  obtain rfl : u = Value.ref f := r
  refine PySem.W.callWith_K (h₀ := X.base) I1.ok.mod.kin kp (thn (ha pos pins s1 σ _ _ I1 hs) fun us s2 h2 => ?_) he hpl
  obtain ⟨vs, H2, I2, r, q⟩ := h2
  refine ⟨I2.kIn, ?_⟩
  have hl : us.length = ps.length := by rw [← r.length]; exact F.len _ _ _ _ q
  have hbt := hb s2 us I2.kIn (by rw [List.append_nil]; exact hl)
  rw [List.append_nil] at hbt
  refine wpAny_call (codeAny_mono (F.run X.A X.stack s2 H2 ⟨us, []⟩ us vs Q _ hr I2.env0 hbt r q) fun r s' hz => ?_)
  cases r with
  | error e => exact False.elim hz
  | ok fl =>
    cases fl with
    | ret u => exact I2.after hz
    | next => exact False.elim hz
    | brk => exact False.elim hz
    | cont => exact False.elim hz
theorem call_maxB_K {X : Cx} (K : PySem.W.Frag) (h : X.K = K) (b : Bool) (hc : X.calm = true) : CallR X (.builtin "max") (rMaxB K b) := by subst h; exact call_maxB b hc
/-- a dict of the module's, texts to things -/
structure TabK (P : Program) (w : World) (K : PySem.W.Frag) (d : Addr) (f : Str → Option Addr) : Prop where
  ex : ∃ es ep, List.lookup d K = some ⟨.type "dict", none, .dict es ep, #[]⟩ ∧ KeysOf (mixKind P w) es ∧ ∀ x a, f x = some a → findBy (mixKind P w).is es (Sum.inr x) = some (.ref a)
def rTab (P : Program) (w : World) (K : PySem.W.Frag) (d : Addr) : V → Hp → VK → Prop := fun y H Q => ∃ f x a, TabK P w K d f ∧ y = .str x ∧ f x = some a ∧ Q (.ref a) H
def tTabK (P : Program) (w : World) (K : PySem.W.Frag) (d : Addr) (te : TE) : TE := fun σ H Q => te σ H fun y H1 => rTab P w K d y H1 Q
theorem pe_tabK {X : Cx} {x : Str} {d : Addr} {i : Expr} {p pos : Pos} {te : TE} (hg : Gl X x) (hm : X.mg x = some (.ref d)) (hi : PE X i te) (hs : NoSl i) (hd : (x == ("__debug__" : Str)) = false := by decide) : PE X (.Subscript (.Name x p) i pos) (tTabK X.prog X.w X.K d te) := by
  intro pins s σ H Q I h
  refine subD_of PySem.F.slot_dict_getitem.lookup hs (ld_glob I hg hm ?_ hd)
  refine thn (hi pins s σ H _ I h) fun iv s2 ⟨y, H2, I2, ry, f, z, a, ⟨es, ep, l, ks, fb⟩, ey, fz, q⟩ => ?_
  subst ey
  have hk := I2.kIn d _ l
  refine ⟨⟨_, hk, rfl⟩, ?_⟩
  exact wpAny_getItem_of (knd := mixKind X.prog X.w) (k := Sum.inr z) (f := findBy (mixKind X.prog X.w).is es) (kV_is (k := Sum.inr z) ry) ⟨_, es, ep, hk, ⟨rfl, rfl, rfl⟩, rfl, ks, fun _ => rfl⟩ (fb z a fz) ⟨.ref a, H2, I2.tok _, rfl, q⟩
end L2

set_option Elab.async false
set_option linter.all false
set_option maxRecDepth 100000
set_option maxHeartbeats 4000000
namespace My
open PySem L2 MA
def top (i : Nat) : Stmt := PySem.Challenge.pw_emptierbox_k21_means.main.body.getD i (.Pass ⟨0, 0, 0, 0⟩)
abbrev s_measure : Stmt := top 1
theorem sc_measure : FnScope ["a", "b"] ["a", "b"] (defScope s_measure) := ⟨rfl, rfl, rfl, by decide +kernel, rfl, by decide +kernel, by decide +kernel⟩
abbrev s_parted : Stmt := top 2
theorem sc_parted : FnScope ["top", "bottoms", "bottom", "number", "common"] ["top", "bottoms"] (defScope s_parted) := ⟨rfl, rfl, rfl, by decide +kernel, rfl, by decide +kernel, by decide +kernel⟩
abbrev s_weighed : Stmt := top 3
theorem sc_weighed : FnScope ["some", "bottom", "one"] ["some"] (defScope s_weighed) := ⟨rfl, rfl, rfl, by decide +kernel, rfl, by decide +kernel, by decide +kernel⟩
abbrev s_fullest : Stmt := top 5
theorem sc_fullest : FnScope ["load"] ["load"] (defScope s_fullest) := ⟨rfl, rfl, rfl, by decide +kernel, rfl, by decide +kernel, by decide +kernel⟩
abbrev s_emptiest : Stmt := top 6
theorem sc_emptiest : FnScope ["load"] ["load"] (defScope s_emptiest) := ⟨rfl, rfl, rfl, by decide +kernel, rfl, by decide +kernel, by decide +kernel⟩
abbrev s_gap : Stmt := top 7
theorem sc_gap : FnScope ["load"] ["load"] (defScope s_gap) := ⟨rfl, rfl, rfl, by decide +kernel, rfl, by decide +kernel, by decide +kernel⟩
abbrev s_squares : Stmt := top 8
theorem sc_squares : FnScope ["load"] ["load"] (defScope s_squares) := ⟨rfl, rfl, rfl, by decide +kernel, rfl, by decide +kernel, by decide +kernel⟩
abbrev s_mean_of : Stmt := top 10
theorem sc_mean_of : FnScope ["spread", "numbers", "tops", "bottom"] ["spread", "numbers"] (defScope s_mean_of) := ⟨rfl, rfl, rfl, by decide +kernel, rfl, by decide +kernel, by decide +kernel⟩
abbrev s_mean : Stmt := top 11
theorem sc_mean : FnScope ["spread", "word", "deed"] ["spread", "word"] (defScope s_mean) := ⟨rfl, rfl, rfl, by decide +kernel, rfl, by decide +kernel, by decide +kernel⟩
abbrev s_first_mean : Stmt := top 12
theorem sc_first_mean : FnScope ["spread", "k"] ["spread", "k"] (defScope s_first_mean) := ⟨rfl, rfl, rfl, by decide +kernel, rfl, by decide +kernel, by decide +kernel⟩
abbrev s_fullest_share : Stmt := top 13
theorem sc_fullest_share : FnScope ["spread", "m"] ["spread", "m"] (defScope s_fullest_share) := ⟨rfl, rfl, rfl, by decide +kernel, rfl, by decide +kernel, by decide +kernel⟩
abbrev s_many_share : Stmt := top 14
theorem sc_many_share : FnScope ["spread", "m", "b"] ["spread", "m", "b"] (defScope s_many_share) := ⟨rfl, rfl, rfl, by decide +kernel, rfl, by decide +kernel, by decide +kernel⟩
abbrev s_boxes_with : Stmt := top 15
theorem sc_boxes_with : FnScope ["load", "m"] ["load", "m"] (defScope s_boxes_with) := ⟨rfl, rfl, rfl, by decide +kernel, rfl, by decide +kernel, by decide +kernel⟩
abbrev s_l_pen : Stmt := top 17
theorem sc_l_pen : FnScope ["_law_script"] ["_law_script"] (defScope s_l_pen) := ⟨rfl, rfl, rfl, by decide +kernel, rfl, by decide +kernel, by decide +kernel⟩
abbrev s_l_draw : Stmt := top 18
theorem sc_l_draw : FnScope ["_law_pen_here", "_law_many", "_law_at", "_law_cell", "_law_number", "_law_digit"] ["_law_pen_here", "_law_many"] (defScope s_l_draw) := ⟨rfl, rfl, rfl, by decide +kernel, rfl, by decide +kernel, by decide +kernel⟩
abbrev s_l_measure : Stmt := top 19
theorem sc_l_measure : FnScope ["_law_a", "_law_b"] ["_law_a", "_law_b"] (defScope s_l_measure) := ⟨rfl, rfl, rfl, by decide +kernel, rfl, by decide +kernel, by decide +kernel⟩
abbrev s_l_lowest : Stmt := top 20
theorem sc_l_lowest : FnScope ["_law_top", "_law_bottom", "_law_by_here"] ["_law_top", "_law_bottom"] (defScope s_l_lowest) := ⟨rfl, rfl, rfl, by decide +kernel, rfl, by decide +kernel, by decide +kernel⟩
abbrev s_l_load : Stmt := top 21
theorem sc_l_load : FnScope ["_law_pen_here", "_law_n", "_law_balls", "_law_found", "_law_way", "_law_at", "_law_ball", "_law_box"] ["_law_pen_here", "_law_n", "_law_balls"] (defScope s_l_load) := ⟨rfl, rfl, rfl, by decide +kernel, rfl, by decide +kernel, by decide +kernel⟩
abbrev s_l_counted : Stmt := top 22
theorem sc_l_counted : FnScope ["_law_pen_here", "_law_n", "_law_balls", "_law_found", "_law_k", "_law_load_here"] ["_law_pen_here", "_law_n", "_law_balls"] (defScope s_l_counted) := ⟨rfl, rfl, rfl, by decide +kernel, rfl, by decide +kernel, by decide +kernel⟩
abbrev s_l_spread : Stmt := top 23
theorem sc_l_spread : FnScope ["_law_found", "_law_whole"] ["_law_found"] (defScope s_l_spread) := ⟨rfl, rfl, rfl, by decide +kernel, rfl, by decide +kernel, by decide +kernel⟩
abbrev s_l_mean : Stmt := top 24
theorem sc_l_mean : FnScope ["_law_found", "_law_worths"] ["_law_found", "_law_worths"] (defScope s_l_mean) := ⟨rfl, rfl, rfl, by decide +kernel, rfl, by decide +kernel, by decide +kernel⟩
abbrev s_l_by : Stmt := top 25
theorem sc_l_by : FnScope ["_law_found", "_law_word", "_law_here", "_law_load_here", "_law_squares", "_law_number", "_law_some"] ["_law_found", "_law_word"] (defScope s_l_by) := ⟨rfl, rfl, rfl, by decide +kernel, rfl, by decide +kernel, by decide +kernel⟩
abbrev s_l_any : Stmt := top 26
theorem sc_l_any : FnScope ["_law_pen_here", "_law_most", "_law_way"] ["_law_pen_here", "_law_most"] (defScope s_l_any) := ⟨rfl, rfl, rfl, by decide +kernel, rfl, by decide +kernel, by decide +kernel⟩
abbrev s_law : Stmt := top 27
theorem sc_law : FnScope ["_law_script", "_law_pen_here", "_law_go", "_law_n", "_law_balls", "_law_found", "_law_spread_here", "_law_kept", "_law_word", "_law_k", "_law_sums", "_law_m", "_law_b", "_law_full", "_law_wide"] ["_law_script"] (defScope s_law) := ⟨rfl, rfl, rfl, by decide +kernel, rfl, by decide +kernel, by decide +kernel⟩

section
variable {P : Program} {w : World} {K : PySem.W.Frag} {mg : Str → Option Value} {base : Heap}
theorem ok_measure (T : Txt mg) (F : FunAt K mg "measure" ["a", "b"] s_measure) : Cal P w K mg base "measure" ["a", "b"] 1 spMeasure := by
  have S := sc_measure
  refine F.cal sc_measure (fun vs H Q E h => ?_) (fun f cdv A outer s H vs Q E hr h => ?_)
  · obtain ⟨a, b, rfl, _⟩ := h; rfl
  obtain ⟨a, b, rfl, q⟩ := h
  refine ⟨_, (@pss_cons _ _ _ _ _ (@ps_par _ _ (0) (1) _ _ _ _ _ _ _ _ _ _ _ (by rfl) (by exact S.nd) (by rfl) (by rfl) (by decide) (by rfl) (by rfl) (@pa_consN _ _ _ _ _ (@pe_callB _ _ _ _ _ _ _ _ _ call_abs (by rfl) (by exact T.z_abs) (by exact bt_abs) (@pa_consN _ _ _ _ _ (pv 0) pa_nil (by first|rfl|decide|exact .inl rfl|exact .inr rfl|(intros; rfl))) (by first|rfl|decide|exact .inl rfl|exact .inr rfl|(intros; rfl)) (by first|rfl|decide|exact .inl rfl|exact .inr rfl|(intros; rfl)) (by first|rfl|decide|exact .inl rfl|exact .inr rfl|(intros; rfl)) (by first|rfl|decide|exact .inl rfl|exact .inr rfl|(intros; rfl))) (@pa_consN _ _ _ _ _ (@pe_callB _ _ _ _ _ _ _ _ _ call_abs (by rfl) (by exact T.z_abs) (by exact bt_abs) (@pa_consN _ _ _ _ _ (pv 1) pa_nil (by first|rfl|decide|exact .inl rfl|exact .inr rfl|(intros; rfl))) (by first|rfl|decide|exact .inl rfl|exact .inr rfl|(intros; rfl)) (by first|rfl|decide|exact .inl rfl|exact .inr rfl|(intros; rfl)) (by first|rfl|decide|exact .inl rfl|exact .inr rfl|(intros; rfl)) (by first|rfl|decide|exact .inl rfl|exact .inr rfl|(intros; rfl))) pa_nil (by first|rfl|decide|exact .inl rfl|exact .inr rfl|(intros; rfl))) (by first|rfl|decide|exact .inl rfl|exact .inr rfl|(intros; rfl))) (by rfl) (by first|rfl|decide|exact .inl rfl|exact .inr rfl|(intros; rfl))) (@pss_cons _ _ _ _ _ (@ps_while _ _ _ _ _ _ (by exact PassesOwn.never) (@pt_cmpR _ _ _ _ _ _ _ _ op_ne (pv 1) pe_int (by exact (nomark _))) (@pss_one _ _ _ (@ps_par _ _ (0) (1) _ _ _ _ _ _ _ _ _ _ _ (by rfl) (by exact S.nd) (by rfl) (by rfl) (by decide) (by rfl) (by rfl) (@pa_consN _ _ _ _ _ (pv 1) (@pa_consN _ _ _ _ _ (@pe_op _ _ _ _ _ _ _ _ op_mod (pv 0) (pv 1)) pa_nil (by first|rfl|decide|exact .inl rfl|exact .inr rfl|(intros; rfl))) (by first|rfl|decide|exact .inl rfl|exact .inr rfl|(intros; rfl))) (by rfl) (by first|rfl|decide|exact .inl rfl|exact .inr rfl|(intros; rfl))))) (@pss_one _ _ _ (@ps_ret _ _ _ _ (pv 0))))), ?_⟩
  refine ⟨_, rfl, _, rfl, _, rfl, _, rfl, _, _, rfl, ?_⟩
  refine while_by (fun σ H' => H' = H ∧ ∃ x y : Int, σ = [some (.int x), some (.int y)] ∧ 0 ≤ x ∧ 0 ≤ y ∧ gI x y = gI a b) (fun σ _ => match σ with | [_, some (.int y)] => y.toNat | _ => 0) ⟨rfl, _, _, rfl, ?_, ?_, ?_⟩ ?_ ?_
  · split <;> omega
  · split <;> omega
  · exact gI_abs a b
  · rintro σ H' ⟨rfl, x, y, rfl, hx, hy, hg⟩
    refine ⟨_, rfl, rfl, _, rfl, ?_⟩
    refine ite2 (fun c => ?_) (fun c => ?_)
    · have hy0 : 0 < y := by
        have : ¬ (V.int y = V.int 0) := by simpa using c
        have : y ≠ 0 := fun e => this (by rw [e])
        omega
      refine ⟨_, rfl, _, rfl, _, rfl, _, _, rfl, rfl, hy0, _, _, rfl, ?_⟩
      have hm := Int.emod_nonneg x (show y ≠ 0 by omega)
      have hl := Int.emod_lt_of_pos x hy0
      refine ⟨⟨rfl, _, _, rfl, hy, hm, ?_⟩, ?_⟩
      · rw [gI_step hx]; exact hg
      · show (x % y).toNat < y.toNat
        omega
    · have hy0 : y = 0 := by
        have : V.int y = V.int 0 := by simpa using c
        exact V.int.inj this
      subst hy0
      refine ⟨_, rfl, ?_⟩
      rw [gI_zero hx] at hg
      rw [hg]
      exact q
  · rintro σ H' Q1 Q2 hQ ⟨v, e, h1, b1, e2, h2⟩
    exact ⟨v, e, h1, b1, e2, hQ _ _ h2⟩
theorem ok_pen (F : FunAt K mg "_law_pen" ["_law_script"] s_l_pen) : Cal P w K mg base "_law_pen" ["_law_script"] 1 (spPen K) := by
  have S := sc_l_pen
  refine F.cal sc_l_pen (fun vs H Q E h => ?_) (fun f cdv A outer s H vs Q E hr h => ?_)
  · obtain ⟨a, ns, rfl, _⟩ := h; rfl
  obtain ⟨a, ns, rfl, ha, k⟩ := h
  obtain ⟨ms, hms⟩ := cut_ints ns none (some 63)
  refine ⟨_, (@pss_one _ _ _ (@ps_ret _ _ _ _ (@pe_disp _ _ _ _ _ (@pps_cons _ _ _ _ _ _ _ _ _ pe_str (@pe_slice _ _ _ _ _ _ _ _ _ _ sl_list (pv 0) po_none (@po_some _ _ _ pe_int)) (@pps_cons _ _ _ _ _ _ _ _ _ pe_str pe_int (@pps_cons _ _ _ _ _ _ _ _ _ pe_str pe_int pps_nil))) (by rfl) (by rfl) (by simp) (by decide)))), ?_⟩
  intro p hp
  have s1 : Same H (upd H p (.dK [])) := same_new hp _
  refine ⟨_, rfl, _, rfl, a, _, rfl, s1.seq ha, fun c hc => ?_⟩
  have hpc : p ≠ c := fun e => by rw [← e, upd_same] at hc; cases hc
  refine ⟨by rw [upd_ne hpc]; exact upd_same, [(.inr "cells", .ref c), (.inr "at", .int 0), (.inr "left", .int 0)], rfl, (by show 3 ≤ 15; decide), ?_⟩
  refine k p _ (fun b o e => ?_) ⟨c, ms, 0, 0, ?_, ?_, by omega, by omega⟩
  · rw [upd_ne (ne_of_none e hp), upd_ne, upd_ne (ne_of_none e hp)]
    · exact e
    · intro z
      subst z
      rw [upd_ne (Ne.symm hpc), e] at hc
      cases hc
  · rw [upd_same]
    rfl
  · rw [upd_ne (Ne.symm hpc), upd_same, hms]
theorem ok_lmeasure (F : FunAt K mg "_law_measure" ["_law_a", "_law_b"] s_l_measure) : Cal P w K mg base "_law_measure" ["_law_a", "_law_b"] 1 spLMeasure := by
  have S := sc_l_measure
  refine F.cal sc_l_measure (fun vs H Q E h => ?_) (fun f cdv A outer s H vs Q E hr h => ?_)
  · obtain ⟨a, b, rfl, _⟩ := h; rfl
  obtain ⟨a, b, rfl, ha, hb, q⟩ := h
  refine ⟨_, (@pss_cons _ _ _ _ _ (@ps_while _ _ _ _ _ _ (by exact PassesOwn.never) (@pt_cmpR _ _ _ _ _ _ _ _ op_gt (pv 1) pe_int (by exact (nomark _))) (@pss_one _ _ _ (@ps_par _ _ (0) (1) _ _ _ _ _ _ _ _ _ _ _ (by rfl) (by exact S.nd) (by rfl) (by rfl) (by decide) (by rfl) (by rfl) (@pa_consN _ _ _ _ _ (pv 1) (@pa_consN _ _ _ _ _ (@pe_op _ _ _ _ _ _ _ _ op_mod (pv 0) (pv 1)) pa_nil (by first|rfl|decide|exact .inl rfl|exact .inr rfl|(intros; rfl))) (by first|rfl|decide|exact .inl rfl|exact .inr rfl|(intros; rfl))) (by rfl) (by first|rfl|decide|exact .inl rfl|exact .inr rfl|(intros; rfl))))) (@pss_one _ _ _ (@ps_ret _ _ _ _ (pv 0)))), ?_⟩
  refine while_by (fun σ H' => H' = H ∧ ∃ x y : Int, σ = [some (.int x), some (.int y)] ∧ 0 ≤ x ∧ 0 ≤ y ∧ gI x y = gI a b) (fun σ _ => match σ with | [_, some (.int y)] => y.toNat | _ => 0) ⟨rfl, _, _, rfl, ha, hb, rfl⟩ ?_ ?_
  · rintro σ H' ⟨rfl, x, y, rfl, hx, hy, hg⟩
    refine ⟨_, rfl, _, _, rfl, rfl, _, rfl, ?_⟩
    refine ite2 (fun c => ?_) (fun c => ?_)
    · have hy0 : 0 < y := of_decide_eq_true c
      refine ⟨_, rfl, _, rfl, _, rfl, _, _, rfl, rfl, hy0, _, _, rfl, ?_⟩
      have hm := Int.emod_nonneg x (show y ≠ 0 by omega)
      have hl := Int.emod_lt_of_pos x hy0
      refine ⟨⟨rfl, _, _, rfl, hy, hm, ?_⟩, ?_⟩
      · rw [gI_step hx]; exact hg
      · show (x % y).toNat < y.toNat
        omega
    · have hy0 : y = 0 := by
        have : ¬ 0 < y := by simpa using c
        omega
      subst hy0
      refine ⟨_, rfl, ?_⟩
      rw [gI_zero hx] at hg
      rw [hg]
      exact q
  · rintro σ H' Q1 Q2 hQ ⟨v, e, h0, b0, h1, h2, b1, e2, h3⟩
    exact ⟨v, e, h0, b0, h1, h2, b1, e2, hQ _ _ h3⟩
theorem joinI1 {C R : Int → Hp → Prop} {G : Prop} (main : (∀ a h, C a h → R a h) → G) (key : ∀ a h, C a h → R a h) : G := main key
theorem ok_draw2 (T : Txt mg) (F : FunAt K mg "_law_draw" ["_law_pen_here", "_law_many"] s_l_draw) : Cal P w K mg base "_law_draw" ["_law_pen_here", "_law_many"] 1 spDraw := by
  have S := sc_l_draw
  refine F.cal sc_l_draw (fun vs H Q E h => ?_) (fun f cdv A outer s H vs Q E hr h => ?_)
  · obtain ⟨p, m, n, rfl, _⟩ := h; rfl
  obtain ⟨p, m, n, rfl, ⟨c, ns, a, l, hp, hc, ha0, han⟩, hn, hm, hm2, k⟩ := h
  have hu := hu_of hr
  have hcp : c ≠ p := ne_of hc hp (by intro z; cases z)
  refine ⟨_, (@pss_cons _ _ _ _ _ (@ps_if _ _ _ _ _ _ _ _ (@pt_cmpR _ _ _ _ _ _ _ _ op_gt (@pe_dget _ _ _ _ _ _ (by exact hu) (pv 0) pe_str (by exact (fun _ _ => rfl))) pe_int (by exact (nomark _))) (@pss_cons _ _ _ _ _ (@ps_set _ _ (5) _ _ _ _ (by exact S.nd) (by rfl) (by first | exact Or.inl rfl | exact Or.inr rfl) (@pe_op _ _ _ _ _ _ _ _ op_mod (@pe_dget _ _ _ _ _ _ (by exact hu) (pv 0) pe_str (by exact (fun _ _ => rfl))) (pv 1)) (by first|rfl|decide|exact .inl rfl|exact .inr rfl|(intros; rfl)) (by first|rfl|decide|exact .inl rfl|exact .inr rfl|(intros; rfl))) (@pss_cons _ _ _ _ _ (@ps_dput _ _ _ _ _ _ _ _ _ (by exact hu) (pv 0) pe_str (@pe_op _ _ _ _ _ _ _ _ op_fdiv (@pe_dget _ _ _ _ _ _ (by exact hu) (pv 0) pe_str (by exact (fun _ _ => rfl))) (pv 1)) (by rfl)) (@pss_one _ _ _ (@ps_ret _ _ _ _ (pv 5))))) pss_nil) (@pss_cons _ _ _ _ _ (@ps_set _ _ (2) _ _ _ _ (by exact S.nd) (by rfl) (by first | exact Or.inl rfl | exact Or.inr rfl) (@pe_dget _ _ _ _ _ _ (by exact hu) (pv 0) pe_str (by exact (fun _ _ => rfl))) (by first|rfl|decide|exact .inl rfl|exact .inr rfl|(intros; rfl)) (by first|rfl|decide|exact .inl rfl|exact .inr rfl|(intros; rfl))) (@pss_cons _ _ _ _ _ (@ps_dput _ _ _ _ _ _ _ _ _ (by exact hu) (pv 0) pe_str (@pe_op _ _ _ _ _ _ _ _ op_add (pv 2) pe_int) (by rfl)) (@pss_cons _ _ _ _ _ (@ps_set _ _ (3) _ _ _ _ (by exact S.nd) (by rfl) (by first | exact Or.inl rfl | exact Or.inr rfl) (@pe_op _ _ _ _ _ _ _ _ op_add (@pe_op _ _ _ _ _ _ _ _ op_mul (@pe_op _ _ _ _ _ _ _ _ op_mul pe_int (pv 2)) (pv 2)) pe_int) (by first|rfl|decide|exact .inl rfl|exact .inr rfl|(intros; rfl)) (by first|rfl|decide|exact .inl rfl|exact .inr rfl|(intros; rfl))) (@pss_cons _ _ _ _ _ (@ps_if _ _ _ _ _ _ _ _ (@pt_cmpR _ _ _ _ _ _ _ _ op_gt (@pe_callB _ _ _ _ _ _ _ _ _ call_len_seq (by rfl) (by exact T.z_len) (by exact bt_len) (@pa_consN _ _ _ _ _ (@pe_dget _ _ _ _ _ _ (by exact hu) (pv 0) pe_str (by exact (fun _ _ => rfl))) pa_nil (by first|rfl|decide|exact .inl rfl|exact .inr rfl|(intros; rfl))) (by first|rfl|decide|exact .inl rfl|exact .inr rfl|(intros; rfl)) (by first|rfl|decide|exact .inl rfl|exact .inr rfl|(intros; rfl)) (by first|rfl|decide|exact .inl rfl|exact .inr rfl|(intros; rfl)) (by first|rfl|decide|exact .inl rfl|exact .inr rfl|(intros; rfl))) pe_int (by exact (nomark _))) (@pss_one _ _ _ (@ps_set _ _ (3) _ _ _ _ (by exact S.nd) (by rfl) (by first | exact Or.inl rfl | exact Or.inr rfl) (@pe_ix _ _ _ _ _ _ _ ix_list (@pe_dget _ _ _ _ _ _ (by exact hu) (pv 0) pe_str (by exact (fun _ _ => rfl))) (@pe_op _ _ _ _ _ _ _ _ op_mod (pv 2) (@pe_callB _ _ _ _ _ _ _ _ _ call_len_seq (by rfl) (by exact T.z_len) (by exact bt_len) (@pa_consN _ _ _ _ _ (@pe_dget _ _ _ _ _ _ (by exact hu) (pv 0) pe_str (by exact (fun _ _ => rfl))) pa_nil (by first|rfl|decide|exact .inl rfl|exact .inr rfl|(intros; rfl))) (by first|rfl|decide|exact .inl rfl|exact .inr rfl|(intros; rfl)) (by first|rfl|decide|exact .inl rfl|exact .inr rfl|(intros; rfl)) (by first|rfl|decide|exact .inl rfl|exact .inr rfl|(intros; rfl)) (by first|rfl|decide|exact .inl rfl|exact .inr rfl|(intros; rfl)))) (by exact (fun _ _ => rfl))) (by first|rfl|decide|exact .inl rfl|exact .inr rfl|(intros; rfl)) (by first|rfl|decide|exact .inl rfl|exact .inr rfl|(intros; rfl)))) pss_nil) (@pss_cons _ _ _ _ _ (@ps_if _ _ _ _ _ _ _ _ (@PW.pt _ _ _ (@pw_and _ _ _ _ _ _ _ (@pt_cmpR _ _ _ _ _ _ _ _ op_lt (pv 2) (@pe_callB _ _ _ _ _ _ _ _ _ call_len_seq (by rfl) (by exact T.z_len) (by exact bt_len) (@pa_consN _ _ _ _ _ (@pe_dget _ _ _ _ _ _ (by exact hu) (pv 0) pe_str (by exact (fun _ _ => rfl))) pa_nil (by first|rfl|decide|exact .inl rfl|exact .inr rfl|(intros; rfl))) (by first|rfl|decide|exact .inl rfl|exact .inr rfl|(intros; rfl)) (by first|rfl|decide|exact .inl rfl|exact .inr rfl|(intros; rfl)) (by first|rfl|decide|exact .inl rfl|exact .inr rfl|(intros; rfl)) (by first|rfl|decide|exact .inl rfl|exact .inr rfl|(intros; rfl))) (by exact (nomark _))) (@pw_and1 _ _ _ _ (@pt_cmpR _ _ _ _ _ _ _ _ op_ge (@pe_callB _ _ _ _ _ _ _ _ _ call_abs (by rfl) (by exact T.z_abs) (by exact bt_abs) (@pa_consN _ _ _ _ _ (pv 3) pa_nil (by first|rfl|decide|exact .inl rfl|exact .inr rfl|(intros; rfl))) (by first|rfl|decide|exact .inl rfl|exact .inr rfl|(intros; rfl)) (by first|rfl|decide|exact .inl rfl|exact .inr rfl|(intros; rfl)) (by first|rfl|decide|exact .inl rfl|exact .inr rfl|(intros; rfl)) (by first|rfl|decide|exact .inl rfl|exact .inr rfl|(intros; rfl))) (@pe_op _ _ _ _ _ _ _ _ op_pow pe_int pe_int) (by exact (nomark _)))))) (@pss_cons _ _ _ _ _ (@ps_dput _ _ _ _ _ _ _ _ _ (by exact hu) (pv 0) pe_str (@pe_op _ _ _ _ _ _ _ _ op_fdiv (@pe_callB _ _ _ _ _ _ _ _ _ call_abs (by rfl) (by exact T.z_abs) (by exact bt_abs) (@pa_consN _ _ _ _ _ (pv 3) pa_nil (by first|rfl|decide|exact .inl rfl|exact .inr rfl|(intros; rfl))) (by first|rfl|decide|exact .inl rfl|exact .inr rfl|(intros; rfl)) (by first|rfl|decide|exact .inl rfl|exact .inr rfl|(intros; rfl)) (by first|rfl|decide|exact .inl rfl|exact .inr rfl|(intros; rfl)) (by first|rfl|decide|exact .inl rfl|exact .inr rfl|(intros; rfl))) (pv 1)) (by rfl)) (@pss_one _ _ _ (@ps_ret _ _ _ _ (@pe_op _ _ _ _ _ _ _ _ op_mod (@pe_callB _ _ _ _ _ _ _ _ _ call_abs (by rfl) (by exact T.z_abs) (by exact bt_abs) (@pa_consN _ _ _ _ _ (pv 3) pa_nil (by first|rfl|decide|exact .inl rfl|exact .inr rfl|(intros; rfl))) (by first|rfl|decide|exact .inl rfl|exact .inr rfl|(intros; rfl)) (by first|rfl|decide|exact .inl rfl|exact .inr rfl|(intros; rfl)) (by first|rfl|decide|exact .inl rfl|exact .inr rfl|(intros; rfl)) (by first|rfl|decide|exact .inl rfl|exact .inr rfl|(intros; rfl))) (pv 1))))) pss_nil) (@pss_cons _ _ _ _ _ (@ps_set _ _ (4) _ _ _ _ (by exact S.nd) (by rfl) (by first | exact Or.inl rfl | exact Or.inr rfl) (@pe_op _ _ _ _ _ _ _ _ op_mod (@pe_op _ _ _ _ _ _ _ _ op_mul (@pe_op _ _ _ _ _ _ _ _ op_add (@pe_op _ _ _ _ _ _ _ _ op_add (@pe_op _ _ _ _ _ _ _ _ op_mod (pv 3) pe_int) (@pe_op _ _ _ _ _ _ _ _ op_mul pe_int (pv 2))) pe_int) pe_int) pe_int) (by first|rfl|decide|exact .inl rfl|exact .inr rfl|(intros; rfl)) (by first|rfl|decide|exact .inl rfl|exact .inr rfl|(intros; rfl))) (@pss_cons _ _ _ _ _ (@ps_set _ _ (4) _ _ _ _ (by exact S.nd) (by rfl) (by first | exact Or.inl rfl | exact Or.inr rfl) (@pe_op _ _ _ _ _ _ _ _ op_mod (@pe_op _ _ _ _ _ _ _ _ op_add (@pe_op _ _ _ _ _ _ _ _ op_add (@pe_op _ _ _ _ _ _ _ _ op_mul (pv 4) (pv 4)) (@pe_op _ _ _ _ _ _ _ _ op_mul pe_int (pv 4))) (pv 2)) pe_int) (by first|rfl|decide|exact .inl rfl|exact .inr rfl|(intros; rfl)) (by first|rfl|decide|exact .inl rfl|exact .inr rfl|(intros; rfl))) (@pss_cons _ _ _ _ _ (@ps_set _ _ (4) _ _ _ _ (by exact S.nd) (by rfl) (by first | exact Or.inl rfl | exact Or.inr rfl) (@pe_op _ _ _ _ _ _ _ _ op_mod (@pe_op _ _ _ _ _ _ _ _ op_mul (pv 4) (@pe_op _ _ _ _ _ _ _ _ op_add (@pe_op _ _ _ _ _ _ _ _ op_mod (pv 4) pe_int) pe_int)) pe_int) (by first|rfl|decide|exact .inl rfl|exact .inr rfl|(intros; rfl)) (by first|rfl|decide|exact .inl rfl|exact .inr rfl|(intros; rfl))) (@pss_one _ _ _ (@ps_ret _ _ _ _ (@pe_op _ _ _ _ _ _ _ _ op_mod (@pe_op _ _ _ _ _ _ _ _ op_fdiv (pv 4) pe_int) (pv 1))))))))))))), ?_⟩
  apply joinI1 (C := fun (x : Int) (H' : Hp) => Pen H' p (n + 1) ∧ SameX p H H')
  case main =>
    intro key
    have gl := get_left hp
    refine ⟨_, rfl, p, _, rfl, gl, _, _, rfl, rfl, _, rfl, ?_⟩
    refine ite2 (fun _ => ?_) (fun _ => ?_)
    · refine ⟨_, rfl, p, _, rfl, gl, _, rfl, _, _, rfl, rfl, hm, ?_⟩
      refine ⟨_, rfl, p, _, rfl, gl, _, rfl, _, _, rfl, rfl, ⟨hm, hm2⟩, _, rfl, p, _, rfl, dput_left hp, ?_⟩
      refine ⟨_, rfl, ?_⟩
      exact k _ _ (Int.emod_nonneg _ (by omega)) (Int.emod_lt_of_pos _ hm) ⟨c, ns, a, _, upd_same, by rw [upd_ne hcp]; exact hc, ha0, by omega⟩ (SameX.upd hp)
    refine ⟨_, rfl, p, _, rfl, get_at hp, ?_⟩
    refine ⟨_, rfl, _, _, rfl, rfl, _, rfl, p, _, rfl, dput_at hp, ?_⟩
    have hp1 : (upd H p (.dK (penL c (a + 1) l))) p = some (.dK (penL c (a + 1) l)) := upd_same
    have hc1 : (upd H p (.dK (penL c (a + 1) l))) c = some (.lst (ns.map V.int)) := by rw [upd_ne hcp]; exact hc
    have x1 : SameX p H (upd H p (.dK (penL c (a + 1) l))) := SameX.upd hp
    generalize upd H p (.dK (penL c (a + 1) l)) = H1 at hp1 hc1 x1
    have gc := get_cells hp1
    have pen1 : Pen H1 p (n + 1) := ⟨c, ns, a + 1, l, hp1, hc1, by omega, by omega⟩
    have ha1 : a ≤ 100000 := by omega
    have haa : 0 ≤ 11 * a ∧ 11 * a ≤ 1100000 := by omega
    refine ⟨_, rfl, _, _, rfl, rfl, .inl ⟨by decide, by decide⟩, _, rfl, _, _, rfl, rfl, .inl ⟨by omega, by omega⟩, _, _, rfl, rfl, ?_⟩
    refine ⟨_, rfl, p, _, rfl, gc, c, _, rfl, .inl (SqL.of hc1), _, _, rfl, rfl, _, rfl, ?_⟩
    refine ite2 (fun c0 => ?_) (fun c0 => ?_)
    · have hl : 0 < ns.length := by
        have : (0 : Int) < (((ns.map V.int).length : Nat) : Int) := of_decide_eq_true c0
        rw [List.length_map] at this
        omega
      obtain ⟨z, hz⟩ := cell_at (ns := ns) a hl
      refine ⟨_, rfl, p, _, rfl, gc, _, rfl, _, rfl, p, _, rfl, gc, c, _, rfl, .inl (SqL.of hc1), _, _, rfl, rfl, (by rw [List.length_map]; omega), c, _, _, _, rfl, rfl, SqL.of hc1, hz, ?_⟩
      refine ⟨_, rfl, _, rfl, p, _, rfl, gc, c, _, rfl, .inl (SqL.of hc1), _, _, rfl, rfl, _, rfl, ?_⟩
      refine ite2 (fun c1 => ?_) (fun c1 => iteF ?_)
      · refine ⟨_, rfl, _, rfl, _, _, rfl, rfl, ⟨by decide, by decide, by decide⟩, _, _, rfl, rfl, _, rfl, ?_⟩
        refine ite2 (fun c2 => ?_) (fun c2 => ?_)
        · refine ⟨_, rfl, _, rfl, _, rfl, _, _, rfl, rfl, ⟨hm, hm2⟩, _, rfl, p, _, rfl, dput_left hp1, ?_⟩
          refine ⟨_, rfl, _, rfl, _, rfl, _, _, rfl, rfl, hm, ?_⟩
          exact k _ _ (Int.emod_nonneg _ (by omega)) (Int.emod_lt_of_pos _ hm) ⟨c, ns, a + 1, _, upd_same, by rw [upd_ne hcp]; exact hc1, by omega, by omega⟩ (x1.trans (SameX.upd hp1))
        · exact key z H1 ⟨pen1, x1⟩
      · exact key z H1 ⟨pen1, x1⟩
    · refine ⟨_, rfl, _, rfl, p, _, rfl, gc, c, _, rfl, .inl (SqL.of hc1), _, _, rfl, rfl, _, rfl, ?_⟩
      refine ite2 (fun c1 => ?_) (fun c1 => iteF ?_)
      · exfalso
        have e1 : ¬ (0 : Int) < (((ns.map V.int).length : Nat) : Int) := by simpa using c0
        have e2 : a < (((ns.map V.int).length : Nat) : Int) := of_decide_eq_true c1
        omega
      · exact key (11 * a * a + 5) H1 ⟨pen1, x1⟩
  case key =>
    rintro x H' ⟨pen1, x1⟩
    have a1 : a ≤ 100000 := by omega
    have e0 := Int.emod_nonneg x (show (2147483629 : Int) ≠ 0 by decide)
    have e1 := Int.emod_lt_of_pos x (show (0 : Int) < 2147483629 by decide)
    refine ⟨_, rfl, _, _, rfl, rfl, (show (0 : Int) < 2147483629 by decide), _, rfl, _, _, rfl, rfl, .inl ⟨by decide, by decide⟩, _, _, rfl, rfl, _, _, rfl, rfl, _, _, rfl, rfl, .inr ⟨by decide, by decide⟩, _, _, rfl, rfl, (show (0 : Int) < 2147483647 by decide), ?_⟩
    have w0 := Int.emod_nonneg ((x % 2147483629 + 104729 * a + 1) * 48271) (show (2147483647 : Int) ≠ 0 by decide)
    have w1 := Int.emod_lt_of_pos ((x % 2147483629 + 104729 * a + 1) * 48271) (show (0 : Int) < 2147483647 by decide)
    generalize (x % 2147483629 + 104729 * a + 1) * 48271 % 2147483647 = y at w0 w1
    refine ⟨_, rfl, _, rfl, _, _, rfl, rfl, .inl ⟨by omega, by omega⟩, _, rfl, _, _, rfl, rfl, .inl ⟨by decide, by decide⟩, _, _, rfl, rfl, _, rfl, _, _, rfl, rfl, _, _, rfl, rfl, (show (0 : Int) < 2147483587 by decide), ?_⟩
    have u0 := Int.emod_nonneg (y * y + 69621 * y + a) (show (2147483587 : Int) ≠ 0 by decide)
    have u1 := Int.emod_lt_of_pos (y * y + 69621 * y + a) (show (0 : Int) < 2147483587 by decide)
    generalize (y * y + 69621 * y + a) % 2147483587 = z at u0 u1
    refine ⟨_, rfl, _, rfl, _, _, rfl, rfl, (show (0 : Int) < 65521 by decide), _, _, rfl, rfl, _, _, rfl, rfl, .inl ⟨by omega, by omega⟩, _, _, rfl, rfl, (show (0 : Int) < 2147483579 by decide), ?_⟩
    refine ⟨_, rfl, _, _, rfl, rfl, ⟨by decide, by decide⟩, _, rfl, _, _, rfl, rfl, hm, ?_⟩
    exact k _ _ (Int.emod_nonneg _ (by omega)) (Int.emod_lt_of_pos _ hm) pen1 x1
/-! the mirrors -/
def lowF (t b : Int) : Int × Int := (t / gI t b, b / gI t b)
def spLowest : Sp := fun vs H Q _ => ∃ t b : Int, vs = [.int t, .int b] ∧ 0 ≤ t ∧ 0 < b ∧ Bt 8000 b ∧ ∀ v H', Same H H' → PrAt H' v (lowF t b) → Q v H'
theorem ok_lowest (C_l_measure : Cal P w K mg base "_law_measure" ["_law_a", "_law_b"] 1 spLMeasure) (F : FunAt K mg "_law_lowest" ["_law_top", "_law_bottom"] s_l_lowest) : Cal P w K mg base "_law_lowest" ["_law_top", "_law_bottom"] 2 spLowest := by
  have S := sc_l_lowest
  refine F.cal sc_l_lowest (fun vs H Q E h => ?_) (fun f cdv A outer s H vs Q E hr h => ?_)
  · obtain ⟨t, b, rfl, _⟩ := h; rfl
  obtain ⟨t, b, rfl, ht, hb, bb, k⟩ := h
  refine ⟨_, (@pss_cons _ _ _ _ _ (@ps_set _ _ (2) _ _ _ _ (by exact S.nd) (by rfl) (by first | exact Or.inl rfl | exact Or.inr rfl) (@cc _ _ _ _ _ _ _ _ _ _ (by exact C_l_measure) (by exact (hr.mono (by decide))) (@pa_consN _ _ _ _ _ (pv 0) (@pa_consN _ _ _ _ _ (pv 1) pa_nil (by first|rfl|decide|exact .inl rfl|exact .inr rfl|(intros; rfl))) (by first|rfl|decide|exact .inl rfl|exact .inr rfl|(intros; rfl))) (by first|rfl|decide|exact .inl rfl|exact .inr rfl|(intros; rfl)) (by first|rfl|decide|exact .inl rfl|exact .inr rfl|(intros; rfl)) (by first|rfl|decide|exact .inl rfl|exact .inr rfl|(intros; rfl)) (by first|rfl|decide|exact .inl rfl|exact .inr rfl|(intros; rfl))) (by first|rfl|decide|exact .inl rfl|exact .inr rfl|(intros; rfl)) (by first|rfl|decide|exact .inl rfl|exact .inr rfl|(intros; rfl))) (@pss_one _ _ _ (@ps_ret _ _ _ _ (@pe_tup _ _ _ _ _ (@pa_consN _ _ _ _ _ (@pe_op _ _ _ _ _ _ _ _ op_fdivB (pv 0) (pv 2)) (@pa_consN _ _ _ _ _ (@pe_op _ _ _ _ _ _ _ _ op_fdivB (pv 1) (pv 2)) pa_nil (by first|rfl|decide|exact .inl rfl|exact .inr rfl|(intros; rfl))) (by first|rfl|decide|exact .inl rfl|exact .inr rfl|(intros; rfl))))))), ?_⟩
  have g0 := gI_pos_right (a := t) (b := b) (by omega)
  have gb : Bt 8000 (gI t b) := bb.gr (by omega)
  refine ⟨_, rfl, _, rfl, _, _, rfl, ht, by omega, ?_⟩
  refine ⟨_, rfl, _, rfl, _, _, rfl, rfl, ⟨g0, gb⟩, _, rfl, _, rfl, _, _, rfl, rfl, ⟨g0, gb⟩, lz 2 rfl, fun p hp => ?_⟩
  exact k _ _ (same_new hp _) ⟨p, rfl, upd_same⟩
end
end My

set_option Elab.async false
set_option linter.all false
set_option maxRecDepth 100000
set_option maxHeartbeats 4000000
namespace My
open PySem L2 MA Srt
theorem shUpdL {H : Hp} {l : Addr} {zs : List V} {o : HO} {v : V} {q : Rat} (hl : H l = some (.lst zs)) (h : ShAt H v q) : ShAt (upd H l o) v q := by
  obtain ⟨a, rfl, ha⟩ := h
  exact ⟨a, rfl, by rw [upd_ne (ne_of ha hl (by intro z; cases z))]; exact ha⟩
theorem Shs.updL {H : Hp} {l : Addr} {zs : List V} {o : HO} (hl : H l = some (.lst zs)) : ∀ {xs : List V} {qs : List Rat}, Shs H xs qs → Shs (upd H l o) xs qs
  | _, _, .nil => .nil
  | _, _, .cons r t => .cons (shUpdL hl r) (Shs.updL hl t)
theorem Shs.snoc {H : Hp} {v : V} {q : Rat} (h : ShAt H v q) : ∀ {xs : List V} {qs : List Rat}, Shs H xs qs → Shs H (xs ++ [v]) (qs ++ [q])
  | _, _, .nil => .cons h .nil
  | _, _, .cons r t => .cons r (Shs.snoc h t)
theorem Shs.length {H : Hp} {xs : List V} {qs : List Rat} (h : Shs H xs qs) : xs.length = qs.length := Paired.length h
theorem Shs.at {H : Hp} {xs : List V} {qs : List Rat} {i : Nat} {x : V} (h : Shs H xs qs) (e : xs[i]? = some x) : ∃ q, qs[i]? = some q ∧ ShAt H x q := Paired.at' h e
abbrev prq (q : Rat) : Int × Int := (q.num, (q.den : Int))
theorem low_q {t b : Int} (hb : 0 < b) : lowF t b = prq (Rat.divInt t b) := by
  have := share_pos (t := t) hb
  unfold lowF prq
  rw [this.1, this.2]
/-! the bottom that all shares have in common -/
def tpF (L : Int) (qs : List Rat) : List Int := qs.map fun q => q.num * (L / (q.den : Int))
def lqF (qs : List Rat) (b : Int) : Int := qs.foldl (fun b q => b / gI b (q.den : Int) * (q.den : Int)) b
theorem lq_step {b d : Int} (hb : 0 < b) (hd : 0 < d) : 0 < b / gI b d * d ∧ b ∣ b / gI b d * d ∧ d ∣ b / gI b d * d := by
  have g0 := gI_pos_right (a := b) (b := d) (by omega)
  have g1 := gI_dvd_left b d
  have g2 := gI_dvd_right b d
  refine ⟨?_, ?_, Int.dvd_mul_left _ _⟩
  · refine Int.mul_pos ?_ hd
    exact Int.ediv_pos_of_pos_of_dvd hb (by omega) g1
  · obtain ⟨k, hk⟩ := g2
    have e : b / gI b d * d = b * k := by
      rw [show b / gI b d * d = b / gI b d * (gI b d * k) by rw [← hk], ← Int.mul_assoc, Int.ediv_mul_cancel g1]
    rw [e]
    exact Int.dvd_mul_right _ _
theorem lq_fold : ∀ (qs : List Rat) (b : Int), 0 < b → 0 < lqF qs b ∧ b ∣ lqF qs b ∧ ∀ q ∈ qs, (q.den : Int) ∣ lqF qs b
  | [], b, h => ⟨h, Int.dvd_refl _, by simp⟩
  | q :: qs, b, h => by
    obtain ⟨p1, p2, p3⟩ := lq_step (d := (q.den : Int)) h (by have := q.den_pos; omega)
    obtain ⟨i1, i2, i3⟩ := lq_fold qs _ p1
    refine ⟨i1, Int.dvd_trans p2 i2, fun r hr => ?_⟩
    rcases List.mem_cons.mp hr with rfl | hr
    · exact Int.dvd_trans p3 i2
    · exact i3 r hr
theorem lq_bits : ∀ (qs : List Rat) (b : Int) (m : Nat), 0 < b → Bt m b → (∀ q ∈ qs, SB 50 q) → Bt (m + 50 * qs.length) (lqF qs b)
  | [], b, m, _, h, _ => h
  | q :: qs, b, m, h0, h, hq => by
    obtain ⟨p1, _, _⟩ := lq_step (d := (q.den : Int)) h0 (by have := q.den_pos; omega)
    have g0 := gI_pos_right (a := b) (b := (q.den : Int)) (by have := q.den_pos; omega)
    have := lq_bits qs _ (m + 50) p1 ((h.ediv g0).mul (hq q (by simp)).2) fun r hr => hq r (by simp [hr])
    exact this.mono (by simp; omega)
theorem lq_snoc {qs : List Rat} {i : Nat} {q : Rat} (h : qs[i]? = some q) : lqF (qs.take (i + 1)) 1 = lqF (qs.take i) 1 / gI (lqF (qs.take i) 1) (q.den : Int) * (q.den : Int) := by
  unfold lqF
  rw [List.take_add_one, h, List.foldl_append]
  rfl
theorem lq_all {qs : List Rat} (hq : ∀ q ∈ qs, SB 50 q) (hl : qs.length ≤ 24) (i : Nat) : 0 < lqF (qs.take i) 1 ∧ Bt 1201 (lqF (qs.take i) 1) := by
  refine ⟨(lq_fold _ 1 (by decide)).1, (lq_bits (qs.take i) 1 1 (by decide) (by decide) fun q h => hq q (List.mem_of_mem_take h)).mono ?_⟩
  rw [List.length_take]
  omega
def partedF (t : Int) (bs : List Int) : Int × Int := bs.foldl (fun s x => (s.1 / gI s.1 x, s.2 * (x / gI s.1 x))) (t, 1)

theorem lq_dvd : ∀ (qs : List Rat) (b S : Int), 0 < b → 0 < S → b ∣ S → (∀ q ∈ qs, (q.den : Int) ∣ S) → lqF qs b ∣ S
  | [], b, S, _, _, h, _ => h
  | q :: qs, b, S, hb, hS, h, hq => by
    obtain ⟨p1, _, _⟩ := lq_step (d := (q.den : Int)) hb (by have := q.den_pos; omega)
    refine lq_dvd qs _ S p1 hS ?_ fun r hr => hq r (by simp [hr])
    have hd := hq q (by simp)
    have d0 : (0 : Int) < (q.den : Int) := by have := q.den_pos; omega
    have g0 := gI_pos_right (a := b) (b := (q.den : Int)) (by omega)
    -- the least common multiple
    have g1 := gI_dvd_left b (q.den : Int)
    have e : b / gI b (q.den : Int) * (q.den : Int) = ((b.natAbs.lcm q.den : Nat) : Int) := by
      obtain ⟨m, rfl⟩ : ∃ m : Nat, b = (m : Int) := ⟨b.natAbs, by omega⟩
      show (m : Int) / ((m.gcd q.den : Nat) : Int) * (q.den : Int) = ((m.lcm q.den : Nat) : Int)
      rw [← Int.natCast_ediv, ← Int.natCast_mul, Nat.div_mul_right_comm (Nat.gcd_dvd_left _ _)]
      rfl
    show b / gI b (q.den : Int) * (q.den : Int) ∣ S
    rw [e]
    have hbn : b.natAbs ∣ S.natAbs := Int.natAbs_dvd_natAbs.mpr h
    have hdn : q.den ∣ S.natAbs := by have := Int.natAbs_dvd_natAbs.mpr hd; simpa using this
    have := Nat.lcm_dvd hbn hdn
    have := Int.natCast_dvd_natCast.mpr this
    rwa [Int.natAbs_of_nonneg (by omega)] at this
theorem tp_at {L : Int} {q : Rat} (hd : (q.den : Int) ∣ L) {t b : Int} (hb : 0 < b) (e : q = Rat.divInt t b) : q.num * (L / (q.den : Int)) * b = t * L := by
  obtain ⟨k, hk⟩ := hd
  have d0 : (0 : Int) < (q.den : Int) := by have := q.den_pos; omega
  rw [hk, Int.mul_ediv_cancel_left _ (by omega)]
  have h1 : q.num * b = t * (q.den : Int) := by
    have := (Rat.divInt_eq_divInt_iff (n₁ := q.num) (n₂ := t) (d₁ := (q.den : Int)) (d₂ := b) (by omega) (by omega)).mp (by rw [← e]; exact Rat.num_divInt_den q)
    exact this
  rw [show q.num * k * b = q.num * b * k by rw [Int.mul_right_comm], h1, Int.mul_assoc]
/-- over one more bottom -/
theorem part_step (q : Rat) {x : Int} (hx : 0 < x) {t b : Int} (hb : 0 < b) (e : q = Rat.divInt t b) : (q.num / gI q.num x, (q.den : Int) * (x / gI q.num x)) = prq (Rat.divInt t (b * x)) := by
  have d0 : (0 : Int) < (q.den : Int) := by have := q.den_pos; omega
  have e2 : Rat.divInt t (b * x) = Rat.divInt q.num ((q.den : Int) * x) := by
    rw [Rat.divInt_eq_divInt_iff (by have := Int.mul_pos hb hx; omega) (by have := Int.mul_pos d0 hx; omega)]
    have h1 : q.num * b = t * (q.den : Int) := by
      have := (Rat.divInt_eq_divInt_iff (n₁ := q.num) (n₂ := t) (d₁ := (q.den : Int)) (d₂ := b) (by omega) (by omega)).mp (by rw [← e]; exact Rat.num_divInt_den q)
      exact this
    rw [← Int.mul_assoc, ← h1]; rw [Int.mul_assoc]
  have sp := share_pos (t := q.num) (Int.mul_pos d0 hx)
  have eg : gI q.num ((q.den : Int) * x) = gI q.num x := by
    unfold gI
    congr 1
    show q.num.natAbs.gcd ((q.den : Int) * x).natAbs = q.num.natAbs.gcd x.natAbs
    rw [Int.natAbs_mul]
    exact Nat.Coprime.gcd_mul_left_cancel_right _ (by simpa using q.reduced.symm)
  rw [eg] at sp
  rw [e2]
  unfold prq
  rw [← sp.1, ← sp.2]
  congr 1
  exact (Int.mul_ediv_assoc _ (gI_dvd_right q.num x)).symm
theorem parted_q {t : Int} : ∀ (n : Nat) (bs : List Int), bs.length = n → (∀ b ∈ bs, 0 < b) → partedF t bs = prq (Rat.divInt t bs.prod)
  | 0, bs, h, _ => by
    have : bs = [] := List.length_eq_zero_iff.mp h
    subst this
    have := share_pos (t := t) (b := 1) (by decide)
    show (t, 1) = _
    unfold prq
    rw [List.prod_nil, ← this.1, ← this.2]
    have : gI t 1 = 1 := by unfold gI; simp
    rw [this, Int.ediv_one]; rfl
  | n + 1, bs, h, hb => by
    obtain ⟨l, x, rfl⟩ : ∃ l x, bs = l ++ [x] := by
      rcases List.eq_nil_or_concat bs with e | ⟨l, r, e⟩
      · subst e; simp at h
      · exact ⟨l, r, by rw [e, List.concat_eq_append]⟩
    have ih := parted_q (t := t) n l (by simpa using h) fun b hb' => hb b (by simp [hb'])
    have e : partedF t (l ++ [x]) = ((partedF t l).1 / gI (partedF t l).1 x, (partedF t l).2 * (x / gI (partedF t l).1 x)) := by unfold partedF; rw [List.foldl_append]; rfl
    have hp : 0 < l.prod := by
      have : ∀ (l : List Int), (∀ b ∈ l, 0 < b) → 0 < l.prod := by
        intro l
        induction l with
        | nil => intro _; simp
        | cons a l ih => intro h; rw [List.prod_cons]; exact Int.mul_pos (h a (by simp)) (ih fun b hb => h b (by simp [hb]))
      exact this l fun b hb' => hb b (by simp [hb'])
    rw [e, ih, List.prod_append, List.prod_cons, List.prod_nil, Int.mul_one]
    exact part_step _ (hb x (by simp)) hp rfl
/-! loads -/
/-! spreads as they lie -/
abbrev Spd := List (List Int × Rat)
def RwAt (H : Hp) (v : V) (r : List Int × Rat) : Prop := ∃ a b v2, v = .ref a ∧ H a = some (.tup [.ref b, v2]) ∧ H b = some (.tup (iv r.1)) ∧ ShAt H v2 r.2
def SpAt (H : Hp) (l : Addr) (rs : Spd) : Prop := ∃ xs, H l = some (.lst xs) ∧ Paired (RwAt H) xs rs
theorem RwAt.imp {H H' : Hp} {v : V} {r : List Int × Rat} (k : ∀ b xs, H b = some (.tup xs) → H' b = some (.tup xs)) (h : RwAt H v r) : RwAt H' v r := by
  obtain ⟨a, b, v2, e, h1, h2, c, e2, h3⟩ := h
  exact ⟨a, b, v2, e, k _ _ h1, k _ _ h2, c, e2, k _ _ h3⟩
theorem SpAt.same {H H' : Hp} {l : Addr} {rs : Spd} (s : Same H H') (h : SpAt H l rs) : SpAt H' l rs := let ⟨xs, e, r⟩ := h; ⟨xs, s _ _ e, Paired.mapP r fun _ _ z => z.imp fun b xs e => s b _ e⟩
theorem SpAt.sameX {H H' : Hp} {p l : Addr} {rs : Spd} {kvs : List (Key × V)} (hp : H p = some (.dK kvs)) (s : SameX p H H') (h : SpAt H l rs) : SpAt H' l rs := by
  obtain ⟨xs, e, r⟩ := h
  have k : ∀ {b : Addr} {o : HO}, H b = some o → (∀ kvs, o ≠ .dK kvs) → H' b = some o := fun {b o} e z => s.1 b o e (fun q => by subst q; rw [hp] at e; cases e; exact z _ rfl)
  exact ⟨xs, k e (fun _ z => by cases z), Paired.mapP r fun _ _ z => z.imp fun b xs e => k e (fun _ z => by cases z)⟩
def dRw (r : List Int × Rat) : PyData := .tuple [.tuple (r.1.map PyData.int), .tuple [.int r.2.num, .int (r.2.den : Int)]]
def dSp (rs : Spd) : PyData := .list (rs.map dRw)
theorem rw_data {H : Hp} {v : V} {r : List Int × Rat} (h : RwAt H v r) : DataV H v (dRw r) := by
  obtain ⟨a, b, v2, rfl, h1, h2, c, rfl, h3⟩ := h
  exact .tup h1 (.cons (.tup h2 (data_ints H r.1)) (.cons (.tup h3 (.cons (.int _) (.cons (.int _) .nil))) .nil))
theorem sp_data {H : Hp} {l : Addr} {rs : Spd} (h : SpAt H l rs) : DataV H (.ref l) (dSp rs) := by
  obtain ⟨xs, e, r⟩ := h
  refine .lst e ?_
  clear e
  induction r with
  | nil => exact .nil
  | cons q t ih => exact .cons (rw_data q) ih
def sprF (m : Mp) (W : Int) : Spd := (rise (keysM m)).map fun k => (k, Rat.divInt (getM m k) W)
section
variable {P : Program} {w : World} {K : PySem.W.Frag} {mg : Str → Option Value} {base : Heap}
def spWeighQ : Sp := fun vs H Q _ => ∃ (l : Addr) (xs : List V) (qs : List Rat), vs = [.ref l] ∧ H l = some (.lst xs) ∧ Shs H xs qs ∧ (∀ q ∈ qs, SB 50 q) ∧ qs.length ≤ 24 ∧
  ∀ (t c : Addr) (H' : Hp), Same H H' → H' t = some (.tup [.ref c, .int (lqF qs 1)]) → H' c = some (.lst (iv (tpF (lqF qs 1) qs))) → Q (.ref t) H'
theorem ok_weighQ (C_measure : Cal P w K mg base "measure" ["a", "b"] 1 spMeasure) (F : FunAt K mg "weighed" ["some"] s_weighed) : Cal P w K mg base "weighed" ["some"] 2 spWeighQ := by
  have S := sc_weighed
  refine F.cal sc_weighed (fun vs H Q E h => ?_) (fun f cdv A outer s H vs Q E hr h => ?_)
  · obtain ⟨l, xs, qs, rfl, _⟩ := h; rfl
  obtain ⟨l, xs, qs, rfl, hl, shs, bq, hn, k⟩ := h
  have xl := shs.length
  refine ⟨_, (@pss_cons _ _ _ _ _ (@ps_set _ _ (1) _ _ _ _ (by exact S.nd) (by rfl) (by first | exact Or.inl rfl | exact Or.inr rfl) pe_int (by first|rfl|decide|exact .inl rfl|exact .inr rfl|(intros; rfl)) (by first|rfl|decide|exact .inl rfl|exact .inr rfl|(intros; rfl))) (@pss_cons _ _ _ _ _ (@ps_for _ _ _ _ _ _ _ _ (by exact PassesOwn.never) (by rfl) (@pi_list _ _ _ _ (pv 0)) (@pg_name _ _ (2) _ (by exact S.nd) (by rfl) (by first | exact Or.inl rfl | exact Or.inr rfl) (by first|rfl|decide|exact .inl rfl|exact .inr rfl|(intros; rfl))) (@pss_one _ _ _ (@ps_set _ _ (1) _ _ _ _ (by exact S.nd) (by rfl) (by first | exact Or.inl rfl | exact Or.inr rfl) (@pe_op _ _ _ _ _ _ _ _ op_mulB (@pe_op _ _ _ _ _ _ _ _ op_fdivB (pv 1) (@cc _ _ _ _ _ _ _ _ _ _ (by exact C_measure) (by exact (hr.mono (by decide))) (@pa_consN _ _ _ _ _ (pv 1) (@pa_consN _ _ _ _ _ (@pe_ix _ _ _ _ _ _ _ ix_tup0 (pv 2) pe_int (by exact (fun _ _ => rfl))) pa_nil (by first|rfl|decide|exact .inl rfl|exact .inr rfl|(intros; rfl))) (by first|rfl|decide|exact .inl rfl|exact .inr rfl|(intros; rfl))) (by first|rfl|decide|exact .inl rfl|exact .inr rfl|(intros; rfl)) (by first|rfl|decide|exact .inl rfl|exact .inr rfl|(intros; rfl)) (by first|rfl|decide|exact .inl rfl|exact .inr rfl|(intros; rfl)) (by first|rfl|decide|exact .inl rfl|exact .inr rfl|(intros; rfl)))) (@pe_ix _ _ _ _ _ _ _ ix_tup0 (pv 2) pe_int (by exact (fun _ _ => rfl)))) (by first|rfl|decide|exact .inl rfl|exact .inr rfl|(intros; rfl)) (by first|rfl|decide|exact .inl rfl|exact .inr rfl|(intros; rfl)))) (by first|rfl|decide|exact .inl rfl|exact .inr rfl|(intros; rfl))) (@pss_one _ _ _ (@ps_ret _ _ _ _ (@pe_tup _ _ _ _ _ (@pa_consN _ _ _ _ _ (@pe_comp _ _ _ _ _ _ _ _ _ _ _ _ _ (by rfl) (by exact (fun _ _ h => h)) (by decide +kernel) (by rfl) (by decide +kernel) (by exact hfr_of rfl) (by exact Sees.frees ["one"] [("bottom", 1)] (fr_cons ⟨rfl, rfl⟩ fr_nil)) (@pi_list _ _ _ _ (pv 0)) (fun _ _ _ _ _ => @pg_name _ _ (0) _ (by exact (show (["one", "bottom"] : List Str).Nodup by decide +kernel)) (by rfl) (by first | exact Or.inl rfl | exact Or.inr rfl) (by first|rfl|decide|exact .inl rfl|exact .inr rfl|(intros; rfl))) (fun _ _ _ _ _ => pts_nil) (fun _ _ _ _ _ => (@pe_op _ _ _ _ _ _ _ _ op_mulB (@pe_ix _ _ _ _ _ _ _ ix_tup0 (pv 0) pe_int (by exact (fun _ _ => rfl))) (@pe_op _ _ _ _ _ _ _ _ op_fdivB (pv 1) (@pe_ix _ _ _ _ _ _ _ ix_tup0 (pv 0) pe_int (by exact (fun _ _ => rfl)))))) (by first|rfl|decide|exact .inl rfl|exact .inr rfl|(intros; rfl))) (@pa_consN _ _ _ _ _ (pv 1) pa_nil (by first|rfl|decide|exact .inl rfl|exact .inr rfl|(intros; rfl))) (by first|rfl|decide|exact .inl rfl|exact .inr rfl|(intros; rfl)))))))), ?_⟩
  refine ⟨_, rfl, l, rfl, ⟨_, SqL.of hl⟩, for_list (xs := xs) (fun i σ H' => H' = H ∧ ∃ o, σ = [some (.ref l), some (.int (lqF (qs.take i) 1)), o]) ?_ ?_ ?_ ?_⟩
  · exact ⟨rfl, _, rfl⟩
  · rintro i σ H' _ ⟨rfl, _⟩
    exact SqL.of hl
  · rintro i x σ H' hx ⟨rfl, o, rfl⟩
    obtain ⟨q, hq, ⟨a, rfl, ha⟩⟩ := shs.at hx
    obtain ⟨b0, b1⟩ := lq_all bq hn i
    have qb := bq q (List.mem_of_getElem? hq)
    have g0 := gI_pos_right (a := lqF (qs.take i) 1) (b := (q.den : Int)) (by have := q.den_pos; omega)
    have gb : Bt 8000 (gI (lqF (qs.take i) 1) (q.den : Int)) := (qb.2.gr (by have := q.den_pos; omega)).mono (by decide)
    refine ⟨_, rfl, _, rfl, _, rfl, a, _, _, _, rfl, rfl, ha, rfl, _, _, rfl, _, _, rfl, rfl, ⟨g0, gb⟩, _, rfl, a, _, _, _, rfl, rfl, ha, rfl, _, _, rfl, rfl, ⟨(b1.ediv g0).mono (by decide), qb.2.mono (by decide)⟩, ?_⟩
    exact ⟨rfl, _, by rw [lq_snoc hq]; rfl⟩
  · rintro σ H2 ⟨rfl, o, rfl⟩
    rw [xl, List.take_length]
    obtain ⟨b0, b1⟩ := lq_all bq hn qs.length
    rw [List.take_length] at b0 b1
    refine ⟨_, rfl, l, rfl, ⟨_, SqL.of hl⟩, comp_lst (xs := xs) (fs := [some (.int (lqF qs 1))]) (fun acc i ys H' => Same H2 H' ∧ ys = iv (tpF (lqF qs 1) (qs.take i))) (by omega) ?_ ?_ ?_ ?_⟩
    · intro acc hacc
      exact ⟨same_new hacc _, rfl⟩
    · rintro acc i ys H' hacc ⟨s', _⟩
      exact s' _ _ hl
    · rintro acc i ys H' x hacc hx hlen ⟨s', rfl⟩ hacc' Q' hQ
      obtain ⟨q, hq, ⟨a, rfl, ha⟩⟩ := shs.at hx
      have qb := bq q (List.mem_of_getElem? hq)
      have d0 : (0 : Int) < (q.den : Int) := by have := q.den_pos; omega
      refine ⟨_, rfl, a, _, _, _, rfl, rfl, s' _ _ ha, rfl, _, rfl, _, rfl, a, _, _, _, rfl, rfl, s' _ _ ha, rfl, _, _, rfl, rfl, ⟨d0, qb.2.mono (by decide)⟩, _, _, rfl, rfl, ⟨qb.1.mono (by decide), (b1.ediv d0).mono (by decide)⟩, hQ _ H' hacc' ⟨same_updN hacc s' _, ?_⟩⟩
      unfold tpF
      rw [List.take_add_one, hq, List.map_append]
      simp
    · rintro acc ys H' hacc ⟨s', rfl⟩ hacc' hlen
      rw [xl, List.take_length] at hacc'
      refine ⟨_, rfl, lz 2 rfl, fun t ht => ?_⟩
      have st := same_new ht (.tup [.ref acc, .int (lqF qs 1)])
      exact k t acc _ (s'.trans st) upd_same (st _ _ hacc')
def spParted : Sp := fun vs H Q _ => ∃ (t : Int) (l : Addr) (bs : List Int), vs = [.int t, .ref l] ∧ H l = some (.lst (bs.map V.int)) ∧ (∀ b ∈ bs, 0 < b ∧ b < 1000000) ∧ ∀ v H', Same H H' → PrAt H' v (partedF t bs) → Q v H'
theorem partedF_take {t : Int} {bs : List Int} {i : Nat} {b : Int} (h : bs[i]? = some b) : partedF t (bs.take (i + 1)) = ((partedF t (bs.take i)).1 / gI (partedF t (bs.take i)).1 b, (partedF t (bs.take i)).2 * (b / gI (partedF t (bs.take i)).1 b)) := by
  unfold partedF
  rw [List.take_add_one, h, List.foldl_append]
  rfl
theorem ok_parted (C_measure : Cal P w K mg base "measure" ["a", "b"] 1 spMeasure) (F : FunAt K mg "parted" ["top", "bottoms"] s_parted) : Cal P w K mg base "parted" ["top", "bottoms"] 2 spParted := by
  have S := sc_parted
  refine F.cal sc_parted (fun vs H Q E h => ?_) (fun f cdv A outer s H vs Q E hr h => ?_)
  · obtain ⟨t, l, bs, rfl, _⟩ := h; rfl
  obtain ⟨t, l, bs, rfl, hl, hb, k⟩ := h
  refine ⟨_, (@pss_cons _ _ _ _ _ (@ps_set _ _ (2) _ _ _ _ (by exact S.nd) (by rfl) (by first | exact Or.inl rfl | exact Or.inr rfl) pe_int (by first|rfl|decide|exact .inl rfl|exact .inr rfl|(intros; rfl)) (by first|rfl|decide|exact .inl rfl|exact .inr rfl|(intros; rfl))) (@pss_cons _ _ _ _ _ (@ps_for _ _ _ _ _ _ _ _ (by exact PassesOwn.never) (by rfl) (@pi_list _ _ _ _ (pv 1)) (@pg_name _ _ (3) _ (by exact S.nd) (by rfl) (by first | exact Or.inl rfl | exact Or.inr rfl) (by first|rfl|decide|exact .inl rfl|exact .inr rfl|(intros; rfl))) (@pss_cons _ _ _ _ _ (@ps_set _ _ (4) _ _ _ _ (by exact S.nd) (by rfl) (by first | exact Or.inl rfl | exact Or.inr rfl) (@cc _ _ _ _ _ _ _ _ _ _ (by exact C_measure) (by exact (hr.mono (by decide))) (@pa_consN _ _ _ _ _ (pv 0) (@pa_consN _ _ _ _ _ (pv 3) pa_nil (by first|rfl|decide|exact .inl rfl|exact .inr rfl|(intros; rfl))) (by first|rfl|decide|exact .inl rfl|exact .inr rfl|(intros; rfl))) (by first|rfl|decide|exact .inl rfl|exact .inr rfl|(intros; rfl)) (by first|rfl|decide|exact .inl rfl|exact .inr rfl|(intros; rfl)) (by first|rfl|decide|exact .inl rfl|exact .inr rfl|(intros; rfl)) (by first|rfl|decide|exact .inl rfl|exact .inr rfl|(intros; rfl))) (by first|rfl|decide|exact .inl rfl|exact .inr rfl|(intros; rfl)) (by first|rfl|decide|exact .inl rfl|exact .inr rfl|(intros; rfl))) (@pss_cons _ _ _ _ _ (@ps_set _ _ (0) _ _ _ _ (by exact S.nd) (by rfl) (by first | exact Or.inl rfl | exact Or.inr rfl) (@pe_op _ _ _ _ _ _ _ _ op_fdivB (pv 0) (pv 4)) (by first|rfl|decide|exact .inl rfl|exact .inr rfl|(intros; rfl)) (by first|rfl|decide|exact .inl rfl|exact .inr rfl|(intros; rfl))) (@pss_one _ _ _ (@ps_set _ _ (2) _ _ _ _ (by exact S.nd) (by rfl) (by first | exact Or.inl rfl | exact Or.inr rfl) (@pe_op _ _ _ _ _ _ _ _ op_mul (pv 2) (@pe_op _ _ _ _ _ _ _ _ op_fdivB (pv 3) (pv 4))) (by first|rfl|decide|exact .inl rfl|exact .inr rfl|(intros; rfl)) (by first|rfl|decide|exact .inl rfl|exact .inr rfl|(intros; rfl)))))) (by first|rfl|decide|exact .inl rfl|exact .inr rfl|(intros; rfl))) (@pss_one _ _ _ (@ps_ret _ _ _ _ (@pe_tup _ _ _ _ _ (@pa_consN _ _ _ _ _ (pv 0) (@pa_consN _ _ _ _ _ (pv 2) pa_nil (by first|rfl|decide|exact .inl rfl|exact .inr rfl|(intros; rfl))) (by first|rfl|decide|exact .inl rfl|exact .inr rfl|(intros; rfl)))))))), ?_⟩
  refine ⟨_, rfl, l, rfl, ⟨_, SqL.of hl⟩, for_list (xs := bs.map V.int) (fun i σ H' => H' = H ∧ ∃ o1 o2, σ = [some (.int (partedF t (bs.take i)).1), some (.ref l), some (.int (partedF t (bs.take i)).2), o1, o2]) ⟨rfl, _, _, rfl⟩ (fun i σ H2 _ ⟨e, _⟩ => by rw [e]; exact SqL.of hl) ?_ ?_⟩
  · rintro i y σ H' hi ⟨rfl, o1, o2, rfl⟩
    rw [List.getElem?_map] at hi
    cases hbi : bs[i]? with
    | none => rw [hbi] at hi; cases hi
    | some b =>
      rw [hbi] at hi
      cases hi
      obtain ⟨b0, b1⟩ := hb b (List.mem_of_getElem? hbi)
      have g0 := gI_pos_right (a := (partedF t (bs.take i)).1) (b := b) (by omega)
      have bb : Bt 20 b := intBits_le_iff.mpr (by show b.natAbs < 2 ^ 20; have : (2 : Nat) ^ 20 = 1048576 := rfl; omega)
      have gb : Bt 8000 (gI (partedF t (bs.take i)).1 b) := (bb.gr (by omega)).mono (by decide)
      have q0 : 0 ≤ b / gI (partedF t (bs.take i)).1 b := Int.ediv_nonneg (by omega) (by omega)
      have q1 : b / gI (partedF t (bs.take i)).1 b ≤ b := Int.ediv_le_self _ (by omega)
      refine ⟨_, rfl, _, rfl, _, _, rfl, ?_⟩
      refine ⟨_, rfl, _, rfl, _, _, rfl, rfl, ⟨g0, gb⟩, ?_⟩
      refine ⟨_, rfl, _, rfl, _, rfl, _, _, rfl, rfl, ⟨g0, gb⟩, _, _, rfl, rfl, .inr ⟨by omega, by omega⟩, rfl, some (.int b), some (.int (gI (partedF t (bs.take i)).1 b)), ?_⟩
      rw [partedF_take hbi]
      rfl
  · rintro σ H' ⟨rfl, o1, o2, rfl⟩
    rw [List.length_map, List.take_length]
    exact ⟨_, rfl, _, rfl, lz 2 rfl, fun p hp => k _ _ (same_new hp _) ⟨p, rfl, upd_same⟩⟩

end
end My

set_option Elab.async false
set_option linter.all false
set_option maxRecDepth 100000
set_option maxHeartbeats 4000000
namespace My
open PySem L2 MA Srt
theorem iv_key (k : List Int) : iv k = (k.map (Sum.inl : Int → Key)).map kV := by rw [List.map_map]; rfl
def fI (p : List Int × Int) : List Int × V := (p.1, .int p.2)
theorem dI_kI (m : Mp) : HO.dT ((m.map fI).map kI) = dI m := by unfold dI; rw [List.map_map]; rfl
theorem tupL {H : Hp} {p : Addr} {ys : List V} {o : HO} (h : H p = some (.lst ys)) : ∀ b xs, H b = some (.tup xs) → upd H p o b = some (.tup xs) := fun b xs e => by rw [upd_ne (ne_of e h (by intro z; cases z))]; exact e
theorem tT_ {σ : St} {H : Hp} {Q : Bool → Hp → Prop} (h : Q true H) : tTT σ H Q := h
theorem none_of {H H' : Hp} {p : Addr} (s : Same H H') (h : H' p = none) : H p = none := by
  cases e : H p with
  | none => rfl
  | some o => rw [s _ _ e] at h; cases h
theorem paired_snoc {α β : Type} {F : α → β → Prop} {xs : List α} {ys : List β} {x : α} {y : β} (h : Paired F xs ys) (r : F x y) : Paired F (xs ++ [x]) (ys ++ [y]) := Paired.snoc h r
theorem take_snoc {α : Type} {l : List α} {i : Nat} {x : α} (h : l[i]? = some x) : l.take (i + 1) = l.take i ++ [x] := by rw [List.take_add_one, h]; rfl
/-- a load of n boxes with b balls -/
structure LdOk (ns : List Int) (n : Nat) (b : Int) : Prop where
  len : ns.length = n
  nn : ∀ x ∈ ns, 0 ≤ x
  dn : ns.Pairwise (· ≥ ·)
  sum : ns.sum = b
theorem sum_set1 {ns : List Int} {j : Nat} (h : j < ns.length) : (ns.set j (ns.getD j 0 + 1)).sum = ns.sum + 1 := by
  induction ns generalizing j with
  | nil => simp at h
  | cons a ns ih =>
    cases j with
    | zero => simp; omega
    | succ j =>
      have := ih (j := j) (by simpa using h)
      simp only [List.set_cons_succ, List.sum_cons, List.getD_cons_succ]
      rw [this]; omega
theorem nn_set1 {ns : List Int} {j : Nat} (h : ∀ x ∈ ns, 0 ≤ x) : ∀ x ∈ ns.set j (ns.getD j 0 + 1), 0 ≤ x := by
  intro x hx
  rcases List.mem_or_eq_of_mem_set hx with z | z
  · exact h x z
  · subst z
    rw [List.getD_eq_getElem?_getD]
    cases e : ns[j]? with
    | none => simp
    | some y => have := h y (List.mem_of_getElem? e); simp; omega
theorem iv_rep (x : Int) (k : Nat) : (List.replicate k [V.int x]).flatten = iv (List.replicate k x) := rep1 x k
section
variable {P : Program} {w : World} {K : PySem.W.Frag} {mg : Str → Option Value} {base : Heap}
def spLLoad : Sp := fun vs H Q _ => ∃ (p : Addr) (n : Nat) (b : Nat) (m : Nat), vs = [.ref p, .int (n : Int), .int (b : Int)] ∧ 1 ≤ n ∧ n ≤ 6 ∧ b ≤ 40 ∧ Pen H p m ∧ m < 60000 ∧ ∀ (a : Addr) (ns : List Int) (H' : Hp), H' a = some (.tup (iv ns)) → LdOk ns n b → Pen H' p (m + 42) → SameX p H H' → Q (.ref a) H'
theorem ok_lload (T : Txt2 mg) (C_l_draw : Cal P w K mg base "_law_draw" ["_law_pen_here", "_law_many"] 1 spDraw) (F : FunAt K mg "_law_load" ["_law_pen_here", "_law_n", "_law_balls"] s_l_load) : Cal P w K mg base "_law_load" ["_law_pen_here", "_law_n", "_law_balls"] 2 spLLoad := by
  have S := sc_l_load
  refine F.cal sc_l_load (fun vs H Q E h => ?_) (fun f cdv A outer s H vs Q E hr h => ?_)
  · obtain ⟨p, n, b, m, rfl, _⟩ := h; rfl
  obtain ⟨p, n, b, m, rfl, n1, n6, b40, hp, hm, k⟩ := h
  refine ⟨_, (@pss_cons _ _ _ _ _ (@ps_set _ _ (3) _ _ _ _ (by exact S.nd) (by rfl) (by first | exact Or.inl rfl | exact Or.inr rfl) (@pe_op _ _ _ _ _ _ _ _ op_rep (@pe_lst _ _ _ _ (@pa_consN _ _ _ _ _ pe_int pa_nil (by first|rfl|decide|exact .inl rfl|exact .inr rfl|(intros; rfl)))) (pv 1)) (by first|rfl|decide|exact .inl rfl|exact .inr rfl|(intros; rfl)) (by first|rfl|decide|exact .inl rfl|exact .inr rfl|(intros; rfl))) (@pss_cons _ _ _ _ _ (@ps_set _ _ (4) _ _ _ _ (by exact S.nd) (by rfl) (by first | exact Or.inl rfl | exact Or.inr rfl) (@cc _ _ _ _ _ _ _ _ _ _ (by exact C_l_draw) (by exact (hr.mono (by decide))) (@pa_consN _ _ _ _ _ (pv 0) (@pa_consN _ _ _ _ _ pe_int pa_nil (by first|rfl|decide|exact .inl rfl|exact .inr rfl|(intros; rfl))) (by first|rfl|decide|exact .inl rfl|exact .inr rfl|(intros; rfl))) (by first|rfl|decide|exact .inl rfl|exact .inr rfl|(intros; rfl)) (by first|rfl|decide|exact .inl rfl|exact .inr rfl|(intros; rfl)) (by first|rfl|decide|exact .inl rfl|exact .inr rfl|(intros; rfl)) (by first|rfl|decide|exact .inl rfl|exact .inr rfl|(intros; rfl))) (by first|rfl|decide|exact .inl rfl|exact .inr rfl|(intros; rfl)) (by first|rfl|decide|exact .inl rfl|exact .inr rfl|(intros; rfl))) (@pss_cons _ _ _ _ _ (@ps_set _ _ (5) _ _ _ _ (by exact S.nd) (by rfl) (by first | exact Or.inl rfl | exact Or.inr rfl) (@cc _ _ _ _ _ _ _ _ _ _ (by exact C_l_draw) (by exact (hr.mono (by decide))) (@pa_consN _ _ _ _ _ (pv 0) (@pa_consN _ _ _ _ _ (pv 1) pa_nil (by first|rfl|decide|exact .inl rfl|exact .inr rfl|(intros; rfl))) (by first|rfl|decide|exact .inl rfl|exact .inr rfl|(intros; rfl))) (by first|rfl|decide|exact .inl rfl|exact .inr rfl|(intros; rfl)) (by first|rfl|decide|exact .inl rfl|exact .inr rfl|(intros; rfl)) (by first|rfl|decide|exact .inl rfl|exact .inr rfl|(intros; rfl)) (by first|rfl|decide|exact .inl rfl|exact .inr rfl|(intros; rfl))) (by first|rfl|decide|exact .inl rfl|exact .inr rfl|(intros; rfl)) (by first|rfl|decide|exact .inl rfl|exact .inr rfl|(intros; rfl))) (@pss_cons _ _ _ _ _ (@ps_for _ _ _ _ _ _ _ _ (by exact PassesOwn.never) (by rfl) (@pi_range1 _ _ _ _ _ _ (by rfl) (by exact T.z_range) (@pa_consN _ _ _ _ _ (pv 2) pa_nil (by first|rfl|decide|exact .inl rfl|exact .inr rfl|(intros; rfl))) (by first|rfl|decide|exact .inl rfl|exact .inr rfl|(intros; rfl))) (@pg_name _ _ (6) _ (by exact S.nd) (by rfl) (by first | exact Or.inl rfl | exact Or.inr rfl) (by first|rfl|decide|exact .inl rfl|exact .inr rfl|(intros; rfl))) (@pss_cons _ _ _ _ _ (@ps_set _ _ (7) _ _ _ _ (by exact S.nd) (by rfl) (by first | exact Or.inl rfl | exact Or.inr rfl) (@pe_ix _ _ _ _ _ _ _ ix_list (@pe_lst _ _ _ _ (@pa_consN _ _ _ _ _ (@pe_op _ _ _ _ _ _ _ _ op_mod (pv 6) (pv 1)) (@pa_consN _ _ _ _ _ (pv 5) (@pa_consN _ _ _ _ _ (@cc _ _ _ _ _ _ _ _ _ _ (by exact C_l_draw) (by exact (hr.mono (by decide))) (@pa_consN _ _ _ _ _ (pv 0) (@pa_consN _ _ _ _ _ (pv 1) pa_nil (by first|rfl|decide|exact .inl rfl|exact .inr rfl|(intros; rfl))) (by first|rfl|decide|exact .inl rfl|exact .inr rfl|(intros; rfl))) (by first|rfl|decide|exact .inl rfl|exact .inr rfl|(intros; rfl)) (by first|rfl|decide|exact .inl rfl|exact .inr rfl|(intros; rfl)) (by first|rfl|decide|exact .inl rfl|exact .inr rfl|(intros; rfl)) (by first|rfl|decide|exact .inl rfl|exact .inr rfl|(intros; rfl))) pa_nil (by first|rfl|decide|exact .inl rfl|exact .inr rfl|(intros; rfl))) (by first|rfl|decide|exact .inl rfl|exact .inr rfl|(intros; rfl))) (by first|rfl|decide|exact .inl rfl|exact .inr rfl|(intros; rfl)))) (pv 4) (by exact (fun _ _ => rfl))) (by first|rfl|decide|exact .inl rfl|exact .inr rfl|(intros; rfl)) (by first|rfl|decide|exact .inl rfl|exact .inr rfl|(intros; rfl))) (@pss_one _ _ _ (@ps_asg _ _ _ _ _ _ (@pe_op _ _ _ _ _ _ _ _ op_add (@pe_ix _ _ _ _ _ _ _ ix_list (pv 3) (pv 7) (by exact (fun _ _ => rfl))) pe_int) (@pg_sub _ _ _ _ _ _ _ (pv 3) (pv 7) set_list (by first|rfl|decide|exact .inl rfl|exact .inr rfl|(intros; rfl))) (by first|rfl|decide|exact .inl rfl|exact .inr rfl|(intros; rfl)) (by first|rfl|decide|exact .inl rfl|exact .inr rfl|(intros; rfl)) (by first|rfl|decide|exact .inl rfl|exact .inr rfl|(intros; rfl))))) (by first|rfl|decide|exact .inl rfl|exact .inr rfl|(intros; rfl))) (@pss_one _ _ _ (@ps_ret _ _ _ _ (@pe_callTy _ _ _ _ _ _ _ _ _ call_tuple_of (by rfl) (by exact T.z_tuple) (by exact bt_tuple) (@pa_consN _ _ _ _ _ (@pe_sortedR _ _ _ _ _ _ _ _ _ (by rfl) (by exact T.z_sorted) (@pa_consN _ _ _ _ _ (pv 3) pa_nil (by first|rfl|decide|exact .inl rfl|exact .inr rfl|(intros; rfl))) (by first|rfl|decide|exact .inl rfl|exact .inr rfl|(intros; rfl)) (by first|rfl|decide|exact .inl rfl|exact .inr rfl|(intros; rfl))) pa_nil (by first|rfl|decide|exact .inl rfl|exact .inr rfl|(intros; rfl))) (by first|rfl|decide|exact .inl rfl|exact .inr rfl|(intros; rfl)) (by first|rfl|decide|exact .inl rfl|exact .inr rfl|(intros; rfl)) (by first|rfl|decide|exact .inl rfl|exact .inr rfl|(intros; rfl)) (by first|rfl|decide|exact .inl rfl|exact .inr rfl|(intros; rfl))))))))), ?_⟩
  refine ⟨lz 1 rfl, fun q1 hq1 => ⟨_, rfl, q1, _, _, rfl, rfl, upd_same, by omega, by omega, lzz (by simp; omega), fun q2 hq2 => ?_⟩⟩
  rw [iv_rep, Int.toNat_natCast]
  have s1 := same_new hq1 (.lst [.int 0])
  have s2 := same_new hq2 (.lst (iv (List.replicate n 0)))
  have s12 := s1.trans s2
  have hq2H : H q2 = none := none_of s1 hq2
  refine ⟨_, rfl, p, _, m, rfl, hp.same s12, by omega, by decide, by decide, fun wy H1 w0 w3 p1 x1 => ?_⟩
  refine ⟨_, rfl, _, rfl, p, _, _, rfl, p1, by omega, by omega, by omega, fun at' H2 a0 a1 p2 x2 => ?_⟩
  have x12 := x1.trans x2
  have hf2 : H2 q2 = some (.lst (iv (List.replicate n 0))) := (hp.same s12).keep x12 upd_same
  have xH : SameX p H H2 := (Same.x s12).trans x12
  refine ⟨_, rfl, (b : Int), rfl, by omega, by omega, for_range (n := (b : Int).toNat) (fun i σ H' => Pen H' p (m + 2 + i) ∧ SameX p H H' ∧ ∃ (ns : List Int) (o1 o2 : Option V), H' q2 = some (.lst (iv ns)) ∧ ns.length = n ∧ (∀ x ∈ ns, 0 ≤ x) ∧ ns.sum = i ∧ σ = [some (.ref p), some (.int (n : Int)), some (.int (b : Int)), some (.ref q2), some (.int wy), some (.int at'), o1, o2]) ?_ ?_ ?_⟩
  · exact ⟨p2, xH, _, _, _, hf2, by simp, fun x hx => by rw [List.eq_of_mem_replicate hx]; exact Int.le_refl _, by simp, rfl⟩
  · rintro i σ H3 hi ⟨p3, x3, ns, o1, o2, hf3, nl, nn, nsum, rfl⟩
    refine ⟨_, rfl, _, rfl, _, _, rfl, rfl, (show (0 : Int) < n by omega), _, rfl, _, rfl, _, rfl, p, _, _, rfl, p3, by omega, by omega, by omega, fun d H4 d0 d1 p4 x4 => ⟨lz 3 rfl, fun q hq => ?_⟩⟩
    have s4 := same_new hq (.lst [.int ((0 + (i : Int)) % (n : Int)), .int at', .int d])
    have hf4 := p3.keep x4 hf3
    obtain ⟨bx, hbx, b0, b1⟩ : ∃ bx : Int, atI [V.int ((0 + (i : Int)) % (n : Int)), .int at', .int d] wy = some (.int bx) ∧ 0 ≤ bx ∧ bx < n := by
      have : wy = 0 ∨ wy = 1 ∨ wy = 2 := by omega
      rcases this with rfl | rfl | rfl
      · exact ⟨_, rfl, Int.emod_nonneg _ (by omega), Int.emod_lt_of_pos _ (by omega)⟩
      · exact ⟨_, rfl, a0, a1⟩
      · exact ⟨_, rfl, d0, d1⟩
    refine ⟨_, rfl, q, _, _, _, rfl, rfl, SqL.of upd_same, hbx, ?_⟩
    obtain ⟨j, rfl⟩ : ∃ j : Nat, bx = (j : Int) := ⟨bx.toNat, by omega⟩
    have hj : j < ns.length := by omega
    have hf5 := s4 _ _ hf4
    refine ⟨_, rfl, _, rfl, q2, _, _, _, rfl, rfl, SqL.of hf5, iv_atI hj, _, _, rfl, rfl, _, rfl, _, rfl, q2, _, _, j, rfl, rfl, hf5, ?_, ?_⟩
    · unfold ixN
      rw [List.length_map, if_pos (by omega), if_pos (by omega)]; simp
    have hns4 := p4.same s4
    obtain ⟨u1, u2⟩ := penX_upd hq2H hp (x3.trans (x4.trans (Same.x s4))) hns4 (.lst ((iv ns).set j (.int (ns.getD j 0 + 1))))
    exact ⟨u1.mono (by omega), u2, ns.set j (ns.getD j 0 + 1), _, _, by rw [upd_same, iv_set], by simp [nl], nn_set1 nn, by rw [sum_set1 hj, nsum]; omega, rfl⟩
  · rintro σ H3 ⟨p3, x3, ns, o1, o2, hf3, nl, nn, nsum, rfl⟩
    refine ⟨_, rfl, q2, ns, rfl, hf3, by omega, fun q ms hq pm od => ?_⟩
    have s4 := same_new hq (.lst (iv ms))
    refine ⟨q, iv ms, rfl, .inl ⟨SqL.of upd_same, fun t ht => ?_⟩⟩
    have s5 := same_new ht (.tup (iv ms))
    exact k t ms _ upd_same ⟨by rw [pm.length_eq, nl], fun x hx => nn x (pm.mem_iff.mp hx), od, by rw [sum_perm pm, nsum]; omega⟩ ((p3.same (s4.trans s5)).mono (by omega)) (x3.trans (Same.x (s4.trans s5)))
end
end My

set_option Elab.async false
set_option linter.all false
set_option maxRecDepth 100000
set_option maxHeartbeats 4000000
namespace My
open PySem L2 MA Srt
/-- a table of loads, counted -/
structure Cnt (mm : Mp) (n : Nat) (b : Int) (hi : Int) : Prop where
  nd : (keysM mm).Nodup
  ld : ∀ k ∈ keysM mm, LdOk k n b
  pos : ∀ k ∈ keysM mm, 0 < getM mm k
  sum : (valsM mm).sum ≤ hi
theorem Cnt.put {mm : Mp} {n : Nat} {b hi : Int} (h : Cnt mm n b hi) {k : List Int} (hk : LdOk k n b) {v : Int} (hv : 0 < v) : Cnt (putM mm k (getM mm k + v)) n b (hi + v) := by
  have g0 : 0 ≤ getM mm k := by
    by_cases z : k ∈ keysM mm
    · exact Int.le_of_lt (h.pos k z)
    · rw [getM_absent z]; exact Int.le_refl _
  refine ⟨nodup_put h.nd, fun j hj => ?_, fun j hj => ?_, ?_⟩
  · rcases keys_put_mem.mp hj with z | z
    · exact h.ld j z
    · rw [z]; exact hk
  · rw [getM_put]
    by_cases e : j = k
    · rw [if_pos e]; omega
    · rw [if_neg e]
      rcases keys_put_mem.mp hj with z | z
      · exact h.pos j z
      · exact absurd z e
  · rw [vals_put h.nd]; have := h.sum; omega
theorem put_ne {mm : Mp} {k : List Int} {v : Int} : putM mm k v ≠ [] := by
  intro z
  have := keys_put_mem (m := mm) (k := k) (v := v) (j := k)
  rw [z] at this
  have := this.mpr (.inr rfl)
  simp [keysM] at this
theorem put_len {mm : Mp} {k : List Int} {v : Int} : (putM mm k v).length ≤ mm.length + 1 := by
  unfold putM; split <;> simp
theorem key_iv {H : Hp} {a : Addr} {ns : List Int} (h : H a = some (.tup (iv ns))) : H a = some (.tup ((ns.map (Sum.inl : Int → Key)).map kV)) := by rw [← iv_key]; exact h
theorem gN_ {i : Nat} {v : V} {σ : St} {H : Hp} {Q : St → Hp → Prop} (h : Q (σ.set i (some v)) H) : gName i v σ H Q := h
section
variable {P : Program} {w : World} {K : PySem.W.Frag} {mg : Str → Option Value} {base : Heap}
def spCounted : Sp := fun vs H Q _ => ∃ (p : Addr) (n : Nat) (b : Nat) (m : Nat), vs = [.ref p, .int (n : Int), .int (b : Int)] ∧ 1 ≤ n ∧ n ≤ 6 ∧ b ≤ 40 ∧ Pen H p m ∧ m < 50000 ∧ ∀ (d : Addr) (mm : Mp) (H' : Hp), H' d = some (dI mm) → Cnt mm n b 120 → mm ≠ [] → mm.length ≤ 4 → Pen H' p (m + 200) → SameX p H H' → Q (.ref d) H'
theorem ok_counted (T : Txt2 mg) (C_l_draw : Cal P w K mg base "_law_draw" ["_law_pen_here", "_law_many"] 1 spDraw) (C_l_load : Cal P w K mg base "_law_load" ["_law_pen_here", "_law_n", "_law_balls"] 2 spLLoad) (F : FunAt K mg "_law_counted" ["_law_pen_here", "_law_n", "_law_balls"] s_l_counted) : Cal P w K mg base "_law_counted" ["_law_pen_here", "_law_n", "_law_balls"] 3 spCounted := by
  have S := sc_l_counted
  refine F.cal sc_l_counted (fun vs H Q E h => ?_) (fun f cdv A outer s H vs Q E hr h => ?_)
  · obtain ⟨p, n, b, m, rfl, _⟩ := h; rfl
  obtain ⟨p, n, b, m, rfl, n1, n6, b40, hp, hm, k⟩ := h
  have hu1 := hu_of hr
  refine ⟨_, (@pss_cons _ _ _ _ _ (@ps_set _ _ (3) _ _ _ _ (by exact S.nd) (by rfl) (by first | exact Or.inl rfl | exact Or.inr rfl) pe_dnewT (by first|rfl|decide|exact .inl rfl|exact .inr rfl|(intros; rfl)) (by first|rfl|decide|exact .inl rfl|exact .inr rfl|(intros; rfl))) (@pss_cons _ _ _ _ _ (@ps_for _ _ _ _ _ _ _ _ (by exact PassesOwn.never) (by rfl) (@pi_range1 _ _ _ _ _ _ (by rfl) (by exact T.z_range) (@pa_consN _ _ _ _ _ (@pe_op _ _ _ _ _ _ _ _ op_add pe_int (@cc _ _ _ _ _ _ _ _ _ _ (by exact C_l_draw) (by exact (hr.mono (by decide))) (@pa_consN _ _ _ _ _ (pv 0) (@pa_consN _ _ _ _ _ pe_int pa_nil (by first|rfl|decide|exact .inl rfl|exact .inr rfl|(intros; rfl))) (by first|rfl|decide|exact .inl rfl|exact .inr rfl|(intros; rfl))) (by first|rfl|decide|exact .inl rfl|exact .inr rfl|(intros; rfl)) (by first|rfl|decide|exact .inl rfl|exact .inr rfl|(intros; rfl)) (by first|rfl|decide|exact .inl rfl|exact .inr rfl|(intros; rfl)) (by first|rfl|decide|exact .inl rfl|exact .inr rfl|(intros; rfl)))) pa_nil (by first|rfl|decide|exact .inl rfl|exact .inr rfl|(intros; rfl))) (by first|rfl|decide|exact .inl rfl|exact .inr rfl|(intros; rfl))) (@pg_name _ _ (4) _ (by exact S.nd) (by rfl) (by first | exact Or.inl rfl | exact Or.inr rfl) (by first|rfl|decide|exact .inl rfl|exact .inr rfl|(intros; rfl))) (@pss_cons _ _ _ _ _ (@ps_set _ _ (5) _ _ _ _ (by exact S.nd) (by rfl) (by first | exact Or.inl rfl | exact Or.inr rfl) (@cc _ _ _ _ _ _ _ _ _ _ (by exact C_l_load) (by exact (hr.mono (by decide))) (@pa_consN _ _ _ _ _ (pv 0) (@pa_consN _ _ _ _ _ (pv 1) (@pa_consN _ _ _ _ _ (pv 2) pa_nil (by first|rfl|decide|exact .inl rfl|exact .inr rfl|(intros; rfl))) (by first|rfl|decide|exact .inl rfl|exact .inr rfl|(intros; rfl))) (by first|rfl|decide|exact .inl rfl|exact .inr rfl|(intros; rfl))) (by first|rfl|decide|exact .inl rfl|exact .inr rfl|(intros; rfl)) (by first|rfl|decide|exact .inl rfl|exact .inr rfl|(intros; rfl)) (by first|rfl|decide|exact .inl rfl|exact .inr rfl|(intros; rfl)) (by first|rfl|decide|exact .inl rfl|exact .inr rfl|(intros; rfl))) (by first|rfl|decide|exact .inl rfl|exact .inr rfl|(intros; rfl)) (by first|rfl|decide|exact .inl rfl|exact .inr rfl|(intros; rfl))) (@pss_one _ _ _ (@ps_dput _ _ _ _ _ _ _ _ _ (by exact hu1) (pv 3) (pv 5) (@pe_op _ _ _ _ _ _ _ _ op_add (@pe_op _ _ _ _ _ _ _ _ op_add (@pe_dget2 _ _ _ _ _ _ _ _ _ (by exact hu1) (pv 3) (pv 5) pe_int (by exact ⟨rfl, rfl, rfl, rfl⟩)) pe_int) (@cc _ _ _ _ _ _ _ _ _ _ (by exact C_l_draw) (by exact (hr.mono (by decide))) (@pa_consN _ _ _ _ _ (pv 0) (@pa_consN _ _ _ _ _ pe_int pa_nil (by first|rfl|decide|exact .inl rfl|exact .inr rfl|(intros; rfl))) (by first|rfl|decide|exact .inl rfl|exact .inr rfl|(intros; rfl))) (by first|rfl|decide|exact .inl rfl|exact .inr rfl|(intros; rfl)) (by first|rfl|decide|exact .inl rfl|exact .inr rfl|(intros; rfl)) (by first|rfl|decide|exact .inl rfl|exact .inr rfl|(intros; rfl)) (by first|rfl|decide|exact .inl rfl|exact .inr rfl|(intros; rfl)))) (by rfl)))) (by first|rfl|decide|exact .inl rfl|exact .inr rfl|(intros; rfl))) (@pss_one _ _ _ (@ps_ret _ _ _ _ (pv 3))))), ?_⟩
  intro d hd
  have s1 := same_new hd (.dT [])
  refine ⟨_, rfl, p, _, m, rfl, hp.same s1, by omega, by decide, by decide, fun r H1 r0 r1 p1 x1 => ⟨_, _, rfl, rfl, ?_⟩⟩
  have hd1 : H1 d = some (dI []) := (hp.same s1).keep x1 upd_same
  have xA : SameX p H H1 := (Same.x s1).trans x1
  refine ⟨1 + r, rfl, by omega, by omega, for_range (n := (1 + r).toNat) (fun i σ H' => Pen H' p (m + 1 + 43 * i) ∧ SameX p H H' ∧ ∃ (mm : Mp) (o1 o2 : Option V), H' d = some (dI mm) ∧ Cnt mm n b (30 * i) ∧ mm.length ≤ i ∧ (i ≠ 0 → mm ≠ []) ∧ σ = [some (.ref p), some (.int (n : Int)), some (.int (b : Int)), some (.ref d), o1, o2]) ?_ ?_ ?_⟩
  · exact ⟨p1, xA, [], _, _, hd1, ⟨List.nodup_nil, (fun k hk => by simp [keysM] at hk), (fun k hk => by simp [keysM] at hk), by simp [valsM]⟩, Nat.zero_le _, fun z => absurd rfl z, rfl⟩
  · rintro i σ H2 hi ⟨p2, x2, mm, o1, o2, hd2, cn, ml, ne, rfl⟩
    refine ⟨_, rfl, _, rfl, _, rfl, p, n, b, _, rfl, n1, n6, b40, p2, by omega, fun a ns H3 ha lo p3 x3 => ?_⟩
    have hd3 := p2.keep x3 hd2
    refine ⟨_, rfl, d, rfl, .inr ⟨_, .inl hd3⟩, _, rfl, _, DGet.t hd3 (key_iv ha), ?_⟩
    rw [valV_getD]
    refine ⟨_, _, rfl, rfl, _, rfl, p, _, _, rfl, p3, by omega, by decide, by decide, fun r4 H4 r40 r41 p4 x4 => ?_⟩
    have hd4 := p3.keep x4 hd3
    have ha4 := p3.keep x4 ha
    refine ⟨_, _, rfl, rfl, _, rfl, _, rfl, d, _, rfl, DPut.t hd4 (key_iv ha4) ?_, ?_⟩
    · rw [List.length_map, sizeLine_eq]; omega
    rw [putK_dI]
    obtain ⟨u1, u2⟩ := penX_upd hd hp (x2.trans (x3.trans x4)) p4 (dI (putM mm ns (getM mm ns + 1 + r4)))
    have e1 : getM mm ns + 1 + r4 = getM mm ns + (1 + r4) := by omega
    have c2 := cn.put lo (v := 1 + r4) (by omega)
    rw [← e1] at c2
    exact ⟨u1.mono (by omega), u2, _, _, _, upd_same, ⟨c2.nd, c2.ld, c2.pos, by have := c2.sum; omega⟩, by have := put_len (mm := mm) (k := ns) (v := getM mm ns + 1 + r4); omega, fun _ => put_ne, rfl⟩
  · rintro σ H2 ⟨p2, x2, mm, o1, o2, hd2, cn, ml, ne, rfl⟩
    exact ⟨_, rfl, k d mm H2 hd2 ⟨cn.nd, cn.ld, cn.pos, by have := cn.sum; omega⟩ (ne (by omega)) (by omega) (p2.mono (by omega)) x2⟩
def spLSpread : Sp := fun vs H Q _ => ∃ (d : Addr) (m : Mp), vs = [.ref d] ∧ H d = some (dI m) ∧ (keysM m).Nodup ∧ (∀ k ∈ keysM m, k ≠ []) ∧ m.length < 64 ∧ (∀ k ∈ keysM m, 0 ≤ getM m k) ∧ 0 < (valsM m).sum ∧ Bt 8000 (valsM m).sum ∧ ∀ (l : Addr) (H' : Hp), Same H H' → H l = none → SpAt H' l (sprF m (valsM m).sum) → Q (.ref l) H'
theorem ok_lspread (T : Txt2 mg) (C_l_lowest : Cal P w K mg base "_law_lowest" ["_law_top", "_law_bottom"] 2 spLowest) (F : FunAt K mg "_law_spread" ["_law_found"] s_l_spread) : Cal P w K mg base "_law_spread" ["_law_found"] 3 spLSpread := by
  have S := sc_l_spread
  refine F.cal sc_l_spread (fun vs H Q E h => ?_) (fun f cdv A outer s H vs Q E hr h => ?_)
  · obtain ⟨d, m, rfl, _⟩ := h; rfl
  obtain ⟨d, m, rfl, hd, nd, ne, few, nn, s0, sb, k⟩ := h
  have hu1 := hu_of hr
  refine ⟨_, (@pss_cons _ _ _ _ _ (@ps_set _ _ (1) _ _ _ _ (by exact S.nd) (by rfl) (by first | exact Or.inl rfl | exact Or.inr rfl) (@pe_callB _ _ _ _ _ _ _ _ _ (call_sumV (by rfl)) (by rfl) (by exact T.z_sum) (by exact bt_sum) (@pa_consN _ _ _ _ _ (@pe_values _ _ _ _ _ (pv 0) (by first|rfl|decide|exact .inl rfl|exact .inr rfl|(intros; rfl)) (by first|rfl|decide|exact .inl rfl|exact .inr rfl|(intros; rfl))) pa_nil (by first|rfl|decide|exact .inl rfl|exact .inr rfl|(intros; rfl))) (by first|rfl|decide|exact .inl rfl|exact .inr rfl|(intros; rfl)) (by first|rfl|decide|exact .inl rfl|exact .inr rfl|(intros; rfl)) (by first|rfl|decide|exact .inl rfl|exact .inr rfl|(intros; rfl)) (by first|rfl|decide|exact .inl rfl|exact .inr rfl|(intros; rfl))) (by first|rfl|decide|exact .inl rfl|exact .inr rfl|(intros; rfl)) (by first|rfl|decide|exact .inl rfl|exact .inr rfl|(intros; rfl))) (@pss_one _ _ _ (@ps_ret _ _ _ _ (@pe_comp _ _ _ _ _ _ _ _ _ _ _ _ _ (by rfl) (by exact (fun _ _ h => h)) (by decide +kernel) (by rfl) (by decide +kernel) (by exact hfr_of rfl) (by exact Sees.frees ["_law_load_here"] [("_law_found", 0), ("_law_whole", 1)] (fr_cons ⟨rfl, rfl⟩ (fr_cons ⟨rfl, rfl⟩ fr_nil))) (@pi_list _ _ _ _ (@pe_callB _ _ _ _ _ _ _ _ _ (call_sortedK (by rfl)) (by rfl) (by exact T.z_sorted) (by exact bt_sorted) (@pa_consN _ _ _ _ _ (pv 0) pa_nil (by first|rfl|decide|exact .inl rfl|exact .inr rfl|(intros; rfl))) (by first|rfl|decide|exact .inl rfl|exact .inr rfl|(intros; rfl)) (by first|rfl|decide|exact .inl rfl|exact .inr rfl|(intros; rfl)) (by first|rfl|decide|exact .inl rfl|exact .inr rfl|(intros; rfl)) (by first|rfl|decide|exact .inl rfl|exact .inr rfl|(intros; rfl)))) (fun _ _ _ _ _ => @pg_name _ _ (0) _ (by exact (show (["_law_load_here", "_law_found", "_law_whole"] : List Str).Nodup by decide +kernel)) (by rfl) (by first | exact Or.inl rfl | exact Or.inr rfl) (by first|rfl|decide|exact .inl rfl|exact .inr rfl|(intros; rfl))) (fun _ _ _ _ _ => pts_nil) (fun _ _ _ _ _ => (@pe_tup _ _ _ _ _ (@pa_consN _ _ _ _ _ (pv 0) (@pa_consN _ _ _ _ _ (@cc _ _ _ _ _ _ _ _ _ _ (by exact C_l_lowest) (by exact (hr.mono (by decide))) (@pa_consN _ _ _ _ _ (@pe_dget _ _ _ _ _ _ (by exact hu1) (pv 1) (pv 0) (by exact (fun _ _ => rfl))) (@pa_consN _ _ _ _ _ (pv 2) pa_nil (by first|rfl|decide|exact .inl rfl|exact .inr rfl|(intros; rfl))) (by first|rfl|decide|exact .inl rfl|exact .inr rfl|(intros; rfl))) (by first|rfl|decide|exact .inl rfl|exact .inr rfl|(intros; rfl)) (by first|rfl|decide|exact .inl rfl|exact .inr rfl|(intros; rfl)) (by first|rfl|decide|exact .inl rfl|exact .inr rfl|(intros; rfl)) (by first|rfl|decide|exact .inl rfl|exact .inr rfl|(intros; rfl))) pa_nil (by first|rfl|decide|exact .inl rfl|exact .inr rfl|(intros; rfl))) (by first|rfl|decide|exact .inl rfl|exact .inr rfl|(intros; rfl))))) (by first|rfl|decide|exact .inl rfl|exact .inr rfl|(intros; rfl)))))), ?_⟩
  refine ⟨_, rfl, d, _, rfl, .inl hd, fun v hv => ?_⟩
  have s1 := same_new hv (vaV v d)
  refine ⟨v, d, _, valsM m, rfl, upd_same, .inl (s1 _ _ hd), by unfold valsM; rw [List.map_map]; show _ = List.map V.int _; rw [List.map_map]; rfl, ?_⟩
  refine ⟨_, rfl, d, _, keysM m, rfl, .inl (s1 _ _ hd), by unfold keysM; rw [List.map_map, List.map_map]; rfl, ne, by simpa [keysM] using few, fun q bs ms hq pm ri tb => ?_⟩
  have e := rise_eq pm ri
  subst e
  have s2 := same_new hq (.lst (bs.map V.ref))
  have sA := s1.trans s2
  have bl := Paired.length tb
  have kl : (rise (keysM m)).length = m.length := by rw [(rise_perm _).length_eq]; simp [keysM]
  refine ⟨q, rfl, ⟨_, SqL.of upd_same⟩, comp_Y (yields_lst (xs := bs.map V.ref)) (fun p i ys σ' H' => Same (upd (upd H v (vaV v d)) q (.lst (bs.map V.ref))) H' ∧ (∃ o1, σ' = [o1, some (.ref d), some (.int (valsM m).sum)]) ∧ ys.length = i ∧ Paired (RwAt H') ys ((sprF m (valsM m).sum).take i)) (by simp; omega) ?_ ?_ ?_ ?_⟩
  · intro p hp
    exact ⟨same_new hp _, ⟨_, rfl⟩, rfl, .nil⟩
  · rintro p i ys σ' H' hp ⟨s', _⟩
    exact s' _ _ upd_same
  · rintro p i ys σ' H' x H'' hp hi hl ⟨s', ⟨o1, rfl⟩, yl, pr'⟩ hp' ⟨rfl, hx⟩ Q1 Q2 h1 h2
    rw [List.getElem?_map, Option.map_eq_some_iff] at hx
    obtain ⟨b, hb, rfl⟩ := hx
    obtain ⟨kk, hk1, hb1⟩ := paired_get tb hb
    have km : kk ∈ keysM m := (rise_perm _).mem_iff.mp (List.mem_of_getElem? hk1)
    have hb' := (s2.trans s') _ _ hb1
    refine gN_ (tT_ (iteT ?_))
    refine ⟨_, rfl, _, rfl, _, rfl, d, _, rfl, by have := DGet.t ((sA.trans s') _ _ hd) (key_iv hb'); rw [valV_some km] at this; exact this, _, rfl, _, _, rfl, nn kk km, s0, sb, fun v2 H5 s5 pa => ?_⟩
    rw [low_q s0] at pa
    refine ⟨lz 2 rfl, fun t ht => h1 _ _ _ ?_ ?_⟩
    · exact same_new ht _ _ _ (s5 _ _ hp')
    · have s6 := same_new ht (.tup [.ref b, v2])
      have hp6 := s6 _ _ (s5 _ _ hp')
      refine ⟨same_updN hp (s'.trans (s5.trans s6)) _, ⟨_, rfl⟩, by simp [yl], ?_⟩
      have hs : (sprF m (valsM m).sum)[i]? = some (kk, Rat.divInt (getM m kk) (valsM m).sum) := by unfold sprF; rw [List.getElem?_map, hk1]; rfl
      rw [take_snoc hs]
      refine paired_snoc (Paired.mapP pr' fun _ _ z => z.imp fun b xs e => tupL hp6 _ _ ((s5.trans s6) _ _ e)) ⟨t, b, v2, rfl, tupL hp6 _ _ upd_same, tupL hp6 _ _ ((s5.trans s6) _ _ hb'), ?_⟩
      obtain ⟨c, e2, h3⟩ := pa
      exact ⟨c, e2, tupL hp6 _ _ (s6 _ _ h3)⟩
  · rintro p ys σ' H' hp ⟨s', _, yl, pr'⟩ hp' hl
    refine k p H' (sA.trans s') (none_of sA hp) ⟨ys, hp', ?_⟩
    rw [List.length_map, bl] at pr'
    have : (sprF m (valsM m).sum).length = (rise (keysM m)).length := by simp [sprF]
    rw [← this, List.take_length] at pr'
    exact pr'
end
end My

set_option Elab.async false
set_option linter.all false
set_option maxRecDepth 100000
set_option maxHeartbeats 1000000
namespace My
open PySem L2 MA Srt
def botF (qs : List Rat) : Int := lqF qs 1
def dotZ (ts ns : List Int) : Int := (List.zipWith (· * ·) ts ns).sum
def mnF (rs : Spd) (ns : List Int) : Rat := Rat.divInt (dotZ (tpF (botF (rs.map (·.2))) (rs.map (·.2))) ns) (botF (rs.map (·.2)))
/-- a spread that a mean may be taken of -/
structure Mn (rs : Spd) : Prop where
  sb : ∀ r ∈ rs, SB 50 r.2
  few : rs.length ≤ 24
  bB : botF (rs.map (·.2)) < 1000000
theorem Mn.b0 (rs : Spd) : 0 < botF (rs.map (·.2)) := by unfold botF; exact (lq_fold _ 1 (by decide)).1
theorem Mn.tp {rs : Spd} (M : Mn rs) : ∀ x ∈ tpF (botF (rs.map (·.2))) (rs.map (·.2)), Bt 20000 x := by
  intro x hx
  obtain ⟨q, hq, rfl⟩ := List.mem_map.mp hx
  have sb : ∀ q ∈ rs.map (·.2), SB 50 q := fun q hq => by obtain ⟨r, hr, rfl⟩ := List.mem_map.mp hq; exact M.sb r hr
  have b1 := (lq_all sb (by have := M.few; simpa using this) (rs.map (·.2)).length).2
  rw [List.take_length] at b1
  exact ((sb q hq).1.mul (b1.ediv (by have := q.den_pos; omega))).mono (by decide)
section
variable {P : Program} {w : World} {K : PySem.W.Frag} {mg : Str → Option Value} {base : Heap}
def spMeanOf : Sp := fun vs H Q _ => ∃ (l ln : Addr) (rs : Spd) (ns : List Int), vs = [.ref l, .ref ln] ∧ SpAt H l rs ∧ Mn rs ∧ H ln = some (.lst (iv ns)) ∧ ns.length = rs.length ∧ (∀ x ∈ ns, Bt 20000 x) ∧ ∀ v H', Same H H' → PrAt H' v (prq (mnF rs ns)) → Q v H'
theorem ok_meanof (T : Txt2 mg) (C_weighed : Cal P w K mg base "weighed" ["some"] 2 spWeighQ) (C_parted : Cal P w K mg base "parted" ["top", "bottoms"] 2 spParted) (F : FunAt K mg "mean_of" ["spread", "numbers"] s_mean_of) : Cal P w K mg base "mean_of" ["spread", "numbers"] 3 spMeanOf := by
  have S := sc_mean_of
  refine F.cal sc_mean_of (fun vs H Q E h => ?_) (fun f cdv A outer s H vs Q E hr h => ?_)
  · obtain ⟨l, ln, rs, ns, rfl, _⟩ := h; rfl
  obtain ⟨l, ln, rs, ns, rfl, ⟨xs, hl, rws⟩, M, hn, nl, nb, k⟩ := h
  have xl := Paired.length rws
  have few := M.few
  refine ⟨_, (@pss_cons _ _ _ _ _ (@ps_asg _ _ _ _ _ _ (@cc _ _ _ _ _ _ _ _ _ _ (by exact C_weighed) (by exact (hr.mono (by decide))) (@pa_consN _ _ _ _ _ (@pe_comp _ _ _ _ _ _ _ _ _ _ _ _ _ (by rfl) (by exact (fun _ _ h => h)) (by decide +kernel) (by rfl) (by decide +kernel) (by exact hfr_of rfl) (by exact Sees.frees ["load", "part"] [] fr_nil) (@pi_list _ _ _ _ (pv 0)) (fun _ _ _ _ _ => @pg_tup0 _ _ _ _ _ (2) (by rfl) (@pgs_cons _ _ _ _ _ (@pg_name _ _ (0) _ (by exact (show (["load", "part"] : List Str).Nodup by decide +kernel)) (by rfl) (by first | exact Or.inl rfl | exact Or.inr rfl) (by first|rfl|decide|exact .inl rfl|exact .inr rfl|(intros; rfl))) (@pgs_cons _ _ _ _ _ (@pg_name _ _ (1) _ (by exact (show (["load", "part"] : List Str).Nodup by decide +kernel)) (by rfl) (by first | exact Or.inl rfl | exact Or.inr rfl) (by first|rfl|decide|exact .inl rfl|exact .inr rfl|(intros; rfl))) pgs_nil (by first|rfl|decide|exact .inl rfl|exact .inr rfl|(intros; rfl))) (by first|rfl|decide|exact .inl rfl|exact .inr rfl|(intros; rfl))) (by first|rfl|decide|exact .inl rfl|exact .inr rfl|(intros; rfl)) (by first|rfl|decide|exact .inl rfl|exact .inr rfl|(intros; rfl))) (fun _ _ _ _ _ => pts_nil) (fun _ _ _ _ _ => (pv 1)) (by first|rfl|decide|exact .inl rfl|exact .inr rfl|(intros; rfl))) pa_nil (by first|rfl|decide|exact .inl rfl|exact .inr rfl|(intros; rfl))) (by first|rfl|decide|exact .inl rfl|exact .inr rfl|(intros; rfl)) (by first|rfl|decide|exact .inl rfl|exact .inr rfl|(intros; rfl)) (by first|rfl|decide|exact .inl rfl|exact .inr rfl|(intros; rfl)) (by first|rfl|decide|exact .inl rfl|exact .inr rfl|(intros; rfl))) (@pg_tup _ _ _ _ _ _ (by rfl) (@pgs_cons _ _ _ _ _ (@pg_name _ _ (2) _ (by exact S.nd) (by rfl) (by first | exact Or.inl rfl | exact Or.inr rfl) (by first|rfl|decide|exact .inl rfl|exact .inr rfl|(intros; rfl))) (@pgs_cons _ _ _ _ _ (@pg_name _ _ (3) _ (by exact S.nd) (by rfl) (by first | exact Or.inl rfl | exact Or.inr rfl) (by first|rfl|decide|exact .inl rfl|exact .inr rfl|(intros; rfl))) pgs_nil (by first|rfl|decide|exact .inl rfl|exact .inr rfl|(intros; rfl))) (by first|rfl|decide|exact .inl rfl|exact .inr rfl|(intros; rfl))) (by first|rfl|decide|exact .inl rfl|exact .inr rfl|(intros; rfl)) (by first|rfl|decide|exact .inl rfl|exact .inr rfl|(intros; rfl))) (by first|rfl|decide|exact .inl rfl|exact .inr rfl|(intros; rfl)) (by first|rfl|decide|exact .inl rfl|exact .inr rfl|(intros; rfl)) (by first|rfl|decide|exact .inl rfl|exact .inr rfl|(intros; rfl))) (@pss_one _ _ _ (@ps_ret _ _ _ _ (@cc _ _ _ _ _ _ _ _ _ _ (by exact C_parted) (by exact (hr.mono (by decide))) (@pa_consN _ _ _ _ _ (@pe_callB _ _ _ _ _ _ _ _ _ (call_sum (by rfl)) (by rfl) (by exact T.z_sum) (by exact bt_sum) (@pa_consN _ _ _ _ _ (@pe_comp _ _ _ _ _ _ _ _ _ _ _ _ _ (by rfl) (by exact (fun _ _ h => h)) (by decide +kernel) (by rfl) (by decide +kernel) (by exact hfr_of rfl) (by exact Sees.frees ["top", "number"] [] fr_nil) (@pi_zip _ _ _ _ _ _ _ _ _ (by rfl) (by exact T.z_zip) (@pa_consN _ _ _ _ _ (pv 2) (@pa_consN _ _ _ _ _ (pv 1) pa_nil (by first|rfl|decide|exact .inl rfl|exact .inr rfl|(intros; rfl))) (by first|rfl|decide|exact .inl rfl|exact .inr rfl|(intros; rfl))) (by first|rfl|decide|exact .inl rfl|exact .inr rfl|(intros; rfl)) (by first|rfl|decide|exact .inl rfl|exact .inr rfl|(intros; rfl))) (fun _ _ _ _ _ => @pg_tup0 _ _ _ _ _ (2) (by rfl) (@pgs_cons _ _ _ _ _ (@pg_name _ _ (0) _ (by exact (show (["top", "number"] : List Str).Nodup by decide +kernel)) (by rfl) (by first | exact Or.inl rfl | exact Or.inr rfl) (by first|rfl|decide|exact .inl rfl|exact .inr rfl|(intros; rfl))) (@pgs_cons _ _ _ _ _ (@pg_name _ _ (1) _ (by exact (show (["top", "number"] : List Str).Nodup by decide +kernel)) (by rfl) (by first | exact Or.inl rfl | exact Or.inr rfl) (by first|rfl|decide|exact .inl rfl|exact .inr rfl|(intros; rfl))) pgs_nil (by first|rfl|decide|exact .inl rfl|exact .inr rfl|(intros; rfl))) (by first|rfl|decide|exact .inl rfl|exact .inr rfl|(intros; rfl))) (by first|rfl|decide|exact .inl rfl|exact .inr rfl|(intros; rfl)) (by first|rfl|decide|exact .inl rfl|exact .inr rfl|(intros; rfl))) (fun _ _ _ _ _ => pts_nil) (fun _ _ _ _ _ => (@pe_op _ _ _ _ _ _ _ _ op_mulB (pv 0) (pv 1))) (by first|rfl|decide|exact .inl rfl|exact .inr rfl|(intros; rfl))) pa_nil (by first|rfl|decide|exact .inl rfl|exact .inr rfl|(intros; rfl))) (by first|rfl|decide|exact .inl rfl|exact .inr rfl|(intros; rfl)) (by first|rfl|decide|exact .inl rfl|exact .inr rfl|(intros; rfl)) (by first|rfl|decide|exact .inl rfl|exact .inr rfl|(intros; rfl)) (by first|rfl|decide|exact .inl rfl|exact .inr rfl|(intros; rfl))) (@pa_consN _ _ _ _ _ (@pe_lst _ _ _ _ (@pa_consN _ _ _ _ _ (pv 3) pa_nil (by first|rfl|decide|exact .inl rfl|exact .inr rfl|(intros; rfl)))) pa_nil (by first|rfl|decide|exact .inl rfl|exact .inr rfl|(intros; rfl))) (by first|rfl|decide|exact .inl rfl|exact .inr rfl|(intros; rfl))) (by first|rfl|decide|exact .inl rfl|exact .inr rfl|(intros; rfl)) (by first|rfl|decide|exact .inl rfl|exact .inr rfl|(intros; rfl)) (by first|rfl|decide|exact .inl rfl|exact .inr rfl|(intros; rfl)) (by first|rfl|decide|exact .inl rfl|exact .inr rfl|(intros; rfl)))))), ?_⟩
  refine ⟨_, rfl, l, rfl, ⟨_, SqL.of hl⟩, comp_Y (yields_lst (xs := xs)) (fun p i ys σ' H' => Same H H' ∧ (∃ o1 o2, σ' = [o1, o2]) ∧ ys.length = i ∧ Shs H' ys ((rs.take i).map (·.2))) (by omega) ?_ ?_ ?_ ?_⟩
  · intro p hp
    exact ⟨same_new hp _, ⟨_, _, rfl⟩, rfl, .nil⟩
  · rintro p i ys σ' H' hp ⟨s', _⟩
    exact s' _ _ hl
  · rintro p i ys σ' H' x H'' hp hi hl' ⟨s', ⟨o1, o2, rfl⟩, yl, sh⟩ hp' ⟨rfl, hx⟩ Q1 Q2 h1 h2
    obtain ⟨r, hri, a, b, v2, rfl, ha, hb, hv⟩ := paired_get rws hx
    refine ⟨a, _, rfl, s' _ _ ha, rfl, _, _, rfl, _, _, rfl, rfl, ?_⟩
    refine tT_ (iteT ⟨_, rfl, h1 _ _ _ hp' ⟨same_updN hp s' _, ⟨_, _, rfl⟩, by simp [yl], ?_⟩⟩)
    rw [take_snoc hri, List.map_append]
    exact Shs.snoc (shUpdL hp' (hv.same s')) (Shs.updL hp' sh)
  · rintro p ys σ' H' hp ⟨s', _, yl, sh⟩ hp' hl'
    rw [xl, List.take_length] at sh
    refine ⟨p, ys, rs.map (·.2), rfl, hp', sh, fun q hq => ?_, by simpa using few, fun t c H2 s2 ht hc => ?_⟩
    · obtain ⟨r, hr', rfl⟩ := List.mem_map.mp hq
      exact M.sb r hr'
    refine ⟨t, _, rfl, SqT.of ht, rfl, _, _, rfl, _, _, rfl, rfl, ?_⟩
    have sA := s'.trans s2
    change H2 c = some (.lst (iv (tpF (botF (rs.map (·.2))) (rs.map (·.2))))) at hc
    have hT := M.tp
    have b0 := Mn.b0 rs
    have b1 := M.bB
    have tl : (tpF (botF (rs.map (·.2))) (rs.map (·.2))).length = rs.length := by simp [tpF]
    show _
    unfold mnF at k
    change ∀ v H', _ at k
    have hn2 := sA _ _ hn
    refine ⟨_, rfl, _, rfl, c, ln, rfl, ⟨_, SqL.of hc⟩, ⟨_, SqL.of hn2⟩, comp_Y (yields_zip (xs := iv (tpF (botF (rs.map (·.2))) (rs.map (·.2)))) (ys := iv ns) (by simp [tl, nl])) (fun p i ys σ' H' => Same H2 H' ∧ (∃ o1 o2, σ' = [o1, o2]) ∧ ys = iv ((List.zipWith (· * ·) (tpF (botF (rs.map (·.2))) (rs.map (·.2))) ns).take i)) (by simp [tl]; omega) ?_ ?_ ?_ ?_⟩
    · exact fun p hp => ⟨same_new hp _, ⟨_, _, rfl⟩, rfl⟩
    · rintro p i ys σ' H' hp ⟨s3, _⟩
      exact ⟨s3 _ _ hc, s3 _ _ hn2⟩
    · rintro p i ys σ' H3 x H4 hp hi hl' ⟨s3, ⟨o1, o2, rfl⟩, rfl⟩ hp' ⟨q, y, z, rfl, hq, rfl, hy, hz⟩ Q1 Q2 h1 h2
      rw [List.getElem?_map, Option.map_eq_some_iff] at hy hz
      obtain ⟨ti, hti, rfl⟩ := hy
      obtain ⟨ni, hni, rfl⟩ := hz
      have s4 := same_new hq (.tup [.int ti, .int ni])
      refine ⟨q, _, rfl, upd_same, rfl, _, _, rfl, _, _, rfl, rfl, ?_⟩
      refine tT_ (iteT ⟨_, rfl, _, rfl, _, _, rfl, rfl, ⟨hT _ (List.mem_of_getElem? hti), nb _ (List.mem_of_getElem? hni)⟩, h1 _ _ _ (s4 _ _ hp') ⟨same_updN hp (s3.trans s4) _, ⟨_, _, rfl⟩, ?_⟩⟩)
      rw [take_snoc (x := ti * ni) (by rw [List.getElem?_zipWith, hti, hni])]
      show _ = List.map V.int _
      rw [List.map_append]
      first | done | rfl
    · rintro p2 ys2 σ2 H3 hp2 ⟨s3, _, rfl⟩ hp2' hl2
      rw [List.take_of_length_le (by simp [tl, nl])] at hp2'
      refine ⟨p2, _, rfl, SqL.of hp2', ?_⟩
      refine ⟨_, rfl, lz 1 rfl, fun l4 hl4 => ?_⟩
      have s4 := same_new hl4 (.lst [.int (botF (rs.map (·.2)))])
      refine ⟨_, l4, [botF (rs.map (·.2))], rfl, upd_same, fun b hb => by simp at hb; subst hb; exact ⟨b0, b1⟩, fun v H5 s5 pv => ?_⟩
      rw [parted_q 1 _ rfl (fun b hb => by simp at hb; subst hb; exact b0), List.prod_cons, List.prod_nil, Int.mul_one] at pv
      exact k v H5 (sA.trans (s3.trans (s4.trans s5))) pv
end
end My

set_option Elab.async false
set_option linter.all false
set_option maxRecDepth 100000
set_option maxHeartbeats 1000000
namespace My
open PySem L2 MA Srt
section
variable {P : Program} {w : World} {K : PySem.W.Frag} {mg : Str → Option Value} {base : Heap}
/-- a number of a load -/
def spNum (g : List Int → Int) : Sp := fun vs H Q _ => ∃ (b : Addr) (l : List Int), vs = [.ref b] ∧ H b = some (.tup (iv l)) ∧ l ≠ [] ∧ l.length ≤ 6 ∧ (∀ x ∈ l, 0 ≤ x ∧ x ≤ 40) ∧ ∀ H', Same H H' → Q (.int (g l)) H'
def gFull (l : List Int) : Int := l.getD 0 0
def gEmpt (l : List Int) : Int := l.getD (l.length - 1) 0
def gGap (l : List Int) : Int := gFull l - gEmpt l
def gSq (l : List Int) : Int := (l.map fun x => x * x).sum
theorem at0 {l : List Int} (h : l ≠ []) : atI (iv l) 0 = some (.int (gFull l)) := by
  cases l with
  | nil => exact absurd rfl h
  | cons a l => exact atI_nat (show (iv (a :: l))[0]? = some _ from rfl)
theorem atL {l : List Int} (h : l ≠ []) : atI (iv l) (-1) = some (.int (gEmpt l)) := by
  rcases List.eq_nil_or_concat l with e | ⟨l', x, e⟩
  · exact absurd e h
  · rw [List.concat_eq_append] at e
    subst e
    have e2 : iv (l' ++ [x]) = iv l' ++ [.int x] := by show List.map V.int _ = _; rw [List.map_append]; rfl
    rw [e2, atI_last]
    simp [gEmpt]
theorem ok_fullest (F : FunAt K mg "fullest" ["load"] s_fullest) : Cal P w K mg base "fullest" ["load"] 1 (spNum gFull) := by
  have S := sc_fullest
  refine F.cal sc_fullest (fun vs H Q E h => ?_) (fun f cdv A outer s H vs Q E hr h => ?_)
  · obtain ⟨b, l, rfl, _⟩ := h; rfl
  obtain ⟨b, l, rfl, hb, ne, l6, l40, k⟩ := h
  refine ⟨_, (@pss_one _ _ _ (@ps_ret _ _ _ _ (@pe_ix _ _ _ _ _ _ _ ix_tup (pv 0) pe_int (by exact (fun _ _ => rfl))))), ?_⟩
  exact ⟨_, rfl, b, _, _, _, rfl, rfl, SqT.of hb, at0 ne, k _ (Same.refl _)⟩
theorem ok_emptiest (F : FunAt K mg "emptiest" ["load"] s_emptiest) : Cal P w K mg base "emptiest" ["load"] 1 (spNum gEmpt) := by
  have S := sc_emptiest
  refine F.cal sc_emptiest (fun vs H Q E h => ?_) (fun f cdv A outer s H vs Q E hr h => ?_)
  · obtain ⟨b, l, rfl, _⟩ := h; rfl
  obtain ⟨b, l, rfl, hb, ne, l6, l40, k⟩ := h
  refine ⟨_, (@pss_one _ _ _ (@ps_ret _ _ _ _ (@pe_ix _ _ _ _ _ _ _ ix_tup (pv 0) (@pe_un _ _ _ _ _ _ un_neg pe_int) (by exact (fun _ _ => rfl))))), ?_⟩
  exact ⟨_, rfl, _, rfl, b, _, _, _, rfl, rfl, SqT.of hb, atL ne, k _ (Same.refl _)⟩
theorem ok_gap (F : FunAt K mg "gap" ["load"] s_gap) : Cal P w K mg base "gap" ["load"] 1 (spNum gGap) := by
  have S := sc_gap
  refine F.cal sc_gap (fun vs H Q E h => ?_) (fun f cdv A outer s H vs Q E hr h => ?_)
  · obtain ⟨b, l, rfl, _⟩ := h; rfl
  obtain ⟨b, l, rfl, hb, ne, l6, l40, k⟩ := h
  refine ⟨_, (@pss_one _ _ _ (@ps_ret _ _ _ _ (@pe_op _ _ _ _ _ _ _ _ op_sub (@pe_ix _ _ _ _ _ _ _ ix_tup (pv 0) pe_int (by exact (fun _ _ => rfl))) (@pe_ix _ _ _ _ _ _ _ ix_tup (pv 0) (@pe_un _ _ _ _ _ _ un_neg pe_int) (by exact (fun _ _ => rfl)))))), ?_⟩
  exact ⟨_, rfl, b, _, _, _, rfl, rfl, SqT.of hb, at0 ne, _, rfl, _, rfl, b, _, _, _, rfl, rfl, SqT.of hb, atL ne, _, _, rfl, rfl, k _ (Same.refl _)⟩
theorem ok_squares (T : Txt2 mg) (F : FunAt K mg "squares" ["load"] s_squares) : Cal P w K mg base "squares" ["load"] 1 (spNum gSq) := by
  have S := sc_squares
  refine F.cal sc_squares (fun vs H Q E h => ?_) (fun f cdv A outer s H vs Q E hr h => ?_)
  · obtain ⟨b, l, rfl, _⟩ := h; rfl
  obtain ⟨b, l, rfl, hb, ne, l6, l40, k⟩ := h
  refine ⟨_, (@pss_one _ _ _ (@ps_ret _ _ _ _ (@pe_callB _ _ _ _ _ _ _ _ _ (call_sum (by rfl)) (by rfl) (by exact T.z_sum) (by exact bt_sum) (@pa_consN _ _ _ _ _ (@pe_comp0 _ _ _ _ _ _ _ _ _ _ _ (["number"]) (fun _ => [none]) (by rfl) (by exact (fun _ _ h => h)) (by decide +kernel) (by rfl) (by decide +kernel) (by decide +kernel) (by exact Sees.none1) (@pi_tup _ _ _ _ (pv 0)) (fun _ _ _ _ _ => @pg_name _ _ (0) _ (by exact (show (["number"] : List Str).Nodup by decide +kernel)) (by rfl) (by first | exact Or.inl rfl | exact Or.inr rfl) (by first|rfl|decide|exact .inl rfl|exact .inr rfl|(intros; rfl))) (fun _ _ _ _ _ => pts_nil) (fun _ _ _ _ _ => (@pe_op _ _ _ _ _ _ _ _ op_mulB (pv 0) (pv 0))) (by first|rfl|decide|exact .inl rfl|exact .inr rfl|(intros; rfl))) pa_nil (by first|rfl|decide|exact .inl rfl|exact .inr rfl|(intros; rfl))) (by first|rfl|decide|exact .inl rfl|exact .inr rfl|(intros; rfl)) (by first|rfl|decide|exact .inl rfl|exact .inr rfl|(intros; rfl)) (by first|rfl|decide|exact .inl rfl|exact .inr rfl|(intros; rfl)) (by first|rfl|decide|exact .inl rfl|exact .inr rfl|(intros; rfl))))), ?_⟩
  refine ⟨_, rfl, b, rfl, ⟨_, SqT.of hb⟩, comp_Y (yields_tup (xs := iv l)) (fun p i ys σ' H' => Same H H' ∧ (∃ o1, σ' = [o1]) ∧ ys = iv ((l.map fun x => x * x).take i)) (by simp; omega) ?_ ?_ ?_ ?_⟩
  · exact fun p hp => ⟨same_new hp _, ⟨_, rfl⟩, rfl⟩
  · rintro p i ys σ' H' hp ⟨s', _⟩
    exact s' _ _ hb
  · rintro p i ys σ' H' x H'' hp hi hl' ⟨s', ⟨o1, rfl⟩, rfl⟩ hp' ⟨rfl, hx⟩ Q1 Q2 h1 h2
    rw [List.getElem?_map, Option.map_eq_some_iff] at hx
    obtain ⟨n, hn, rfl⟩ := hx
    have n40 := l40 n (List.mem_of_getElem? hn)
    have nb : Bt 20000 n := (Bt.of_lt (n := 6) (show n.natAbs < 64 by omega)).mono (by decide)
    refine gN_ (tT_ (iteT ⟨_, rfl, _, rfl, _, _, rfl, rfl, ⟨nb, nb⟩, h1 _ _ _ hp' ⟨same_updN hp s' _, ⟨_, rfl⟩, ?_⟩⟩))
    rw [take_snoc (x := n * n) (by rw [List.getElem?_map, hn]; rfl)]
    show _ = List.map V.int _
    rw [List.map_append]
    rfl
  · rintro p ys σ' H' hp ⟨s', _, rfl⟩ hp' hl'
    rw [List.take_of_length_le (by simp)] at hp'
    exact ⟨p, _, rfl, SqL.of hp', k _ s'⟩
end
end My

set_option Elab.async false
set_option linter.all false
set_option maxRecDepth 100000
set_option maxHeartbeats 1000000
namespace My
open PySem L2 MA Srt
def LdR (rs : Spd) : Prop := ∀ r ∈ rs, r.1 ≠ [] ∧ r.1.length ≤ 6 ∧ ∀ x ∈ r.1, 0 ≤ x ∧ x ≤ 40
def gW (x : Str) : List Int → Int := if x = "fullest" then gFull else if x = "emptiest" then gEmpt else if x = "gap" then gGap else gSq
def isW (x : Str) : Prop := x = "fullest" ∨ x = "emptiest" ∨ x = "gap" ∨ x = "squares"
def gSum (k : Nat) (l : List Int) : Int := (l.take k).sum
def gBox (m : Int) (l : List Int) : Int := ((l.filter fun x => decide (m ≤ x)).length : Nat)
def gMany (m b : Int) (l : List Int) : Int := if b ≤ gBox m l then 1 else 0
def nmF (g : List Int → Int) (rs : Spd) : List Int := rs.map fun r => g r.1
theorem nm_len (g : List Int → Int) (rs : Spd) : (nmF g rs).length = rs.length := by simp [nmF]
theorem nm_take {g : List Int → Int} {rs : Spd} {i : Nat} {r : List Int × Rat} (h : rs[i]? = some r) : iv ((nmF g rs).take (i + 1)) = iv ((nmF g rs).take i) ++ [.int (g r.1)] := by
  rw [take_snoc (x := g r.1) (by unfold nmF; rw [List.getElem?_map, h]; rfl)]
  show List.map V.int _ = _
  rw [List.map_append]; rfl
theorem cut_to (l : List Int) (k : Nat) : cutV (iv l) none (some (k : Int)) = iv (l.take k) := by
  unfold cutV
  rw [HT.sIx_none, HT.sIx_nat, List.drop_zero, Nat.sub_zero]
  show List.take _ (List.map V.int l) = List.map V.int _
  rw [List.map_take, List.length_map]
  rcases Nat.le_total k l.length with h | h
  · rw [Nat.min_eq_left h]
  · rw [Nat.min_eq_right h, List.take_of_length_le (by simp), List.take_of_length_le (by simpa using h)]
theorem bt_small {x : Int} (h : -100000 ≤ x ∧ x ≤ 100000) : Bt 20000 x := (Bt.of_lt (n := 20) (Nat.lt_of_le_of_lt (show x.natAbs ≤ 100000 by omega) (by decide))).mono (by decide)
theorem getD_in {l : List Int} {j : Nat} (h : ∀ x ∈ l, 0 ≤ x ∧ x ≤ 40) : 0 ≤ l.getD j 0 ∧ l.getD j 0 ≤ 40 := by
  rw [List.getD_eq_getElem?_getD]
  cases e : l[j]? with
  | none => simp
  | some x => exact h x (List.mem_of_getElem? e)
theorem sum_in {l : List Int} {c : Int} (h : ∀ x ∈ l, 0 ≤ x ∧ x ≤ c) : 0 ≤ l.sum ∧ l.sum ≤ c * l.length := by
  induction l with
  | nil => simp
  | cons a l ih =>
    have := ih fun x hx => h x (by simp [hx])
    have := h a (by simp)
    rw [List.sum_cons, List.length_cons, show ((l.length + 1 : Nat) : Int) = (l.length : Int) + 1 by omega, Int.mul_add, Int.mul_one]
    omega
theorem gW_small {x : Str} {l : List Int} (h6 : l.length ≤ 6) (h : ∀ x ∈ l, 0 ≤ x ∧ x ≤ 40) : -100000 ≤ gW x l ∧ gW x l ≤ 100000 := by
  have h0 := getD_in (j := 0) h
  have h1 := getD_in (j := l.length - 1) h
  have h2 := sum_in (l := l.map fun x => x * x) (c := 1600) fun y hy => by
    obtain ⟨z, hz, rfl⟩ := List.mem_map.mp hy
    have := h z hz
    exact ⟨Int.mul_nonneg this.1 this.1, Int.mul_le_mul this.2 this.2 this.1 (by decide)⟩
  rw [List.length_map] at h2
  unfold gW
  split
  · show -100000 ≤ l.getD 0 0 ∧ l.getD 0 0 ≤ 100000; omega
  · split
    · show -100000 ≤ l.getD (l.length - 1) 0 ∧ l.getD (l.length - 1) 0 ≤ 100000; omega
    · split
      · show -100000 ≤ l.getD 0 0 - l.getD (l.length - 1) 0 ∧ l.getD 0 0 - l.getD (l.length - 1) 0 ≤ 100000; omega
      · show -100000 ≤ (l.map fun x => x * x).sum ∧ (l.map fun x => x * x).sum ≤ 100000; omega
theorem gSum_small {k : Nat} {l : List Int} (h6 : l.length ≤ 6) (h : ∀ x ∈ l, 0 ≤ x ∧ x ≤ 40) : -100000 ≤ gSum k l ∧ gSum k l ≤ 100000 := by
  have h2 := sum_in (l := l.take k) (c := 40) fun y hy => h y (List.mem_of_mem_take hy)
  have : (l.take k).length ≤ 6 := by rw [List.length_take]; omega
  unfold gSum
  omega
theorem gMany_small {m b : Int} {l : List Int} : -100000 ≤ gMany m b l ∧ gMany m b l ≤ 100000 := by unfold gMany; split <;> decide
section
variable {P : Program} {w : World} {K : PySem.W.Frag} {mg : Str → Option Value} {base : Heap}
/-- a mean of a spread -/
def spMn (g : List Int → Int) (rest : List V) : Sp := fun vs H Q _ => ∃ (l : Addr) (rs : Spd), vs = .ref l :: rest ∧ SpAt H l rs ∧ Mn rs ∧ LdR rs ∧ ∀ v H', Same H H' → PrAt H' v (prq (mnF rs (nmF g rs))) → Q v H'
def spMean : Sp := fun vs H Q E => ∃ x, isW x ∧ spMn (gW x) [.str x] vs H Q E
def Words (P : Program) (w : World) (K : PySem.W.Frag) (mg : Str → Option Value) (base : Heap) (wd : Addr) : Prop := ∃ f, TabK P w K wd f ∧ ∀ x, isW x → ∃ a, f x = some a ∧ FnT P w K mg base 1 a ["load"] (spNum (gW x))
theorem ok_mean (T : Txt2 mg) {wd : Addr} (hwd : mg "WORDS" = some (.ref wd)) (W : Words P w K mg base wd) (C_mean_of : Cal P w K mg base "mean_of" ["spread", "numbers"] 3 spMeanOf) (F : FunAt K mg "mean" ["spread", "word"] s_mean) : Cal P w K mg base "mean" ["spread", "word"] 4 spMean := by
  have S := sc_mean
  refine F.cal sc_mean (fun vs H Q E h => ?_) (fun f cdv A outer s H vs Q E hr h => ?_)
  · obtain ⟨x, _, l, rs, rfl, _⟩ := h; rfl
  obtain ⟨x, hx, l, rs, rfl, spl, M, LR, k⟩ := h
  obtain ⟨xs, hl, rws⟩ := id spl
  have xl := Paired.length rws
  have few := M.few
  obtain ⟨ft, TB, hW⟩ := W
  obtain ⟨fa', hfa, FT⟩ := hW x hx
  refine ⟨_, (@pss_cons _ _ _ _ _ (@ps_set _ _ (2) _ _ _ _ (by exact S.nd) (by rfl) (by first | exact Or.inl rfl | exact Or.inr rfl) (@pe_tabK _ _ _ _ _ _ _ (by rfl) (by exact hwd) (pv 1) (by exact (fun _ _ => rfl)) (by first|rfl|decide|exact .inl rfl|exact .inr rfl|(intros; rfl))) (by first|rfl|decide|exact .inl rfl|exact .inr rfl|(intros; rfl)) (by first|rfl|decide|exact .inl rfl|exact .inr rfl|(intros; rfl))) (@pss_one _ _ _ (@ps_ret _ _ _ _ (@cc _ _ _ _ _ _ _ _ _ _ (by exact C_mean_of) (by exact (hr.mono (by decide))) (@pa_consN _ _ _ _ _ (pv 0) (@pa_consN _ _ _ _ _ (@pe_comp _ _ _ _ _ _ _ _ _ _ _ _ _ (by rfl) (by exact (fun _ _ h => h)) (by decide +kernel) (by rfl) (by decide +kernel) (by exact hfr_of rfl) (by exact Sees.frees ["load", "part"] [("deed", 2)] (fr_cons ⟨rfl, rfl⟩ fr_nil)) (@pi_list _ _ _ _ (pv 0)) (fun _ _ _ _ _ => @pg_tup0 _ _ _ _ _ (2) (by rfl) (@pgs_cons _ _ _ _ _ (@pg_name _ _ (0) _ (by exact (show (["load", "part", "deed"] : List Str).Nodup by decide +kernel)) (by rfl) (by first | exact Or.inl rfl | exact Or.inr rfl) (by first|rfl|decide|exact .inl rfl|exact .inr rfl|(intros; rfl))) (@pgs_cons _ _ _ _ _ (@pg_name _ _ (1) _ (by exact (show (["load", "part", "deed"] : List Str).Nodup by decide +kernel)) (by rfl) (by first | exact Or.inl rfl | exact Or.inr rfl) (by first|rfl|decide|exact .inl rfl|exact .inr rfl|(intros; rfl))) pgs_nil (by first|rfl|decide|exact .inl rfl|exact .inr rfl|(intros; rfl))) (by first|rfl|decide|exact .inl rfl|exact .inr rfl|(intros; rfl))) (by first|rfl|decide|exact .inl rfl|exact .inr rfl|(intros; rfl)) (by first|rfl|decide|exact .inl rfl|exact .inr rfl|(intros; rfl))) (fun _ _ _ _ _ => pts_nil) (fun _ _ _ _ _ => (@pe_callV _ P w K mg base (by rfl) (by rfl) (by rfl) (by rfl) (by rfl) (2) (1) _ _ _ _ _ _ (by exact (hr.mono (by decide))) (by rfl) (by first | exact Or.inl rfl | exact Or.inr (Or.inl rfl) | exact Or.inr (Or.inr rfl)) (@pa_consN _ _ _ _ _ (pv 0) pa_nil (by first|rfl|decide|exact .inl rfl|exact .inr rfl|(intros; rfl))) (by first|rfl|decide|exact .inl rfl|exact .inr rfl|(intros; rfl)) (by first|rfl|decide|exact .inl rfl|exact .inr rfl|(intros; rfl)) (by first|rfl|decide|exact .inl rfl|exact .inr rfl|(intros; rfl)) (by first|rfl|decide|exact .inl rfl|exact .inr rfl|(intros; rfl)))) (by first|rfl|decide|exact .inl rfl|exact .inr rfl|(intros; rfl))) pa_nil (by first|rfl|decide|exact .inl rfl|exact .inr rfl|(intros; rfl))) (by first|rfl|decide|exact .inl rfl|exact .inr rfl|(intros; rfl))) (by first|rfl|decide|exact .inl rfl|exact .inr rfl|(intros; rfl)) (by first|rfl|decide|exact .inl rfl|exact .inr rfl|(intros; rfl)) (by first|rfl|decide|exact .inl rfl|exact .inr rfl|(intros; rfl)) (by first|rfl|decide|exact .inl rfl|exact .inr rfl|(intros; rfl)))))), ?_⟩
  refine ⟨_, rfl, ft, x, fa', TB, rfl, hfa, ?_⟩
  refine ⟨_, rfl, _, rfl, l, rfl, ⟨_, SqL.of hl⟩, comp_Y (yields_lst (xs := xs)) (fun p i ys σ' H' => Same H H' ∧ (∃ o1 o2, σ' = [o1, o2, some (.ref fa')]) ∧ ys = iv ((nmF (gW x) rs).take i)) (by omega) ?_ ?_ ?_ ?_⟩
  · exact fun p hp => ⟨same_new hp _, ⟨_, _, rfl⟩, rfl⟩
  · rintro p i ys σ' H' hp ⟨s', _⟩
    exact s' _ _ hl
  · rintro p i ys σ' H' x' H'' hp hi hl' ⟨s', ⟨o1, o2, rfl⟩, rfl⟩ hp' ⟨rfl, hx'⟩ Q1 Q2 h1 h2
    obtain ⟨r, hri, a, b, v2, rfl, ha, hb, hv⟩ := paired_get rws hx'
    obtain ⟨r1, r2, r3⟩ := LR r (List.mem_of_getElem? hri)
    refine ⟨a, _, rfl, s' _ _ ha, rfl, _, _, rfl, _, _, rfl, rfl, ?_⟩
    refine tT_ (iteT ⟨fa', _, _, rfl, FT, _, rfl, b, r.1, rfl, s' _ _ hb, r1, r2, r3, fun H5 s5 => h1 _ _ _ (s5 _ _ hp') ⟨same_updN hp (s'.trans s5) _, ⟨_, _, rfl⟩, (nm_take hri).symm⟩⟩)
  · rintro p ys σ' H' hp ⟨s', _, rfl⟩ hp' hl'
    rw [List.take_of_length_le (by rw [nm_len]; omega)] at hp'
    exact ⟨l, p, rs, nmF (gW x) rs, rfl, spl.same s', M, hp', nm_len _ _, fun y hy => by obtain ⟨r, hr', rfl⟩ := List.mem_map.mp hy; exact bt_small (gW_small (LR r hr').2.1 (LR r hr').2.2), fun v H5 s5 pv => k v H5 (s'.trans s5) pv⟩
def spFirst : Sp := fun vs H Q E => ∃ k : Nat, spMn (gSum k) [.int (k : Int)] vs H Q E
theorem ok_first (T : Txt2 mg) (C_mean_of : Cal P w K mg base "mean_of" ["spread", "numbers"] 3 spMeanOf) (F : FunAt K mg "first_mean" ["spread", "k"] s_first_mean) : Cal P w K mg base "first_mean" ["spread", "k"] 4 spFirst := by
  have S := sc_first_mean
  refine F.cal sc_first_mean (fun vs H Q E h => ?_) (fun f cdv A outer s H vs Q E hr h => ?_)
  · obtain ⟨x, l, rs, rfl, _⟩ := h; rfl
  obtain ⟨kk, l, rs, rfl, spl, M, LR, k⟩ := h
  obtain ⟨xs, hl, rws⟩ := id spl
  have xl := Paired.length rws
  have few := M.few
  refine ⟨_, (@pss_one _ _ _ (@ps_ret _ _ _ _ (@cc _ _ _ _ _ _ _ _ _ _ (by exact C_mean_of) (by exact (hr.mono (by decide))) (@pa_consN _ _ _ _ _ (pv 0) (@pa_consN _ _ _ _ _ (@pe_comp _ _ _ _ _ _ _ _ _ _ _ _ _ (by rfl) (by exact (fun _ _ h => h)) (by decide +kernel) (by rfl) (by decide +kernel) (by exact hfr_of rfl) (by exact Sees.frees ["load", "part"] [("k", 1)] (fr_cons ⟨rfl, rfl⟩ fr_nil)) (@pi_list _ _ _ _ (pv 0)) (fun _ _ _ _ _ => @pg_tup0 _ _ _ _ _ (2) (by rfl) (@pgs_cons _ _ _ _ _ (@pg_name _ _ (0) _ (by exact (show (["load", "part", "k"] : List Str).Nodup by decide +kernel)) (by rfl) (by first | exact Or.inl rfl | exact Or.inr rfl) (by first|rfl|decide|exact .inl rfl|exact .inr rfl|(intros; rfl))) (@pgs_cons _ _ _ _ _ (@pg_name _ _ (1) _ (by exact (show (["load", "part", "k"] : List Str).Nodup by decide +kernel)) (by rfl) (by first | exact Or.inl rfl | exact Or.inr rfl) (by first|rfl|decide|exact .inl rfl|exact .inr rfl|(intros; rfl))) pgs_nil (by first|rfl|decide|exact .inl rfl|exact .inr rfl|(intros; rfl))) (by first|rfl|decide|exact .inl rfl|exact .inr rfl|(intros; rfl))) (by first|rfl|decide|exact .inl rfl|exact .inr rfl|(intros; rfl)) (by first|rfl|decide|exact .inl rfl|exact .inr rfl|(intros; rfl))) (fun _ _ _ _ _ => pts_nil) (fun _ _ _ _ _ => (@pe_callB _ _ _ _ _ _ _ _ _ (call_sumT (by rfl)) (by rfl) (by exact T.z_sum) (by exact bt_sum) (@pa_consN _ _ _ _ _ (@pe_slice _ _ _ _ _ _ _ _ _ _ sl_tupS (pv 0) po_none (@po_some _ _ _ (pv 2))) pa_nil (by first|rfl|decide|exact .inl rfl|exact .inr rfl|(intros; rfl))) (by first|rfl|decide|exact .inl rfl|exact .inr rfl|(intros; rfl)) (by first|rfl|decide|exact .inl rfl|exact .inr rfl|(intros; rfl)) (by first|rfl|decide|exact .inl rfl|exact .inr rfl|(intros; rfl)) (by first|rfl|decide|exact .inl rfl|exact .inr rfl|(intros; rfl)))) (by first|rfl|decide|exact .inl rfl|exact .inr rfl|(intros; rfl))) pa_nil (by first|rfl|decide|exact .inl rfl|exact .inr rfl|(intros; rfl))) (by first|rfl|decide|exact .inl rfl|exact .inr rfl|(intros; rfl))) (by first|rfl|decide|exact .inl rfl|exact .inr rfl|(intros; rfl)) (by first|rfl|decide|exact .inl rfl|exact .inr rfl|(intros; rfl)) (by first|rfl|decide|exact .inl rfl|exact .inr rfl|(intros; rfl)) (by first|rfl|decide|exact .inl rfl|exact .inr rfl|(intros; rfl))))), ?_⟩
  refine ⟨_, rfl, _, rfl, l, rfl, ⟨_, SqL.of hl⟩, comp_Y (yields_lst (xs := xs)) (fun p i ys σ' H' => Same H H' ∧ (∃ o1 o2, σ' = [o1, o2, some (.int (kk : Int))]) ∧ ys = iv ((nmF (gSum kk) rs).take i)) (by omega) ?_ ?_ ?_ ?_⟩
  · exact fun p hp => ⟨same_new hp _, ⟨_, _, rfl⟩, rfl⟩
  · rintro p i ys σ' H' hp ⟨s', _⟩
    exact s' _ _ hl
  · rintro p i ys σ' H' x' H'' hp hi hl' ⟨s', ⟨o1, o2, rfl⟩, rfl⟩ hp' ⟨rfl, hx'⟩ Q1 Q2 h1 h2
    obtain ⟨r, hri, a, b, v2, rfl, ha, hb, hv⟩ := paired_get rws hx'
    obtain ⟨r1, r2, r3⟩ := LR r (List.mem_of_getElem? hri)
    refine ⟨a, _, rfl, s' _ _ ha, rfl, _, _, rfl, _, _, rfl, rfl, ?_⟩
    refine tT_ (iteT ⟨_, rfl, _, rfl, _, rfl, b, _, rfl, s' _ _ hb, fun c H5 s5 hc => ?_⟩)
    rw [cut_to] at hc
    exact ⟨c, _, rfl, hc, h1 _ _ _ (s5 _ _ hp') ⟨same_updN hp (s'.trans s5) _, ⟨_, _, rfl⟩, (nm_take hri).symm⟩⟩
  · rintro p ys σ' H' hp ⟨s', _, rfl⟩ hp' hl'
    rw [List.take_of_length_le (by rw [nm_len]; omega)] at hp'
    exact ⟨l, p, rs, nmF (gSum kk) rs, rfl, spl.same s', M, hp', nm_len _ _, fun y hy => by obtain ⟨r, hr', rfl⟩ := List.mem_map.mp hy; exact bt_small (gSum_small (LR r hr').2.1 (LR r hr').2.2), fun v H5 s5 pv => k v H5 (s'.trans s5) pv⟩
def spBox : Sp := fun vs H Q _ => ∃ (b : Addr) (l : List Int) (m : Int), vs = [.ref b, .int m] ∧ H b = some (.tup (iv l)) ∧ l.length ≤ 6 ∧ ∀ H', Same H H' → Q (.int (gBox m l)) H'
theorem ok_box (T : Txt2 mg) (F : FunAt K mg "boxes_with" ["load", "m"] s_boxes_with) : Cal P w K mg base "boxes_with" ["load", "m"] 1 spBox := by
  have S := sc_boxes_with
  refine F.cal sc_boxes_with (fun vs H Q E h => ?_) (fun f cdv A outer s H vs Q E hr h => ?_)
  · obtain ⟨b, l, m, rfl, _⟩ := h; rfl
  obtain ⟨b, l, m, rfl, hb, l6, k⟩ := h
  refine ⟨_, (@pss_one _ _ _ (@ps_ret _ _ _ _ (@pe_callB _ _ _ _ _ _ _ _ _ call_len_seq (by rfl) (by exact T.z_len) (by exact bt_len) (@pa_consN _ _ _ _ _ (@pe_comp _ _ _ _ _ _ _ _ _ _ _ _ _ (by rfl) (by exact (fun _ _ h => h)) (by decide +kernel) (by rfl) (by decide +kernel) (by exact hfr_of rfl) (by exact Sees.frees ["number"] [("m", 1)] (fr_cons ⟨rfl, rfl⟩ fr_nil)) (@pi_tup _ _ _ _ (pv 0)) (fun _ _ _ _ _ => @pg_name _ _ (0) _ (by exact (show (["number", "m"] : List Str).Nodup by decide +kernel)) (by rfl) (by first | exact Or.inl rfl | exact Or.inr rfl) (by first|rfl|decide|exact .inl rfl|exact .inr rfl|(intros; rfl))) (fun _ _ _ _ _ => (@pts_one _ _ _ (@pt_cmpR _ _ _ _ _ _ _ _ op_ge (pv 0) (pv 1) (by exact (nomark _))))) (fun _ _ _ _ _ => (pv 0)) (by first|rfl|decide|exact .inl rfl|exact .inr rfl|(intros; rfl))) pa_nil (by first|rfl|decide|exact .inl rfl|exact .inr rfl|(intros; rfl))) (by first|rfl|decide|exact .inl rfl|exact .inr rfl|(intros; rfl)) (by first|rfl|decide|exact .inl rfl|exact .inr rfl|(intros; rfl)) (by first|rfl|decide|exact .inl rfl|exact .inr rfl|(intros; rfl)) (by first|rfl|decide|exact .inl rfl|exact .inr rfl|(intros; rfl))))), ?_⟩
  refine ⟨_, rfl, b, rfl, ⟨_, SqT.of hb⟩, comp_Y (yields_tup (xs := iv l)) (fun p i ys σ' H' => Same H H' ∧ (∃ o1, σ' = [o1, some (.int m)]) ∧ ys = iv ((l.take i).filter fun x => decide (m ≤ x))) (by simp; omega) ?_ ?_ ?_ ?_⟩
  · exact fun p hp => ⟨same_new hp _, ⟨_, rfl⟩, rfl⟩
  · rintro p i ys σ' H' hp ⟨s', _⟩
    exact s' _ _ hb
  · rintro p i ys σ' H' x H'' hp hi hl' ⟨s', ⟨o1, rfl⟩, rfl⟩ hp' ⟨rfl, hx⟩ Q1 Q2 h1 h2
    rw [List.getElem?_map, Option.map_eq_some_iff] at hx
    obtain ⟨n, hn, rfl⟩ := hx
    refine gN_ ⟨_, rfl, _, rfl, _, _, rfl, rfl, _, rfl, ?_⟩
    have e := take_snoc hn
    refine ite2 (fun c => ?_) (fun c => ?_)
    · have c' : m ≤ n := of_decide_eq_true c
      refine ⟨_, rfl, h1 _ _ _ hp' ⟨same_updN hp s' _, ⟨_, rfl⟩, ?_⟩⟩
      rw [e, List.filter_append]
      show _ = List.map V.int _
      rw [List.map_append]
      simp [c']
    · have c' : ¬ m ≤ n := fun z => c (decide_eq_true z)
      refine h2 _ _ hp' ⟨s', ⟨_, rfl⟩, ?_⟩
      rw [e, List.filter_append]
      simp [c']
  · rintro p ys σ' H' hp ⟨s', _, rfl⟩ hp' hl'
    rw [List.take_of_length_le (by simp)] at hp'
    have := k _ s'
    refine ⟨p, _, rfl, .inl (SqL.of hp'), ?_⟩
    unfold gBox at this
    simpa using this
def spMany : Sp := fun vs H Q E => ∃ m b : Int, spMn (gMany m b) [.int m, .int b] vs H Q E
theorem ok_many (T : Txt2 mg) (C_boxes_with : Cal P w K mg base "boxes_with" ["load", "m"] 1 spBox) (C_mean_of : Cal P w K mg base "mean_of" ["spread", "numbers"] 3 spMeanOf) (F : FunAt K mg "many_share" ["spread", "m", "b"] s_many_share) : Cal P w K mg base "many_share" ["spread", "m", "b"] 4 spMany := by
  have S := sc_many_share
  refine F.cal sc_many_share (fun vs H Q E h => ?_) (fun f cdv A outer s H vs Q E hr h => ?_)
  · obtain ⟨m, b, l, rs, rfl, _⟩ := h; rfl
  obtain ⟨m, bb, l, rs, rfl, spl, M, LR, k⟩ := h
  obtain ⟨xs, hl, rws⟩ := id spl
  have xl := Paired.length rws
  have few := M.few
  refine ⟨_, (@pss_one _ _ _ (@ps_ret _ _ _ _ (@cc _ _ _ _ _ _ _ _ _ _ (by exact C_mean_of) (by exact (hr.mono (by decide))) (@pa_consN _ _ _ _ _ (pv 0) (@pa_consN _ _ _ _ _ (@pe_comp _ _ _ _ _ _ _ _ _ _ _ _ _ (by rfl) (by exact (fun _ _ h => h)) (by decide +kernel) (by rfl) (by decide +kernel) (by exact hfr_of rfl) (by exact Sees.frees ["load", "part"] [("m", 1), ("b", 2)] (fr_cons ⟨rfl, rfl⟩ (fr_cons ⟨rfl, rfl⟩ fr_nil))) (@pi_list _ _ _ _ (pv 0)) (fun _ _ _ _ _ => @pg_tup0 _ _ _ _ _ (2) (by rfl) (@pgs_cons _ _ _ _ _ (@pg_name _ _ (0) _ (by exact (show (["load", "part", "m", "b"] : List Str).Nodup by decide +kernel)) (by rfl) (by first | exact Or.inl rfl | exact Or.inr rfl) (by first|rfl|decide|exact .inl rfl|exact .inr rfl|(intros; rfl))) (@pgs_cons _ _ _ _ _ (@pg_name _ _ (1) _ (by exact (show (["load", "part", "m", "b"] : List Str).Nodup by decide +kernel)) (by rfl) (by first | exact Or.inl rfl | exact Or.inr rfl) (by first|rfl|decide|exact .inl rfl|exact .inr rfl|(intros; rfl))) pgs_nil (by first|rfl|decide|exact .inl rfl|exact .inr rfl|(intros; rfl))) (by first|rfl|decide|exact .inl rfl|exact .inr rfl|(intros; rfl))) (by first|rfl|decide|exact .inl rfl|exact .inr rfl|(intros; rfl)) (by first|rfl|decide|exact .inl rfl|exact .inr rfl|(intros; rfl))) (fun _ _ _ _ _ => pts_nil) (fun _ _ _ _ _ => (@pe_callTy _ _ _ _ _ _ _ _ _ call_int1 (by rfl) (by exact T.z_int) (by exact bt_int) (@pa_consN _ _ _ _ _ (@pe_cmpR _ _ _ _ _ _ _ _ op_ge (@cc _ _ _ _ _ _ _ _ _ _ (by exact C_boxes_with) (by exact (hr.mono (by decide))) (@pa_consN _ _ _ _ _ (pv 0) (@pa_consN _ _ _ _ _ (pv 2) pa_nil (by first|rfl|decide|exact .inl rfl|exact .inr rfl|(intros; rfl))) (by first|rfl|decide|exact .inl rfl|exact .inr rfl|(intros; rfl))) (by first|rfl|decide|exact .inl rfl|exact .inr rfl|(intros; rfl)) (by first|rfl|decide|exact .inl rfl|exact .inr rfl|(intros; rfl)) (by first|rfl|decide|exact .inl rfl|exact .inr rfl|(intros; rfl)) (by first|rfl|decide|exact .inl rfl|exact .inr rfl|(intros; rfl))) (pv 3) (by exact (nomark _))) pa_nil (by first|rfl|decide|exact .inl rfl|exact .inr rfl|(intros; rfl))) (by first|rfl|decide|exact .inl rfl|exact .inr rfl|(intros; rfl)) (by first|rfl|decide|exact .inl rfl|exact .inr rfl|(intros; rfl)) (by first|rfl|decide|exact .inl rfl|exact .inr rfl|(intros; rfl)) (by first|rfl|decide|exact .inl rfl|exact .inr rfl|(intros; rfl)))) (by first|rfl|decide|exact .inl rfl|exact .inr rfl|(intros; rfl))) pa_nil (by first|rfl|decide|exact .inl rfl|exact .inr rfl|(intros; rfl))) (by first|rfl|decide|exact .inl rfl|exact .inr rfl|(intros; rfl))) (by first|rfl|decide|exact .inl rfl|exact .inr rfl|(intros; rfl)) (by first|rfl|decide|exact .inl rfl|exact .inr rfl|(intros; rfl)) (by first|rfl|decide|exact .inl rfl|exact .inr rfl|(intros; rfl)) (by first|rfl|decide|exact .inl rfl|exact .inr rfl|(intros; rfl))))), ?_⟩
  refine ⟨_, rfl, _, rfl, l, rfl, ⟨_, SqL.of hl⟩, comp_Y (yields_lst (xs := xs)) (fun p i ys σ' H' => Same H H' ∧ (∃ o1 o2, σ' = [o1, o2, some (.int m), some (.int bb)]) ∧ ys = iv ((nmF (gMany m bb) rs).take i)) (by omega) ?_ ?_ ?_ ?_⟩
  · exact fun p hp => ⟨same_new hp _, ⟨_, _, rfl⟩, rfl⟩
  · rintro p i ys σ' H' hp ⟨s', _⟩
    exact s' _ _ hl
  · rintro p i ys σ' H' x' H'' hp hi hl' ⟨s', ⟨o1, o2, rfl⟩, rfl⟩ hp' ⟨rfl, hx'⟩ Q1 Q2 h1 h2
    obtain ⟨r, hri, a, b, v2, rfl, ha, hb, hv⟩ := paired_get rws hx'
    obtain ⟨r1, r2, r3⟩ := LR r (List.mem_of_getElem? hri)
    refine ⟨a, _, rfl, s' _ _ ha, rfl, _, _, rfl, _, _, rfl, rfl, ?_⟩
    refine tT_ (iteT ⟨_, rfl, _, rfl, b, r.1, m, rfl, s' _ _ hb, r2, fun H5 s5 => ⟨_, rfl, _, _, rfl, rfl, .inr ⟨_, rfl, h1 _ _ _ (s5 _ _ hp') ⟨same_updN hp (s'.trans s5) _, ⟨_, _, rfl⟩, ?_⟩⟩⟩⟩)
    rw [nm_take hri]
    unfold gMany
    by_cases z : bb ≤ gBox m r.1
    · rw [if_pos z, if_pos (decide_eq_true z)]
    · rw [if_neg z, if_neg (fun q => z (of_decide_eq_true q))]
  · rintro p ys σ' H' hp ⟨s', _, rfl⟩ hp' hl'
    rw [List.take_of_length_le (by rw [nm_len]; omega)] at hp'
    exact ⟨l, p, rs, nmF (gMany m bb) rs, rfl, spl.same s', M, hp', nm_len _ _, fun y hy => by obtain ⟨r, hr', rfl⟩ := List.mem_map.mp hy; exact bt_small gMany_small, fun v H5 s5 pv => k v H5 (s'.trans s5) pv⟩
def spFulls : Sp := fun vs H Q E => ∃ m : Int, spMn (gMany m 1) [.int m] vs H Q E
theorem ok_fulls (C_many_share : Cal P w K mg base "many_share" ["spread", "m", "b"] 4 spMany) (F : FunAt K mg "fullest_share" ["spread", "m"] s_fullest_share) : Cal P w K mg base "fullest_share" ["spread", "m"] 5 spFulls := by
  have S := sc_fullest_share
  refine F.cal sc_fullest_share (fun vs H Q E h => ?_) (fun f cdv A outer s H vs Q E hr h => ?_)
  · obtain ⟨m, l, rs, rfl, _⟩ := h; rfl
  obtain ⟨m, l, rs, rfl, spl, M, LR, k⟩ := h
  refine ⟨_, (@pss_one _ _ _ (@ps_ret _ _ _ _ (@cc _ _ _ _ _ _ _ _ _ _ (by exact C_many_share) (by exact (hr.mono (by decide))) (@pa_consN _ _ _ _ _ (pv 0) (@pa_consN _ _ _ _ _ (pv 1) (@pa_consN _ _ _ _ _ pe_int pa_nil (by first|rfl|decide|exact .inl rfl|exact .inr rfl|(intros; rfl))) (by first|rfl|decide|exact .inl rfl|exact .inr rfl|(intros; rfl))) (by first|rfl|decide|exact .inl rfl|exact .inr rfl|(intros; rfl))) (by first|rfl|decide|exact .inl rfl|exact .inr rfl|(intros; rfl)) (by first|rfl|decide|exact .inl rfl|exact .inr rfl|(intros; rfl)) (by first|rfl|decide|exact .inl rfl|exact .inr rfl|(intros; rfl)) (by first|rfl|decide|exact .inl rfl|exact .inr rfl|(intros; rfl))))), ?_⟩
  exact ⟨_, rfl, _, rfl, m, 1, l, rs, rfl, spl, M, LR, k⟩
end
end My

set_option Elab.async false
set_option linter.all false
set_option maxRecDepth 100000
set_option maxHeartbeats 1000000
namespace My
open PySem L2 MA Srt
theorem thaw_same {H H1 : Hp} {d : Addr} {o : Obj} {m : Mp} (hd : H d = some (dI m)) (s1 : Same (upd H d (.frz o (dI m))) H1) : Same H (upd H1 d (dI m)) := fun b u e => by
  by_cases z : b = d
  · rw [z, upd_same]; rw [z, hd] at e; exact e
  · rw [upd_ne z]; exact s1 _ _ (by rw [upd_ne z]; exact e)
theorem dg {H : Hp} {d b : Addr} {m : Mp} {k : List Int} (e : Rd H d (dI m)) (hb : H b = some (.tup (iv k))) (hk : k ∈ keysM m) : DGet H d (.ref b) (some (.int (getM m k))) := by
  have := DGet.tz e (key_iv hb)
  rwa [valV_some hk] at this
def dotM (m g : Mp) : Int := (m.map fun p => p.2 * getM g p.1).sum
section
variable {P : Program} {w : World} {K : PySem.W.Frag} {mg : Str → Option Value} {base : Heap}
/-- a table that a mean may be taken of, and what it is worth -/
structure MnM (m g : Mp) : Prop where
  nd : (keysM m).Nodup
  few : m.length ≤ 100
  ks : ∀ k ∈ keysM m, k ∈ keysM g
  b1 : ∀ x ∈ valsM m, Bt 20000 x
  b2 : ∀ k ∈ keysM m, Bt 20000 (getM g k)
  d0 : 0 ≤ dotM m g
  s0 : 0 < (valsM m).sum
  sb : Bt 8000 (valsM m).sum
def spLMean : Sp := fun vs H Q _ => ∃ (d e : Addr) (m g : Mp), vs = [.ref d, .ref e] ∧ H d = some (dI m) ∧ H e = some (dI g) ∧ d ≠ e ∧ MnM m g ∧ ∀ v H', Same H H' → PrAt H' v (lowF (dotM m g) (valsM m).sum) → Q v H'
theorem ok_lmean (T : Txt2 mg) (C_l_lowest : Cal P w K mg base "_law_lowest" ["_law_top", "_law_bottom"] 2 spLowest) (F : FunAt K mg "_law_mean" ["_law_found", "_law_worths"] s_l_mean) : Cal P w K mg base "_law_mean" ["_law_found", "_law_worths"] 3 spLMean := by
  have S := sc_l_mean
  refine F.cal sc_l_mean (fun vs H Q E h => ?_) (fun f cdv A outer s H vs Q E hr h => ?_)
  · obtain ⟨d, e, m, g, rfl, _⟩ := h; rfl
  obtain ⟨d, e, m, g, rfl, hd, he, de, M, k⟩ := h
  have hu1 := hu_of hr
  refine ⟨_, (@pss_one _ _ _ (@ps_ret _ _ _ _ (@cc _ _ _ _ _ _ _ _ _ _ (by exact C_l_lowest) (by exact (hr.mono (by decide))) (@pa_consN _ _ _ _ _ (@pe_callB _ _ _ _ _ _ _ _ _ (call_sum (by rfl)) (by rfl) (by exact T.z_sum) (by exact bt_sum) (@pa_consN _ _ _ _ _ (@pe_thaw _ _ _ (@pe_comp _ _ _ _ _ _ _ _ _ _ _ _ _ (by rfl) (by exact (fun _ _ h => h)) (by decide +kernel) (by rfl) (by decide +kernel) (by exact hfr_of rfl) (by exact Sees.frees ["_law_load_here"] [("_law_found", 0), ("_law_worths", 1)] (fr_cons ⟨rfl, rfl⟩ (fr_cons ⟨rfl, rfl⟩ fr_nil))) (@pi_keysT _ _ _ _ (pv 0)) (fun _ _ _ _ _ => @pg_name _ _ (0) _ (by exact (show (["_law_load_here", "_law_found", "_law_worths"] : List Str).Nodup by decide +kernel)) (by rfl) (by first | exact Or.inl rfl | exact Or.inr rfl) (by first|rfl|decide|exact .inl rfl|exact .inr rfl|(intros; rfl))) (fun _ _ _ _ _ => pts_nil) (fun _ _ _ _ _ => (@pe_op _ _ _ _ _ _ _ _ op_mulB (@pe_dget _ _ _ _ _ _ (by exact hu1) (pv 1) (pv 0) (by exact (fun _ _ => rfl))) (@pe_dget _ _ _ _ _ _ (by exact hu1) (pv 2) (pv 0) (by exact (fun _ _ => rfl))))) (by first|rfl|decide|exact .inl rfl|exact .inr rfl|(intros; rfl)))) pa_nil (by first|rfl|decide|exact .inl rfl|exact .inr rfl|(intros; rfl))) (by first|rfl|decide|exact .inl rfl|exact .inr rfl|(intros; rfl)) (by first|rfl|decide|exact .inl rfl|exact .inr rfl|(intros; rfl)) (by first|rfl|decide|exact .inl rfl|exact .inr rfl|(intros; rfl)) (by first|rfl|decide|exact .inl rfl|exact .inr rfl|(intros; rfl))) (@pa_consN _ _ _ _ _ (@pe_callB _ _ _ _ _ _ _ _ _ (call_sumV (by rfl)) (by rfl) (by exact T.z_sum) (by exact bt_sum) (@pa_consN _ _ _ _ _ (@pe_values _ _ _ _ _ (pv 0) (by first|rfl|decide|exact .inl rfl|exact .inr rfl|(intros; rfl)) (by first|rfl|decide|exact .inl rfl|exact .inr rfl|(intros; rfl))) pa_nil (by first|rfl|decide|exact .inl rfl|exact .inr rfl|(intros; rfl))) (by first|rfl|decide|exact .inl rfl|exact .inr rfl|(intros; rfl)) (by first|rfl|decide|exact .inl rfl|exact .inr rfl|(intros; rfl)) (by first|rfl|decide|exact .inl rfl|exact .inr rfl|(intros; rfl)) (by first|rfl|decide|exact .inl rfl|exact .inr rfl|(intros; rfl))) pa_nil (by first|rfl|decide|exact .inl rfl|exact .inr rfl|(intros; rfl))) (by first|rfl|decide|exact .inl rfl|exact .inr rfl|(intros; rfl))) (by first|rfl|decide|exact .inl rfl|exact .inr rfl|(intros; rfl)) (by first|rfl|decide|exact .inl rfl|exact .inr rfl|(intros; rfl)) (by first|rfl|decide|exact .inl rfl|exact .inr rfl|(intros; rfl)) (by first|rfl|decide|exact .inl rfl|exact .inr rfl|(intros; rfl))))), ?_⟩
  refine ⟨d, _, hd, ?_⟩
  refine ⟨_, rfl, d, _, rfl, .inl ⟨hd, fun o => ?_⟩⟩
  have he1 : upd H d (.frz o (dI m)) e = some (dI g) := by rw [upd_ne (Ne.symm de)]; exact he
  refine comp_Y (yields_keysT (kws := m.map fI)) (fun p i ys σ' H' => Same (upd H d (.frz o (dI m))) H' ∧ (∃ o1, σ' = [o1, some (.ref d), some (.ref e)]) ∧ ys = iv ((m.map fun p => p.2 * getM g p.1).take i)) (by simp; have := M.few; omega) ?_ ?_ ?_ ?_
  · exact fun p hp => ⟨same_new hp _, ⟨_, rfl⟩, rfl⟩
  · rintro p i ys σ' H' hp ⟨s', _⟩
    rw [dI_kI]
    exact s' _ _ upd_same
  · rintro p i ys σ' H1 x H2 hp hi hl' ⟨s1, ⟨o1, rfl⟩, rfl⟩ hp' ⟨rfl, b, kw, rfl, hb, hkw⟩ Q1 Q2 h1 h2
    rw [List.getElem?_map, Option.map_eq_some_iff] at hkw
    obtain ⟨q, hq, rfl⟩ := hkw
    change H2 b = some (.tup (iv q.1)) at hb
    have qm : q ∈ m := List.mem_of_getElem? hq
    have kq : q.1 ∈ keysM m := List.mem_map_of_mem qm
    have hzd := s1 _ _ (upd_same (H := H) (a := d) (o := .frz o (dI m)))
    refine gN_ (tT_ (iteT ⟨_, rfl, _, rfl, d, _, rfl, dg (.inr ⟨_, hzd⟩) hb kq, _, rfl, _, rfl, e, _, rfl, dg (.inl (s1 _ _ he1)) hb (M.ks _ kq), _, _, rfl, rfl, ⟨?_, M.b2 _ kq⟩, h1 _ _ _ hp' ⟨same_updN hp s1 _, ⟨_, rfl⟩, ?_⟩⟩))
    · rw [getM_mem M.nd qm]; exact M.b1 _ (List.mem_map_of_mem qm)
    · rw [take_snoc (x := q.2 * getM g q.1) (by rw [List.getElem?_map, hq]; rfl), getM_mem M.nd qm]
      show _ = List.map V.int _
      rw [List.map_append]; rfl
  · rintro p ys σ' H1 hp ⟨s1, _, rfl⟩ hp' hl'
    refine ⟨o, _, s1 _ _ upd_same, ?_⟩
    have pd : p ≠ d := fun z => by rw [z, upd_same] at hp; cases hp
    have sH := thaw_same hd s1
    rw [List.take_of_length_le (by simp)] at hp'
    refine ⟨p, _, rfl, SqL.of (by rw [upd_ne pd]; exact hp'), ?_⟩
    have hd1 : upd H1 d (dI m) d = some (dI m) := upd_same
    refine ⟨_, rfl, d, _, rfl, .inl hd1, fun v hv => ?_⟩
    have s2 := same_new hv (vaV v d)
    refine ⟨v, d, _, valsM m, rfl, upd_same, .inl (s2 _ _ hd1), by unfold valsM; rw [List.map_map]; show _ = List.map V.int _; rw [List.map_map]; rfl, ?_⟩
    exact ⟨_, _, rfl, M.d0, M.s0, M.sb, fun v' H' s' pv => k v' H' (sH.trans (s2.trans s')) pv⟩
end
end My

set_option Elab.async false
set_option linter.all false
set_option maxRecDepth 100000
set_option maxHeartbeats 1000000
namespace My
open PySem L2 MA Srt
def SmB (p : Addr) (H H' : Hp) : Prop := ∀ b u, b ≠ p → H b = some u → H' b = some u
theorem SmB.refl (p : Addr) (H : Hp) : SmB p H H := fun _ _ _ e => e
theorem SmB.trans {p : Addr} {H H1 H2 : Hp} (a : SmB p H H1) (b : SmB p H1 H2) : SmB p H H2 := fun c u n e => b c u n (a c u n e)
theorem SmB.of {p : Addr} {H H' : Hp} (s : Same H H') : SmB p H H' := fun b u _ e => s b u e
theorem SmB.upd {p : Addr} {H H' : Hp} (s : SmB p H H') (o : HO) : SmB p H (L2.upd H' p o) := fun b u n e => by rw [upd_ne n]; exact s b u n e
theorem max_fall {l : List Int} (pw : l.Pairwise (· ≥ ·)) {M : Int} (hM : M ∈ l) (h : ∀ a ∈ l, a ≤ M) : M = gFull l := by
  cases l with
  | nil => simp at hM
  | cons a t =>
    have h1 := h a (by simp)
    show M = a
    rcases List.mem_cons.mp hM with e | e
    · exact e
    · have := (List.pairwise_cons.mp pw).1 M e; omega
theorem min_fall {l : List Int} (pw : l.Pairwise (· ≥ ·)) {M : Int} (hM : M ∈ l) (h : ∀ a ∈ l, M ≤ a) : M = gEmpt l := by
  rcases List.eq_nil_or_concat l with e | ⟨l', x, e⟩
  · rw [e] at hM; simp at hM
  · rw [List.concat_eq_append] at e
    subst e
    have e2 : gEmpt (l' ++ [x]) = x := by simp [gEmpt]
    rw [e2]
    have h1 := h x (by simp)
    rcases List.mem_append.mp hM with z | z
    · have := (List.pairwise_append.mp pw).2.2 M z x (by simp); omega
    · simpa using z
/-- loads as keys -/
def LdK (m : Mp) : Prop := ∀ k ∈ keysM m, k ≠ [] ∧ k.length ≤ 6 ∧ (∀ x ∈ k, 0 ≤ x ∧ x ≤ 40) ∧ k.Pairwise (· ≥ ·)
def wrF (g : List Int → Int) (m : Mp) : Mp := m.map fun p => (p.1, g p.1)
theorem wr_keys (g : List Int → Int) (m : Mp) : keysM (wrF g m) = keysM m := by unfold keysM wrF; rw [List.map_map]; rfl
theorem put_new {m : Mp} {k : List Int} {v : Int} (h : k ∉ keysM m) : putM m k v = m ++ [(k, v)] := by
  unfold putM; rw [if_neg fun z => h (hasM_iff.mp z)]
theorem wr_put {g : List Int → Int} {m : Mp} (nd : (keysM m).Nodup) {i : Nat} {p : List Int × Int} (hp : m[i]? = some p) : putM (wrF g (m.take i)) p.1 (g p.1) = wrF g (m.take (i + 1)) := by
  rw [put_new, take_snoc hp]
  · unfold wrF; rw [List.map_append]; rfl
  · rw [wr_keys]
    intro z
    have e : keysM m = keysM (m.take i) ++ p.1 :: keysM (m.drop (i + 1)) := by
      have : m = m.take i ++ p :: m.drop (i + 1) := by
        obtain ⟨h1, h2⟩ := List.getElem?_eq_some_iff.mp hp
        rw [← h2, ← List.drop_eq_getElem_cons h1, List.take_append_drop]
      conv => lhs; rw [this]
      simp [keysM]
    rw [e] at nd
    exact (List.nodup_append.mp nd).2.2 _ z _ (by simp) rfl
theorem wr_get {g : List Int → Int} {m : Mp} (nd : (keysM m).Nodup) {k : List Int} (hk : k ∈ keysM m) : getM (wrF g m) k = g k := by
  obtain ⟨p, hp, rfl⟩ := List.mem_map.mp hk
  exact getM_mem (p := (p.1, g p.1)) (by rw [wr_keys]; exact nd) (List.mem_map.mpr ⟨p, hp, rfl⟩)
theorem word_val {x : Str} (hx : isW x) (a b c s : Int) : valV (mergeK [] [((.inr "fullest" : Key), V.int a), (.inr "emptiest", .int b), (.inr "gap", .int c), (.inr "squares", .int s)]) (.inr x) = some (.int (if x = "fullest" then a else if x = "emptiest" then b else if x = "gap" then c else s)) := by
  rcases hx with rfl | rfl | rfl | rfl <;> rfl
theorem gW_if (x : Str) (l : List Int) : gW x l = if x = "fullest" then gFull l else if x = "emptiest" then gEmpt l else if x = "gap" then gFull l - gEmpt l else (l.map fun z => z * z).sum := by
  unfold gW
  split
  · rfl
  · split
    · rfl
    · split <;> rfl
section
variable {P : Program} {w : World} {K : PySem.W.Frag} {mg : Str → Option Value} {base : Heap}
def spBy : Sp := fun vs H Q _ => ∃ (d : Addr) (x : Str) (m : Mp), vs = [.ref d, .str x] ∧ isW x ∧ H d = some (dI m) ∧ (keysM m).Nodup ∧ m.length ≤ 100 ∧ LdK m ∧ ∀ e H', Same H H' → H e = none → H' e = some (dI (wrF (gW x) m)) → Q (.ref e) H'
theorem ok_by (T : Txt2 mg) (F : FunAt K mg "_law_by" ["_law_found", "_law_word"] s_l_by) : Cal P w K mg base "_law_by" ["_law_found", "_law_word"] 1 spBy := by
  have S := sc_l_by
  refine F.cal sc_l_by (fun vs H Q E h => ?_) (fun f cdv A outer s H vs Q E hr h => ?_)
  · obtain ⟨d, x, m, rfl, _⟩ := h; rfl
  obtain ⟨d, x, m, rfl, hx, hd, nd, hm, LK, k⟩ := h
  have hu1 := hu_of hr
  refine ⟨_, (@pss_cons _ _ _ _ _ (@ps_set _ _ (2) _ _ _ _ (by exact S.nd) (by rfl) (by first | exact Or.inl rfl | exact Or.inr rfl) pe_dnewT (by first|rfl|decide|exact .inl rfl|exact .inr rfl|(intros; rfl)) (by first|rfl|decide|exact .inl rfl|exact .inr rfl|(intros; rfl))) (@pss_cons _ _ _ _ _ (@ps_thaw _ _ _ (@ps_for _ _ _ _ _ _ _ _ (by exact PassesOwn.never) (by rfl) (@pi_keysT _ _ _ _ (pv 0)) (@pg_name _ _ (3) _ (by exact S.nd) (by rfl) (by first | exact Or.inl rfl | exact Or.inr rfl) (by first|rfl|decide|exact .inl rfl|exact .inr rfl|(intros; rfl))) (@pss_cons _ _ _ _ _ (@ps_set _ _ (4) _ _ _ _ (by exact S.nd) (by rfl) (by first | exact Or.inl rfl | exact Or.inr rfl) pe_int (by first|rfl|decide|exact .inl rfl|exact .inr rfl|(intros; rfl)) (by first|rfl|decide|exact .inl rfl|exact .inr rfl|(intros; rfl))) (@pss_cons _ _ _ _ _ (@ps_for _ _ _ _ _ _ _ _ (by exact PassesOwn.never) (by rfl) (@pi_tup _ _ _ _ (pv 3)) (@pg_name _ _ (5) _ (by exact S.nd) (by rfl) (by first | exact Or.inl rfl | exact Or.inr rfl) (by first|rfl|decide|exact .inl rfl|exact .inr rfl|(intros; rfl))) (@pss_one _ _ _ (@ps_set _ _ (4) _ _ _ _ (by exact S.nd) (by rfl) (by first | exact Or.inl rfl | exact Or.inr rfl) (@pe_op _ _ _ _ _ _ _ _ op_add (pv 4) (@pe_op _ _ _ _ _ _ _ _ op_mulB (pv 5) (pv 5))) (by first|rfl|decide|exact .inl rfl|exact .inr rfl|(intros; rfl)) (by first|rfl|decide|exact .inl rfl|exact .inr rfl|(intros; rfl)))) (by first|rfl|decide|exact .inl rfl|exact .inr rfl|(intros; rfl))) (@pss_cons _ _ _ _ _ (@ps_set _ _ (6) _ _ _ _ (by exact S.nd) (by rfl) (by first | exact Or.inl rfl | exact Or.inr rfl) (@pe_disp _ _ _ _ _ (@pps_cons _ _ _ _ _ _ _ _ _ pe_str (@pe_callB _ _ _ _ _ _ _ _ _ (call_maxB false (by rfl)) (by rfl) (by exact T.z_max) (by exact bt_max) (@pa_consN _ _ _ _ _ (pv 3) pa_nil (by first|rfl|decide|exact .inl rfl|exact .inr rfl|(intros; rfl))) (by first|rfl|decide|exact .inl rfl|exact .inr rfl|(intros; rfl)) (by first|rfl|decide|exact .inl rfl|exact .inr rfl|(intros; rfl)) (by first|rfl|decide|exact .inl rfl|exact .inr rfl|(intros; rfl)) (by first|rfl|decide|exact .inl rfl|exact .inr rfl|(intros; rfl))) (@pps_cons _ _ _ _ _ _ _ _ _ pe_str (@pe_callB _ _ _ _ _ _ _ _ _ (call_minB false (by rfl)) (by rfl) (by exact T.z_min) (by exact bt_min) (@pa_consN _ _ _ _ _ (pv 3) pa_nil (by first|rfl|decide|exact .inl rfl|exact .inr rfl|(intros; rfl))) (by first|rfl|decide|exact .inl rfl|exact .inr rfl|(intros; rfl)) (by first|rfl|decide|exact .inl rfl|exact .inr rfl|(intros; rfl)) (by first|rfl|decide|exact .inl rfl|exact .inr rfl|(intros; rfl)) (by first|rfl|decide|exact .inl rfl|exact .inr rfl|(intros; rfl))) (@pps_cons _ _ _ _ _ _ _ _ _ pe_str (@pe_op _ _ _ _ _ _ _ _ op_sub (@pe_callB _ _ _ _ _ _ _ _ _ (call_maxB false (by rfl)) (by rfl) (by exact T.z_max) (by exact bt_max) (@pa_consN _ _ _ _ _ (pv 3) pa_nil (by first|rfl|decide|exact .inl rfl|exact .inr rfl|(intros; rfl))) (by first|rfl|decide|exact .inl rfl|exact .inr rfl|(intros; rfl)) (by first|rfl|decide|exact .inl rfl|exact .inr rfl|(intros; rfl)) (by first|rfl|decide|exact .inl rfl|exact .inr rfl|(intros; rfl)) (by first|rfl|decide|exact .inl rfl|exact .inr rfl|(intros; rfl))) (@pe_callB _ _ _ _ _ _ _ _ _ (call_minB false (by rfl)) (by rfl) (by exact T.z_min) (by exact bt_min) (@pa_consN _ _ _ _ _ (pv 3) pa_nil (by first|rfl|decide|exact .inl rfl|exact .inr rfl|(intros; rfl))) (by first|rfl|decide|exact .inl rfl|exact .inr rfl|(intros; rfl)) (by first|rfl|decide|exact .inl rfl|exact .inr rfl|(intros; rfl)) (by first|rfl|decide|exact .inl rfl|exact .inr rfl|(intros; rfl)) (by first|rfl|decide|exact .inl rfl|exact .inr rfl|(intros; rfl)))) (@pps_cons _ _ _ _ _ _ _ _ _ pe_str (pv 4) pps_nil)))) (by rfl) (by rfl) (by simp) (by decide)) (by first|rfl|decide|exact .inl rfl|exact .inr rfl|(intros; rfl)) (by first|rfl|decide|exact .inl rfl|exact .inr rfl|(intros; rfl))) (@pss_one _ _ _ (@ps_dput _ _ _ _ _ _ _ _ _ (by exact hu1) (pv 2) (pv 3) (@pe_dget _ _ _ _ _ _ (by exact hu1) (pv 6) (pv 1) (by exact (fun _ _ => rfl))) (by rfl)))))) (by first|rfl|decide|exact .inl rfl|exact .inr rfl|(intros; rfl)))) (@pss_one _ _ _ (@ps_ret _ _ _ _ (pv 2))))), ?_⟩
  intro e he
  have hed : e ≠ d := Ne.symm (ne_of_none hd he)
  have hd1 : upd H e (.dT []) d = some (dI m) := by rw [upd_ne (Ne.symm hed)]; exact hd
  refine ⟨d, _, hd1, _, rfl, d, _, rfl, .inl ⟨hd1, fun o => for_Y (yields_keysT (kws := m.map fI)) (fun i σ H' => SmB e (upd (upd H e (.dT [])) d (.frz o (dI m))) H' ∧ H' e = some (dI (wrF (gW x) (m.take i))) ∧ ∃ o3 o4 o5 o6, σ = [some (.ref d), some (.str x), some (.ref e), o3, o4, o5, o6]) ?_ ?_ ?_ ?_⟩⟩
  · exact ⟨.refl _ _, by rw [upd_ne hed, upd_same]; rfl, _, _, _, _, rfl⟩
  · rintro i σ H' ⟨s', _⟩
    rw [dI_kI]
    exact s' _ _ (Ne.symm hed) upd_same
  · rintro i y σ H1 H2 hi ⟨s1, hE, o3, o4, o5, o6, rfl⟩ ⟨rfl, b, kw, rfl, hb, hkw⟩
    rw [List.getElem?_map, Option.map_eq_some_iff] at hkw
    obtain ⟨p, hp, rfl⟩ := hkw
    have pm : p ∈ m := List.mem_of_getElem? hp
    change H2 b = some (.tup (iv p.1)) at hb
    obtain ⟨k1, k2, k3, k4⟩ := LK p.1 (List.mem_map_of_mem pm)
    refine gN_ ?_
    refine ⟨_, rfl, b, rfl, ⟨_, SqT.of hb⟩, for_Y (yields_tup (xs := iv p.1)) (fun j σ H' => H' = H2 ∧ ∃ o5, σ = [some (.ref d), some (.str x), some (.ref e), some (.ref b), some (.int ((p.1.map fun z => z * z).take j).sum), o5, o6]) ?_ ?_ ?_ ?_⟩
    · exact ⟨rfl, _, rfl⟩
    · rintro j σ H' ⟨rfl, _⟩
      exact hb
    · rintro j z σ H3 H4 hj ⟨rfl, o5', rfl⟩ ⟨rfl, hz⟩
      rw [List.getElem?_map, Option.map_eq_some_iff] at hz
      obtain ⟨n, hn, rfl⟩ := hz
      have n40 := k3 n (List.mem_of_getElem? hn)
      have nb : Bt 20000 n := (Bt.of_lt (n := 6) (show n.natAbs < 64 by omega)).mono (by decide)
      refine gN_ ⟨_, rfl, _, rfl, _, rfl, _, _, rfl, rfl, ⟨nb, nb⟩, _, _, rfl, rfl, rfl, some (.int n), ?_⟩
      rw [take_snoc (x := n * n) (by rw [List.getElem?_map, hn]; rfl), List.sum_append]
      simp [List.sum_cons]
    · rintro σ H3 ⟨rfl, o5', rfl⟩
      have e0 : List.take (iv p.1).length (p.1.map fun z => z * z) = p.1.map fun z => z * z := List.take_of_length_le (by simp)
      rw [e0]
      intro q hq
      have s4 := same_new hq (.dK [])
      have hb4 := s4 _ _ hb
      refine ⟨_, rfl, b, p.1, rfl, SqB.of (b := false) hb4, k1, fun M1 m1 n1 => ?_⟩
      refine ⟨_, rfl, b, p.1, rfl, SqB.of (b := false) hb4, k1, fun M2 m2 n2 => ?_⟩
      refine ⟨_, rfl, b, p.1, rfl, SqB.of (b := false) hb4, k1, fun M3 m3 n3 => ?_⟩
      refine ⟨_, rfl, b, p.1, rfl, SqB.of (b := false) hb4, k1, fun M4 m4 n4 => ?_⟩
      have e1 := max_fall k4 m1 n1
      have e2 := min_fall k4 m2 n2
      have e3 := max_fall k4 m3 n3
      have e4 := min_fall k4 m4 n4
      subst e1 e2 e3 e4
      refine ⟨_, _, rfl, rfl, _, rfl, upd_same, [((.inr "fullest" : Key), V.int (gFull p.1)), (.inr "emptiest", .int (gEmpt p.1)), (.inr "gap", .int (gFull p.1 - gEmpt p.1)), (.inr "squares", .int (p.1.map fun z => z * z).sum)], rfl, (by show 4 ≤ 15; decide), ?_⟩
      rw [upd_upd]
      have s5 := same_new hq (.dK (mergeK [] [((.inr "fullest" : Key), V.int (gFull p.1)), (.inr "emptiest", .int (gEmpt p.1)), (.inr "gap", .int (gFull p.1 - gEmpt p.1)), (.inr "squares", .int (p.1.map fun z => z * z).sum)]))
      have gq : ∀ H' : Hp, H' q = some (.dK (mergeK [] [((.inr "fullest" : Key), V.int (gFull p.1)), (.inr "emptiest", .int (gEmpt p.1)), (.inr "gap", .int (gFull p.1 - gEmpt p.1)), (.inr "squares", .int (p.1.map fun z => z * z).sum)])) → DGet H' q (.str x) (some (.int (gW x p.1))) := fun H' hH' => by
        have := DGet.k (k := .inr x) hH'
        rw [word_val hx, ← gW_if] at this
        exact this
      refine ⟨_, rfl, _, rfl, q, _, rfl, gq _ upd_same, _, rfl, _, rfl, e, _, rfl, DPut.t (s5 _ _ hE) (key_iv (s5 _ _ hb)) ?_, ?_⟩
      · rw [List.length_map, sizeLine_eq]; simp [wrF]; omega
      rw [putK_dI, wr_put nd hp]
      exact ⟨(s1.trans (.of s5)).upd _, upd_same, _, _, _, _, rfl⟩
  · rintro σ H1 ⟨s1, hE, o3, o4, o5, o6, rfl⟩
    have hml : (m.map fI).length = m.length := by simp
    rw [hml, List.take_length] at hE
    refine ⟨o, _, s1 _ _ (Ne.symm hed) upd_same, ?_⟩
    refine ⟨_, rfl, k e _ (fun b u eb => ?_) he (by rw [upd_ne hed]; exact hE)⟩
    have be : b ≠ e := ne_of_none eb he
    by_cases z : b = d
    · rw [z, upd_same]; rw [z, hd] at eb; exact eb
    · rw [upd_ne z]; exact s1 _ _ be (by rw [upd_ne z, upd_ne be]; exact eb)
end
end My

set_option Elab.async false
set_option linter.all false
set_option maxRecDepth 100000
set_option maxHeartbeats 1000000
namespace My
open PySem L2 MA Srt
theorem zip_maps {α : Type} (f h : α → Int) : ∀ l : List α, List.zipWith (· * ·) (l.map f) (l.map h) = l.map fun a => f a * h a
  | [] => rfl
  | a :: l => by simp only [List.map_cons, List.zipWith_cons_cons, zip_maps f h l]
theorem dot_wr {g : List Int → Int} {F : Mp} (nd : (keysM F).Nodup) : dotM F (wrF g F) = ((keysM F).map fun k => getM F k * g k).sum := by
  unfold dotM keysM
  rw [List.map_map]
  congr 1
  refine List.map_congr_left fun p hp => ?_
  show p.2 * getM (wrF g F) p.1 = getM F p.1 * g p.1
  rw [wr_get nd (List.mem_map_of_mem hp), getM_mem nd hp]
theorem den_dvd {qs : List Rat} : ∀ q ∈ qs, (q.den : Int) ∣ botF qs := by
  unfold botF
  exact (lq_fold qs 1 (by decide)).2.2
theorem mean_eq {g : List Int → Int} {F : Mp} (nd : (keysM F).Nodup) {W : Int} (hW : 0 < W) : mnF (sprF F W) (nmF g (sprF F W)) = Rat.divInt (dotM F (wrF g F)) W := by
  have b0 := Mn.b0 (sprF F W)
  unfold mnF
  rw [Rat.divInt_eq_divInt_iff (by omega) (by omega), dot_wr nd]
  unfold dotZ tpF nmF
  rw [List.map_map, zip_maps]
  have hd := den_dvd (qs := (sprF F W).map (·.2))
  generalize botF ((sprF F W).map (·.2)) = B at hd b0
  have e1 : ((sprF F W).map fun a => ((fun q : Rat => q.num * (B / (q.den : Int))) ∘ fun x => x.2) a * g a.1) = (rise (keysM F)).map fun k => (Rat.divInt (getM F k) W).num * (B / ((Rat.divInt (getM F k) W).den : Int)) * g k := by
    unfold sprF; rw [List.map_map]; rfl
  rw [e1, ← sum_mul, ← sum_mul, List.map_map, List.map_map]
  have e2 : (rise (keysM F)).map ((fun a => a * W) ∘ fun k => (Rat.divInt (getM F k) W).num * (B / ((Rat.divInt (getM F k) W).den : Int)) * g k) = (rise (keysM F)).map ((fun a => a * B) ∘ fun k => getM F k * g k) := by
    refine List.map_congr_left fun k hk => ?_
    show (Rat.divInt (getM F k) W).num * (B / ((Rat.divInt (getM F k) W).den : Int)) * g k * W = getM F k * g k * B
    have := tp_at (L := B) (q := Rat.divInt (getM F k) W) (hd _ (List.mem_map.mpr ⟨(k, Rat.divInt (getM F k) W), List.mem_map.mpr ⟨k, hk, rfl⟩, rfl⟩)) hW rfl
    rw [Int.mul_right_comm, this, Int.mul_right_comm]
  rw [e2]
  exact sum_perm ((rise_perm _).map _)
section
variable {P : Program} {w : World} {K : PySem.W.Frag} {mg : Str → Option Value} {base : Heap}
def spLAny : Sp := fun vs H Q _ => ∃ (p : Addr) (b m : Nat), vs = [.ref p, .int (b : Int)] ∧ b ≤ 50 ∧ Pen H p m ∧ m < 60000 ∧ ∀ (v : Int) (H' : Hp), -100000000000 ≤ v → v ≤ 100000000000 → Pen H' p (m + 4) → SameX p H H' → Q (.int v) H'
theorem ok_lany (T : Txt2 mg) (C_l_draw : Cal P w K mg base "_law_draw" ["_law_pen_here", "_law_many"] 1 spDraw) (F : FunAt K mg "_law_any" ["_law_pen_here", "_law_most"] s_l_any) : Cal P w K mg base "_law_any" ["_law_pen_here", "_law_most"] 2 spLAny := by
  have S := sc_l_any
  refine F.cal sc_l_any (fun vs H Q E h => ?_) (fun f cdv A outer s H vs Q E hr h => ?_)
  · obtain ⟨p, b, m, rfl, _⟩ := h; rfl
  obtain ⟨p, b, m, rfl, hb, hp, hm, k⟩ := h
  refine ⟨_, (@pss_cons _ _ _ _ _ (@ps_set _ _ (2) _ _ _ _ (by exact S.nd) (by rfl) (by first | exact Or.inl rfl | exact Or.inr rfl) (@cc _ _ _ _ _ _ _ _ _ _ (by exact C_l_draw) (by exact (hr.mono (by decide))) (@pa_consN _ _ _ _ _ (pv 0) (@pa_consN _ _ _ _ _ pe_int pa_nil (by first|rfl|decide|exact .inl rfl|exact .inr rfl|(intros; rfl))) (by first|rfl|decide|exact .inl rfl|exact .inr rfl|(intros; rfl))) (by first|rfl|decide|exact .inl rfl|exact .inr rfl|(intros; rfl)) (by first|rfl|decide|exact .inl rfl|exact .inr rfl|(intros; rfl)) (by first|rfl|decide|exact .inl rfl|exact .inr rfl|(intros; rfl)) (by first|rfl|decide|exact .inl rfl|exact .inr rfl|(intros; rfl))) (by first|rfl|decide|exact .inl rfl|exact .inr rfl|(intros; rfl)) (by first|rfl|decide|exact .inl rfl|exact .inr rfl|(intros; rfl))) (@pss_one _ _ _ (@ps_ret _ _ _ _ (@pe_ix _ _ _ _ _ _ _ ix_list (@pe_lst _ _ _ _ (@pa_consN _ _ _ _ _ (@cc _ _ _ _ _ _ _ _ _ _ (by exact C_l_draw) (by exact (hr.mono (by decide))) (@pa_consN _ _ _ _ _ (pv 0) (@pa_consN _ _ _ _ _ (@pe_op _ _ _ _ _ _ _ _ op_add (pv 1) pe_int) pa_nil (by first|rfl|decide|exact .inl rfl|exact .inr rfl|(intros; rfl))) (by first|rfl|decide|exact .inl rfl|exact .inr rfl|(intros; rfl))) (by first|rfl|decide|exact .inl rfl|exact .inr rfl|(intros; rfl)) (by first|rfl|decide|exact .inl rfl|exact .inr rfl|(intros; rfl)) (by first|rfl|decide|exact .inl rfl|exact .inr rfl|(intros; rfl)) (by first|rfl|decide|exact .inl rfl|exact .inr rfl|(intros; rfl))) (@pa_consN _ _ _ _ _ (@cc _ _ _ _ _ _ _ _ _ _ (by exact C_l_draw) (by exact (hr.mono (by decide))) (@pa_consN _ _ _ _ _ (pv 0) (@pa_consN _ _ _ _ _ (@pe_op _ _ _ _ _ _ _ _ op_add (pv 1) pe_int) pa_nil (by first|rfl|decide|exact .inl rfl|exact .inr rfl|(intros; rfl))) (by first|rfl|decide|exact .inl rfl|exact .inr rfl|(intros; rfl))) (by first|rfl|decide|exact .inl rfl|exact .inr rfl|(intros; rfl)) (by first|rfl|decide|exact .inl rfl|exact .inr rfl|(intros; rfl)) (by first|rfl|decide|exact .inl rfl|exact .inr rfl|(intros; rfl)) (by first|rfl|decide|exact .inl rfl|exact .inr rfl|(intros; rfl))) (@pa_consN _ _ _ _ _ (pv 1) (@pa_consN _ _ _ _ _ (@pe_op _ _ _ _ _ _ _ _ op_sub pe_int (@cc _ _ _ _ _ _ _ _ _ _ (by exact C_l_draw) (by exact (hr.mono (by decide))) (@pa_consN _ _ _ _ _ (pv 0) (@pa_consN _ _ _ _ _ pe_int pa_nil (by first|rfl|decide|exact .inl rfl|exact .inr rfl|(intros; rfl))) (by first|rfl|decide|exact .inl rfl|exact .inr rfl|(intros; rfl))) (by first|rfl|decide|exact .inl rfl|exact .inr rfl|(intros; rfl)) (by first|rfl|decide|exact .inl rfl|exact .inr rfl|(intros; rfl)) (by first|rfl|decide|exact .inl rfl|exact .inr rfl|(intros; rfl)) (by first|rfl|decide|exact .inl rfl|exact .inr rfl|(intros; rfl)))) (@pa_consN _ _ _ _ _ (@pe_op _ _ _ _ _ _ _ _ op_pow pe_int pe_int) (@pa_consN _ _ _ _ _ (@pe_un _ _ _ _ _ _ un_neg (@pe_op _ _ _ _ _ _ _ _ op_pow pe_int pe_int)) pa_nil (by first|rfl|decide|exact .inl rfl|exact .inr rfl|(intros; rfl))) (by first|rfl|decide|exact .inl rfl|exact .inr rfl|(intros; rfl))) (by first|rfl|decide|exact .inl rfl|exact .inr rfl|(intros; rfl))) (by first|rfl|decide|exact .inl rfl|exact .inr rfl|(intros; rfl))) (by first|rfl|decide|exact .inl rfl|exact .inr rfl|(intros; rfl))) (by first|rfl|decide|exact .inl rfl|exact .inr rfl|(intros; rfl)))) (pv 2) (by exact (fun _ _ => rfl)))))), ?_⟩
  refine ⟨_, rfl, p, _, _, rfl, hp, by omega, by decide, by decide, fun r1 H1 r10 r11 p1 x1 => ?_⟩
  refine ⟨_, rfl, _, rfl, _, _, rfl, rfl, p, _, _, rfl, p1, by omega, by omega, by omega, fun r2 H2 r20 r21 p2 x2 => ?_⟩
  refine ⟨_, rfl, _, rfl, _, _, rfl, rfl, p, _, _, rfl, p2, by omega, by omega, by omega, fun r3 H3 r30 r31 p3 x3 => ?_⟩
  refine ⟨_, rfl, _, rfl, p, _, _, rfl, p3, by omega, by decide, by decide, fun r4 H4 r40 r41 p4 x4 => ?_⟩
  refine ⟨_, _, rfl, rfl, _, _, rfl, rfl, ⟨by decide, by decide, by decide⟩, _, _, rfl, rfl, ⟨by decide, by decide, by decide⟩, _, rfl, lz 6 rfl, fun l hl => ?_⟩
  have s5 := same_new hl (.lst [.int r2, .int r3, .int (b : Int), .int (0 - r4), .int ((10 : Int) ^ (11 : Int).toNat), .int (-((10 : Int) ^ (11 : Int).toNat))])
  obtain ⟨v, hv, v0, v1⟩ : ∃ v : Int, atI [V.int r2, .int r3, .int (b : Int), .int (0 - r4), .int ((10 : Int) ^ (11 : Int).toNat), .int (-((10 : Int) ^ (11 : Int).toNat))] r1 = some (.int v) ∧ -100000000000 ≤ v ∧ v ≤ 100000000000 := by
    have : r1 = 0 ∨ r1 = 1 ∨ r1 = 2 ∨ r1 = 3 ∨ r1 = 4 ∨ r1 = 5 := by omega
    rcases this with rfl | rfl | rfl | rfl | rfl | rfl
    · exact ⟨_, rfl, by omega, by omega⟩
    · exact ⟨_, rfl, by omega, by omega⟩
    · exact ⟨_, rfl, by omega, by omega⟩
    · exact ⟨_, rfl, by omega, by omega⟩
    · exact ⟨_, rfl, by decide, by decide⟩
    · exact ⟨_, rfl, by decide, by decide⟩
  refine ⟨_, rfl, l, _, _, _, rfl, rfl, SqL.of upd_same, hv, ?_⟩
  exact k v _ v0 v1 ((p4.same s5).mono (by omega)) (x1.trans (x2.trans (x3.trans (x4.trans (Same.x s5)))))
end
end My

set_option Elab.async false
set_option linter.all false
set_option maxRecDepth 100000
set_option maxHeartbeats 1000000
namespace My
open PySem L2 MA Srt
theorem get_of_mem {m : Mp} (nd : (keysM m).Nodup) (pos : ∀ k ∈ keysM m, 0 < getM m k) : ∀ p ∈ m, 0 < p.2 := fun p hp => by
  rw [← getM_mem nd hp]; exact pos _ (List.mem_map_of_mem hp)
theorem le_sum {m : Mp} (nd : (keysM m).Nodup) (pos : ∀ k ∈ keysM m, 0 < getM m k) {k : List Int} : getM m k ≤ (valsM m).sum := by
  have key : ∀ (m : Mp), (∀ p ∈ m, 0 < p.2) → 0 ≤ (valsM m).sum ∧ getM m k ≤ (valsM m).sum := by
    intro m
    induction m with
    | nil => intro _; simp [valsM, getM_nil]
    | cons p m ih =>
      intro h
      obtain ⟨h1, h2⟩ := ih fun x hx => h x (by simp [hx])
      have h3 := h p (by simp)
      rw [getM_cons]
      have : (valsM (p :: m)).sum = p.2 + (valsM m).sum := by simp [valsM]
      rw [this]
      split <;> omega
  exact (key m (get_of_mem nd pos)).2
/-- the rule of weights, the spread of a table -/
theorem bot_dvd {qs : List Rat} {S : Int} (hS : 0 < S) (h : ∀ q ∈ qs, ∃ t, q = Rat.divInt t S) : botF qs ∣ S ∧ 0 < botF qs ∧ (∀ q ∈ qs, (q.den : Int) ∣ botF qs) := by
  obtain ⟨h1, _, h3⟩ := lq_fold qs 1 (by decide)
  refine ⟨lq_dvd qs 1 S (by decide) hS (Int.one_dvd _) fun q hq => ?_, h1, h3⟩
  obtain ⟨t, rfl⟩ := h q hq
  have := share_pos (t := t) hS
  rw [← this.2]
  exact Int.ediv_dvd_of_dvd (gI_dvd_right t S)
theorem sum_nnI {l : List Int} (h : ∀ x ∈ l, 0 ≤ x) : 0 ≤ l.sum := by
  induction l with
  | nil => simp
  | cons a l ih => rw [List.sum_cons]; have := ih fun x hx => h x (by simp [hx]); have := h a (by simp); omega
theorem mem_le_sum {l : List Int} (h : ∀ x ∈ l, 0 ≤ x) : ∀ x ∈ l, x ≤ l.sum := by
  induction l with
  | nil => simp
  | cons a l ih =>
    intro x hx
    have := ih (fun x hx => h x (by simp [hx]))
    have s0 := sum_nnI (l := l) fun x hx => h x (by simp [hx])
    have a0 := h a (by simp)
    rw [List.sum_cons]
    rcases List.mem_cons.mp hx with rfl | hx
    · omega
    · have := this x hx; omega
theorem vals_nn {m : Mp} (nd : (keysM m).Nodup) (pos : ∀ k ∈ keysM m, 0 < getM m k) : ∀ x ∈ valsM m, 0 < x := by
  intro x hx
  obtain ⟨p, hp, rfl⟩ := List.mem_map.mp hx
  exact get_of_mem nd pos p hp
theorem sum_pos {l : List Int} (h : ∀ x ∈ l, 0 < x) (ne : l ≠ []) : 0 < l.sum := by
  cases l with
  | nil => exact absurd rfl ne
  | cons a l =>
    have := sum_nnI (l := l) fun x hx => Int.le_of_lt (h x (by simp [hx]))
    have := h a (by simp)
    rw [List.sum_cons]; omega
theorem Cnt.W0 {m : Mp} {n : Nat} {b hi : Int} (h : Cnt m n b hi) (ne : m ≠ []) : 0 < (valsM m).sum := sum_pos (vals_nn h.nd h.pos) (by simpa [valsM] using ne)
theorem i36c {x : Int} (h : Bt 119 x) : I36 x := Nat.lt_trans (intBits_le_iff.mp h) (by decide)
theorem opq {α : Type} (x : α) : ∃ y, y = x := ⟨x, rfl⟩
theorem good_sh {q : Rat} (h : SB 100 q) : Good (dp (prq q)) := by
  have h' := h.mono (n := 119) (by decide)
  have t : Sm 6 (dp (prq q)) := sm_tup (ds := [.int q.num, .int (q.den : Int)]) (n := 2) (by simpa using ⟨sm_int36 (i36c h'.1) 2, sm_int36 (i36c h'.2) 2⟩) rfl (by decide) (show 2 * (2 + 1) ≤ 6 by decide)
  exact t.good (by decide) (by show 1 ≤ 20; decide)
theorem pr_data {H : Hp} {v : V} {p : Int × Int} (h : PrAt H v p) : DataV H v (dp p) := by
  obtain ⟨a, rfl, ha⟩ := h
  exact .tup ha (.cons (.int _) (.cons (.int _) .nil))
/-- a table drawn -/
structure Tb (F : Mp) (n b : Nat) : Prop where
  cn : Cnt F n b 120
  ne : F ≠ []
  f4 : F.length ≤ 4
  n1 : 1 ≤ n
  n6 : n ≤ 6
  b40 : b ≤ 40
section
variable {F : Mp} {n b : Nat}
theorem Tb.W (T : Tb F n b) : 0 < (valsM F).sum ∧ (valsM F).sum ≤ 120 := ⟨T.cn.W0 T.ne, T.cn.sum⟩
theorem Tb.ld (T : Tb F n b) : LdK F := fun k hk => by
  have l := T.cn.ld k hk
  have n1 := T.n1
  have n6 := T.n6
  have b40 := T.b40
  refine ⟨fun e => by have := l.len; rw [e] at this; simp at this; omega, by rw [l.len]; exact n6, fun x hx => ?_, l.dn⟩
  have := mem_le_sum l.nn x hx
  rw [l.sum] at this
  exact ⟨l.nn x hx, by omega⟩
theorem Tb.ldr (T : Tb F n b) (W : Int) : LdR (sprF F W) := fun r hr => by
  obtain ⟨k, hk, rfl⟩ := List.mem_map.mp hr
  obtain ⟨h1, h2, h3, _⟩ := T.ld k ((rise_perm _).mem_iff.mp hk)
  exact ⟨h1, h2, h3⟩
theorem Tb.mn (T : Tb F n b) : Mn (sprF F (valsM F).sum) := by
  obtain ⟨W0, W1⟩ := T.W
  have bs : ∀ x : Int, 0 ≤ x → x ≤ 120 → Bt 50 x := fun x h0 h1 => Bt.of_lt (Nat.lt_of_le_of_lt (m := 120) (by omega) (by decide))
  refine ⟨fun r hr => ?_, ?_, ?_⟩
  · obtain ⟨k, hk, rfl⟩ := List.mem_map.mp hr
    have := T.cn.pos k ((rise_perm _).mem_iff.mp hk)
    have := le_sum T.cn.nd T.cn.pos (k := k)
    exact SB.divInt (bs _ (by omega) (by omega)) (bs _ (by omega) (by omega)) W0
  · unfold sprF
    rw [List.length_map, (rise_perm _).length_eq]
    have := T.f4
    simp [keysM]; omega
  · have := Int.le_of_dvd W0 (bot_dvd W0 (qs := (sprF F (valsM F).sum).map (·.2)) fun q hq => by
      obtain ⟨r, hr, rfl⟩ := List.mem_map.mp hq
      obtain ⟨k, _, rfl⟩ := List.mem_map.mp hr
      exact ⟨_, rfl⟩).1
    omega
/-- what loads are worth -/
def Wor (F : Mp) (g : List Int → Int) : Prop := ∀ k ∈ keysM F, 0 ≤ g k ∧ g k ≤ 100000
theorem Tb.dot (T : Tb F n b) {g : List Int → Int} (hg : Wor F g) : 0 ≤ dotM F (wrF g F) ∧ dotM F (wrF g F) ≤ 100000000 := by
  have h : ∀ x ∈ F.map fun p => p.2 * getM (wrF g F) p.1, 0 ≤ x ∧ x ≤ 12000000 := by
    intro x hx
    obtain ⟨p, hp, rfl⟩ := List.mem_map.mp hx
    have hk : p.1 ∈ keysM F := List.mem_map_of_mem hp
    rw [wr_get T.cn.nd hk]
    have v0 := vals_nn T.cn.nd T.cn.pos
    have p0 := v0 _ (List.mem_map_of_mem hp)
    have p1 := mem_le_sum (fun y hy => Int.le_of_lt (v0 y hy)) _ (List.mem_map_of_mem (f := fun z : List Int × Int => z.2) hp)
    have W1 := T.W.2
    have g1 := hg _ hk
    change (valsM F).sum ≤ 120 at W1
    change p.2 ≤ (valsM F).sum at p1
    exact ⟨Int.mul_nonneg (Int.le_of_lt p0) g1.1, by have := Int.mul_le_mul (show p.2 ≤ 120 by omega) g1.2 g1.1 (by decide : (0 : Int) ≤ 120); omega⟩
  have := sum_in h
  rw [List.length_map] at this
  have := T.f4
  unfold dotM
  omega
theorem Tb.mnm (T : Tb F n b) {g : List Int → Int} (hg : Wor F g) : MnM F (wrF g F) := by
  obtain ⟨W0, W1⟩ := T.W
  have v0 := vals_nn T.cn.nd T.cn.pos
  refine ⟨T.cn.nd, by have := T.f4; omega, fun k hk => by rw [wr_keys]; exact hk, fun x hx => ?_, fun k hk => ?_, (T.dot hg).1, W0, ?_⟩
  · have := v0 x hx
    have := mem_le_sum (fun y hy => Int.le_of_lt (v0 y hy)) x hx
    exact bt_small (by omega)
  · rw [wr_get T.cn.nd hk]
    have := hg k hk
    exact bt_small (by omega)
  · exact (Bt.of_lt (n := 20) (Nat.lt_of_le_of_lt (show (valsM F).sum.natAbs ≤ 120 by omega) (by decide))).mono (by decide)
theorem Tb.good (T : Tb F n b) {g : List Int → Int} (hg : Wor F g) : Good (dp (prq (Rat.divInt (dotM F (wrF g F)) (valsM F).sum))) := by
  obtain ⟨W0, W1⟩ := T.W
  have d := T.dot hg
  exact good_sh (SB.divInt (Bt.of_lt (Nat.lt_of_le_of_lt (show (dotM F (wrF g F)).natAbs ≤ 100000000 by omega) (by decide))) (Bt.of_lt (Nat.lt_of_le_of_lt (show (valsM F).sum.natAbs ≤ 100000000 by omega) (by decide))) W0)
theorem wor_W (T : Tb F n b) (x : Str) : Wor F (gW x) := fun k hk => by
  obtain ⟨k1, k2, k3, k4⟩ := T.ld k hk
  have h := gW_small (x := x) k2 k3
  refine ⟨?_, h.2⟩
  have h0 := getD_in (j := 0) k3
  have h1 := getD_in (j := k.length - 1) k3
  rw [gW_if]
  split
  · exact h0.1
  · split
    · exact h1.1
    · split
      · have : gEmpt k ≤ gFull k := by
          have hm : gEmpt k ∈ k := by
            have hl : 0 < k.length := List.length_pos_iff.mpr k1
            unfold gEmpt
            rw [List.getD_eq_getElem?_getD, List.getElem?_eq_getElem (show k.length - 1 < k.length by omega)]
            exact List.getElem_mem _
          cases k with
          | nil => exact absurd rfl k1
          | cons a t =>
            show gEmpt (a :: t) ≤ a
            rcases List.mem_cons.mp hm with e | e
            · omega
            · exact (List.pairwise_cons.mp k4).1 _ e
        omega
      · exact sum_nnI fun y hy => by
          obtain ⟨z, hz, rfl⟩ := List.mem_map.mp hy
          exact Int.mul_nonneg (k3 z hz).1 (k3 z hz).1
theorem wor_sum (T : Tb F n b) (j : Nat) : Wor F (gSum j) := fun k hk => by
  obtain ⟨k1, k2, k3, k4⟩ := T.ld k hk
  exact ⟨sum_nnI fun y hy => (k3 y (List.mem_of_mem_take hy)).1, (gSum_small k2 k3).2⟩
theorem wor_many (m c : Int) : Wor F (gMany m c) := fun k hk => ⟨by unfold gMany; split <;> decide, (gMany_small).2⟩
end
theorem low_pr {t c : Int} (hc : 0 < c) : lowF t c = prq (Rat.divInt t c) := low_q hc
theorem merge_self : ∀ (n : Nat) (x : Mp), x.length = n → (keysM x).Nodup → mergeT [] (x.map kII) = x.map kII
  | 0, x, h, _ => by
    have : x = [] := List.length_eq_zero_iff.mp h
    subst this; rfl
  | n + 1, x, h, nd => by
    rcases List.eq_nil_or_concat x with e | ⟨y, p, e⟩
    · subst e; simp at h
    · rw [List.concat_eq_append] at e
      subst e
      have nd' : (keysM y).Nodup ∧ p.1 ∉ keysM y := by
        unfold keysM at nd ⊢
        rw [List.map_append, List.nodup_append] at nd
        exact ⟨nd.1, fun z => nd.2.2 _ z p.1 (by simp) rfl⟩
      have ih := merge_self n y (by simpa using h) nd'.1
      rw [List.map_append]
      show mergeT [] (y.map kII ++ [kII p]) = _
      rw [mergeT_snoc, ih]
      show putK (y.map kII) (p.1.map Sum.inl) (.int p.2) = _
      rw [putK_dI, put_new nd'.2, List.map_append]
/-- dict of pairs: a load, and what it is worth -/
theorem dict_comp {te : TE} {fs : St → St} {i : Nat} {σ tail : St} {H : Hp} {R : VK} {d : Addr} {m : Mp} {g : List Int → Int} (hσ : σ[i]? = some (some (.ref d))) (hf : fs σ = none :: tail) (hd : H d = some (dI m)) (few : m.length ≤ 100)
    (hte : ∀ (b : Addr) (k : List Int) (H' : Hp) (Q' : VK), k ∈ keysM m → H' b = some (.tup (iv k)) → (∀ H'', Same H' H'' → Q' (.int (g k)) H'') → te (some (.ref b) :: tail) H' Q')
    (hR : ∀ l ys H', Same H H' → H' l = some (.lst ys) → ys.length ≤ 1000 → RowsT H' ys ((wrF g m).map kII) → R (.ref l) H') :
    tThaw (tComp fs (iKeysT (tVar i)) (gName 0) tTT (tTup (tCons (tVar 0) (tCons te tNil)))) σ H R := by
  refine ⟨d, _, hd, ?_⟩
  refine ⟨_, hσ, d, _, rfl, .inl ⟨hd, fun o => ?_⟩⟩
  rw [hf]
  refine comp_Y (yields_keysT (kws := m.map fI)) (fun p i ys σ' H' => Same (upd H d (.frz o (dI m))) H' ∧ (∃ o1, σ' = o1 :: tail) ∧ ys.length = i ∧ RowsT H' ys ((wrF g (m.take i)).map kII)) (by simp; omega) ?_ ?_ ?_ ?_
  · exact fun p hp => ⟨same_new hp _, ⟨_, rfl⟩, rfl, .nil⟩
  · rintro p i ys σ' H' hp ⟨s', _⟩
    rw [dI_kI]
    exact s' _ _ upd_same
  · rintro p i ys σ' H1 x H2 hp hi hl' ⟨s1, ⟨o1, rfl⟩, yl, rw1⟩ hp' ⟨rfl, b, kw, rfl, hb, hkw⟩ Q1 Q2 h1 h2
    rw [List.getElem?_map, Option.map_eq_some_iff] at hkw
    obtain ⟨q, hq, rfl⟩ := hkw
    change H2 b = some (.tup (iv q.1)) at hb
    have kq : q.1 ∈ keysM m := List.mem_map_of_mem (List.mem_of_getElem? hq)
    refine gN_ (tT_ (iteT ?_))
    refine ⟨_, rfl, hte b q.1 H2 _ kq hb fun H3 s3 => ⟨lz 2 rfl, fun t ht => h1 _ _ _ ?_ ?_⟩⟩
    · exact same_new ht _ _ _ (s3 _ _ hp')
    · have s4 := same_new ht (.tup [.ref b, .int (g q.1)])
      have hp4 := s4 _ _ (s3 _ _ hp')
      refine ⟨same_updN hp (s1.trans (s3.trans s4)) _, ⟨_, rfl⟩, by simp [yl], ?_⟩
      rw [take_snoc hq]
      unfold wrF
      rw [List.map_append, List.map_append]
      refine paired_snoc (Paired.mapP rw1 fun _ _ ⟨a, c, e1, e2, e3⟩ => ⟨a, c, e1, tupL hp4 _ _ ((s3.trans s4) _ _ e2), tupL hp4 _ _ ((s3.trans s4) _ _ e3)⟩) ⟨t, b, rfl, tupL hp4 _ _ upd_same, tupL hp4 _ _ (key_iv ((s3.trans s4) _ _ hb))⟩
  · rintro p ys σ' H1 hp ⟨s1, _, yl, rw1⟩ hp' hl'
    have hml : (m.map fI).length = m.length := by simp
    rw [hml, List.take_length] at rw1
    have pd : p ≠ d := fun z => by rw [z, upd_same] at hp; cases hp
    have nd' : ∀ {b : Addr} {xs : List V}, H1 b = some (.tup xs) → upd H1 d (dI m) b = some (.tup xs) := fun {b xs} e => by
      rw [upd_ne (fun z => by rw [z, s1 _ _ upd_same] at e; cases e)]; exact e
    refine ⟨o, _, s1 _ _ upd_same, hR p ys _ (thaw_same hd s1) (by rw [show HO.dT (m.map kII) = dI m from rfl, upd_ne pd]; exact hp') (by omega) ?_⟩
    exact Paired.mapP rw1 fun _ _ ⟨a, c, e1, e2, e3⟩ => ⟨a, c, e1, nd' e2, nd' e3⟩
end My

set_option Elab.async false
set_option linter.all false
set_option maxRecDepth 100000
set_option maxHeartbeats 1000000
namespace My
open PySem L2 MA Srt
theorem noD {α : Type} (f : α → PyData) (h : ∀ a, (f a).hasDict = false) : ∀ l : List α, PyData.hasDictAll (l.map f) = false
  | [] => rfl
  | a :: l => by simp [PyData.hasDictAll, h a, noD f h l, -List.map_map]
theorem depL {α : Type} (f : α → PyData) (c : Nat) (h : ∀ a, (f a).depth ≤ c) : ∀ l : List α, PyData.depthAll (l.map f) ≤ c
  | [] => Nat.zero_le _
  | a :: l => by have := h a; have := depL f c h l; simp only [List.map_cons, PyData.depthAll]; omega
theorem rw_noD (r : List Int × Rat) : (dRw r).hasDict = false := by simp [dRw, PyData.hasDict, PyData.hasDictAll, noDict_ints, -List.map_map]
theorem rw_dep (r : List Int × Rat) : (dRw r).depth ≤ 2 := by
  simp only [dRw, PyData.depth, PyData.depthAll, depth_ints]; omega
theorem sm_sp {rs : Spd} (h : ∀ r ∈ rs, r.1.length ≤ 6 ∧ (∀ x ∈ r.1, I36 x) ∧ SB 119 r.2) (hl : rs.length ≤ 60) : Sm 4000 (dSp rs) := by
  refine sm_list (n := 60) (fun d hd => ?_) (noD dRw rw_noD rs) (by decide) (by rw [List.length_map]; omega)
  obtain ⟨r, hr, rfl⟩ := List.mem_map.mp hd
  obtain ⟨h1, h2, h3⟩ := h r hr
  refine sm_tup (n := 20) (fun d hd => ?_) (by simp [PyData.hasDict, PyData.hasDictAll, noDict_ints, -List.map_map]) (by decide) (show 2 * (20 + 1) ≤ 60 by decide)
  simp only [List.mem_cons, List.not_mem_nil, or_false] at hd
  rcases hd with rfl | rfl
  · exact sm_ints h2 (by decide) (by omega)
  · exact sm_tup (n := 2) (by simpa using ⟨sm_int36 (i36c h3.1) 2, sm_int36 (i36c h3.2) 2⟩) rfl (by decide) (show 2 * (2 + 1) ≤ 20 by decide)
theorem dep_sp (rs : Spd) : (dSp rs).depth ≤ 3 := by
  have := depL dRw 2 rw_dep rs
  simp only [dSp, PyData.depth]; omega
theorem Tb.goodS {F : Mp} {n b : Nat} (T : Tb F n b) : Good (dSp (sprF F (valsM F).sum)) := by
  have M := T.mn
  have R := T.ldr (valsM F).sum
  refine (sm_sp (fun r hr => ?_) (by have := M.few; omega)).good (by decide) (Nat.le_trans (dep_sp _) (by decide))
  obtain ⟨h1, h2, h3⟩ := R r hr
  refine ⟨h2, fun x hx => ?_, (M.sb r hr).mono (by decide)⟩
  have := h3 x hx
  exact i36c ((Bt.of_lt (n := 6) (show x.natAbs < 64 by omega)).mono (by decide))
theorem box_max {m M : Int} {k : List Int} (hM : M ∈ k) (h : ∀ a ∈ k, a ≤ M) : (if decide (m ≤ M) = true then (1 : Int) else 0) = gMany m 1 k := by
  unfold gMany gBox
  have e : (1 : Int) ≤ ((k.filter fun x => decide (m ≤ x)).length : Nat) ↔ m ≤ M := by
    constructor
    · intro z
      have : 0 < (k.filter fun x => decide (m ≤ x)).length := by omega
      obtain ⟨x, hx⟩ := List.exists_mem_of_length_pos this
      obtain ⟨hx1, hx2⟩ := List.mem_filter.mp hx
      have := h x hx1
      have := of_decide_eq_true hx2
      omega
    · intro z
      have : M ∈ k.filter fun x => decide (m ≤ x) := List.mem_filter.mpr ⟨hM, decide_eq_true z⟩
      have := List.length_pos_of_mem this
      omega
  by_cases z : m ≤ M
  · rw [if_pos (decide_eq_true z), if_pos (e.mpr z)]
  · rw [if_neg (fun q => z (of_decide_eq_true q)), if_neg (fun q => z (e.mp q))]
theorem word_at {j : Nat} {y : V} (h : ([V.str "fullest", .str "emptiest", .str "gap", .str "squares"] : List V)[j]? = some y) : ∃ x, y = .str x ∧ isW x := by
  have hm := List.mem_of_getElem? h
  simp only [List.mem_cons, List.not_mem_nil, or_false] at hm
  rcases hm with rfl | rfl | rfl | rfl
  · exact ⟨_, rfl, .inl rfl⟩
  · exact ⟨_, rfl, .inr (.inl rfl)⟩
  · exact ⟨_, rfl, .inr (.inr (.inl rfl))⟩
  · exact ⟨_, rfl, .inr (.inr (.inr rfl))⟩
section
variable {P : Program} {w : World} {K : PySem.W.Frag} {mg : Str → Option Value} {base : Heap}
theorem ok_law (T : Txt2 mg) (C_l_pen : Cal P w K mg base "_law_pen" ["_law_script"] 1 (spPen K)) (C_l_draw : Cal P w K mg base "_law_draw" ["_law_pen_here", "_law_many"] 1 spDraw) (C_l_counted : Cal P w K mg base "_law_counted" ["_law_pen_here", "_law_n", "_law_balls"] 3 spCounted) (C_l_spread : Cal P w K mg base "_law_spread" ["_law_found"] 3 spLSpread) (C_mean : Cal P w K mg base "mean" ["spread", "word"] 4 spMean) (C_l_mean : Cal P w K mg base "_law_mean" ["_law_found", "_law_worths"] 3 spLMean) (C_l_by : Cal P w K mg base "_law_by" ["_law_found", "_law_word"] 1 spBy) (C_first_mean : Cal P w K mg base "first_mean" ["spread", "k"] 4 spFirst) (C_l_any : Cal P w K mg base "_law_any" ["_law_pen_here", "_law_most"] 2 spLAny) (C_fullest_share : Cal P w K mg base "fullest_share" ["spread", "m"] 5 spFulls) (C_many_share : Cal P w K mg base "many_share" ["spread", "m", "b"] 4 spMany)
    {fa : Addr} {fd : FuncData} (F : Fun K "law" "law" s_law fa fd) : FnOk P w K mg base CX0 6 fa fd ["_law_script"] (spLaw K) := by
  have S := sc_law
  refine F.ok sc_law (fun vs H Q E h => ?_) (fun cdv A outer s H vs Q E hr h => ?_)
  · obtain ⟨a, ns, rfl, _⟩ := h; rfl
  obtain ⟨a, ns, rfl, ha, hn, k⟩ := h
  have hu1 := hu_of hr
  have hu3 := hu3_of hr
  refine ⟨_, (@pss_cons _ _ _ _ _ (@ps_set _ _ (1) _ _ _ _ (by exact S.nd) (by rfl) (by first | exact Or.inl rfl | exact Or.inr rfl) (@cc _ _ _ _ _ _ _ _ _ _ (by exact C_l_pen) (by exact (hr.mono (by decide))) (@pa_consN _ _ _ _ _ (pv 0) pa_nil (by first|rfl|decide|exact .inl rfl|exact .inr rfl|(intros; rfl))) (by first|rfl|decide|exact .inl rfl|exact .inr rfl|(intros; rfl)) (by first|rfl|decide|exact .inl rfl|exact .inr rfl|(intros; rfl)) (by first|rfl|decide|exact .inl rfl|exact .inr rfl|(intros; rfl)) (by first|rfl|decide|exact .inl rfl|exact .inr rfl|(intros; rfl))) (by first|rfl|decide|exact .inl rfl|exact .inr rfl|(intros; rfl)) (by first|rfl|decide|exact .inl rfl|exact .inr rfl|(intros; rfl))) (@pss_cons _ _ _ _ _ (@ps_for _ _ _ _ _ _ _ _ (by exact PassesOwn.never) (by rfl) (@pi_range1 _ _ _ _ _ _ (by rfl) (by exact T.z_range) (@pa_consN _ _ _ _ _ pe_int pa_nil (by first|rfl|decide|exact .inl rfl|exact .inr rfl|(intros; rfl))) (by first|rfl|decide|exact .inl rfl|exact .inr rfl|(intros; rfl))) (@pg_name _ _ (2) _ (by exact S.nd) (by rfl) (by first | exact Or.inl rfl | exact Or.inr rfl) (by first|rfl|decide|exact .inl rfl|exact .inr rfl|(intros; rfl))) (@pss_cons _ _ _ _ _ (@ps_set _ _ (3) _ _ _ _ (by exact S.nd) (by rfl) (by first | exact Or.inl rfl | exact Or.inr rfl) (@pe_op _ _ _ _ _ _ _ _ op_add pe_int (@cc _ _ _ _ _ _ _ _ _ _ (by exact C_l_draw) (by exact (hr.mono (by decide))) (@pa_consN _ _ _ _ _ (pv 1) (@pa_consN _ _ _ _ _ pe_int pa_nil (by first|rfl|decide|exact .inl rfl|exact .inr rfl|(intros; rfl))) (by first|rfl|decide|exact .inl rfl|exact .inr rfl|(intros; rfl))) (by first|rfl|decide|exact .inl rfl|exact .inr rfl|(intros; rfl)) (by first|rfl|decide|exact .inl rfl|exact .inr rfl|(intros; rfl)) (by first|rfl|decide|exact .inl rfl|exact .inr rfl|(intros; rfl)) (by first|rfl|decide|exact .inl rfl|exact .inr rfl|(intros; rfl)))) (by first|rfl|decide|exact .inl rfl|exact .inr rfl|(intros; rfl)) (by first|rfl|decide|exact .inl rfl|exact .inr rfl|(intros; rfl))) (@pss_cons _ _ _ _ _ (@ps_set _ _ (4) _ _ _ _ (by exact S.nd) (by rfl) (by first | exact Or.inl rfl | exact Or.inr rfl) (@cc _ _ _ _ _ _ _ _ _ _ (by exact C_l_draw) (by exact (hr.mono (by decide))) (@pa_consN _ _ _ _ _ (pv 1) (@pa_consN _ _ _ _ _ (@pe_ix _ _ _ _ _ _ _ ix_list (@pe_lst _ _ _ _ (@pa_consN _ _ _ _ _ pe_int (@pa_consN _ _ _ _ _ pe_int (@pa_consN _ _ _ _ _ pe_int pa_nil (by first|rfl|decide|exact .inl rfl|exact .inr rfl|(intros; rfl))) (by first|rfl|decide|exact .inl rfl|exact .inr rfl|(intros; rfl))) (by first|rfl|decide|exact .inl rfl|exact .inr rfl|(intros; rfl)))) (@cc _ _ _ _ _ _ _ _ _ _ (by exact C_l_draw) (by exact (hr.mono (by decide))) (@pa_consN _ _ _ _ _ (pv 1) (@pa_consN _ _ _ _ _ pe_int pa_nil (by first|rfl|decide|exact .inl rfl|exact .inr rfl|(intros; rfl))) (by first|rfl|decide|exact .inl rfl|exact .inr rfl|(intros; rfl))) (by first|rfl|decide|exact .inl rfl|exact .inr rfl|(intros; rfl)) (by first|rfl|decide|exact .inl rfl|exact .inr rfl|(intros; rfl)) (by first|rfl|decide|exact .inl rfl|exact .inr rfl|(intros; rfl)) (by first|rfl|decide|exact .inl rfl|exact .inr rfl|(intros; rfl))) (by exact (fun _ _ => rfl))) pa_nil (by first|rfl|decide|exact .inl rfl|exact .inr rfl|(intros; rfl))) (by first|rfl|decide|exact .inl rfl|exact .inr rfl|(intros; rfl))) (by first|rfl|decide|exact .inl rfl|exact .inr rfl|(intros; rfl)) (by first|rfl|decide|exact .inl rfl|exact .inr rfl|(intros; rfl)) (by first|rfl|decide|exact .inl rfl|exact .inr rfl|(intros; rfl)) (by first|rfl|decide|exact .inl rfl|exact .inr rfl|(intros; rfl))) (by first|rfl|decide|exact .inl rfl|exact .inr rfl|(intros; rfl)) (by first|rfl|decide|exact .inl rfl|exact .inr rfl|(intros; rfl))) (@pss_cons _ _ _ _ _ (@ps_set _ _ (5) _ _ _ _ (by exact S.nd) (by rfl) (by first | exact Or.inl rfl | exact Or.inr rfl) (@cc _ _ _ _ _ _ _ _ _ _ (by exact C_l_counted) (by exact (hr.mono (by decide))) (@pa_consN _ _ _ _ _ (pv 1) (@pa_consN _ _ _ _ _ (pv 3) (@pa_consN _ _ _ _ _ (pv 4) pa_nil (by first|rfl|decide|exact .inl rfl|exact .inr rfl|(intros; rfl))) (by first|rfl|decide|exact .inl rfl|exact .inr rfl|(intros; rfl))) (by first|rfl|decide|exact .inl rfl|exact .inr rfl|(intros; rfl))) (by first|rfl|decide|exact .inl rfl|exact .inr rfl|(intros; rfl)) (by first|rfl|decide|exact .inl rfl|exact .inr rfl|(intros; rfl)) (by first|rfl|decide|exact .inl rfl|exact .inr rfl|(intros; rfl)) (by first|rfl|decide|exact .inl rfl|exact .inr rfl|(intros; rfl))) (by first|rfl|decide|exact .inl rfl|exact .inr rfl|(intros; rfl)) (by first|rfl|decide|exact .inl rfl|exact .inr rfl|(intros; rfl))) (@pss_cons _ _ _ _ _ (@ps_set _ _ (6) _ _ _ _ (by exact S.nd) (by rfl) (by first | exact Or.inl rfl | exact Or.inr rfl) (@cc _ _ _ _ _ _ _ _ _ _ (by exact C_l_spread) (by exact (hr.mono (by decide))) (@pa_consN _ _ _ _ _ (pv 5) pa_nil (by first|rfl|decide|exact .inl rfl|exact .inr rfl|(intros; rfl))) (by first|rfl|decide|exact .inl rfl|exact .inr rfl|(intros; rfl)) (by first|rfl|decide|exact .inl rfl|exact .inr rfl|(intros; rfl)) (by first|rfl|decide|exact .inl rfl|exact .inr rfl|(intros; rfl)) (by first|rfl|decide|exact .inl rfl|exact .inr rfl|(intros; rfl))) (by first|rfl|decide|exact .inl rfl|exact .inr rfl|(intros; rfl)) (by first|rfl|decide|exact .inl rfl|exact .inr rfl|(intros; rfl))) (@pss_cons _ _ _ _ _ (@ps_set _ _ (7) _ _ _ _ (by exact S.nd) (by rfl) (by first | exact Or.inl rfl | exact Or.inr rfl) (@pe_callB _ _ _ _ _ _ _ _ _ (call_repr hr) (by rfl) (by exact T.z_repr) (by exact bt_repr) (@pa_consN _ _ _ _ _ (pv 6) pa_nil (by first|rfl|decide|exact .inl rfl|exact .inr rfl|(intros; rfl))) (by first|rfl|decide|exact .inl rfl|exact .inr rfl|(intros; rfl)) (by first|rfl|decide|exact .inl rfl|exact .inr rfl|(intros; rfl)) (by first|rfl|decide|exact .inl rfl|exact .inr rfl|(intros; rfl)) (by first|rfl|decide|exact .inl rfl|exact .inr rfl|(intros; rfl))) (by first|rfl|decide|exact .inl rfl|exact .inr rfl|(intros; rfl)) (by first|rfl|decide|exact .inl rfl|exact .inr rfl|(intros; rfl))) (@pss_cons _ _ _ _ _ (@ps_for _ _ _ _ _ _ _ _ (by exact PassesOwn.never) (by rfl) (@pi_tup _ _ _ _ (@pe_tup _ _ _ _ _ (@pa_consN _ _ _ _ _ pe_str (@pa_consN _ _ _ _ _ pe_str (@pa_consN _ _ _ _ _ pe_str (@pa_consN _ _ _ _ _ pe_str pa_nil (by first|rfl|decide|exact .inl rfl|exact .inr rfl|(intros; rfl))) (by first|rfl|decide|exact .inl rfl|exact .inr rfl|(intros; rfl))) (by first|rfl|decide|exact .inl rfl|exact .inr rfl|(intros; rfl))) (by first|rfl|decide|exact .inl rfl|exact .inr rfl|(intros; rfl))))) (@pg_name _ _ (8) _ (by exact S.nd) (by rfl) (by first | exact Or.inl rfl | exact Or.inr rfl) (by first|rfl|decide|exact .inl rfl|exact .inr rfl|(intros; rfl))) (@pss_one _ _ _ (@ps_if _ _ _ _ _ _ _ _ (@pt_cmpR _ _ _ _ _ _ _ _ op_ne (@pe_callB _ _ _ _ _ _ _ _ _ (call_repr hr) (by rfl) (by exact T.z_repr) (by exact bt_repr) (@pa_consN _ _ _ _ _ (@cc _ _ _ _ _ _ _ _ _ _ (by exact C_mean) (by exact (hr.mono (by decide))) (@pa_consN _ _ _ _ _ (pv 6) (@pa_consN _ _ _ _ _ (pv 8) pa_nil (by first|rfl|decide|exact .inl rfl|exact .inr rfl|(intros; rfl))) (by first|rfl|decide|exact .inl rfl|exact .inr rfl|(intros; rfl))) (by first|rfl|decide|exact .inl rfl|exact .inr rfl|(intros; rfl)) (by first|rfl|decide|exact .inl rfl|exact .inr rfl|(intros; rfl)) (by first|rfl|decide|exact .inl rfl|exact .inr rfl|(intros; rfl)) (by first|rfl|decide|exact .inl rfl|exact .inr rfl|(intros; rfl))) pa_nil (by first|rfl|decide|exact .inl rfl|exact .inr rfl|(intros; rfl))) (by first|rfl|decide|exact .inl rfl|exact .inr rfl|(intros; rfl)) (by first|rfl|decide|exact .inl rfl|exact .inr rfl|(intros; rfl)) (by first|rfl|decide|exact .inl rfl|exact .inr rfl|(intros; rfl)) (by first|rfl|decide|exact .inl rfl|exact .inr rfl|(intros; rfl))) (@pe_callB _ _ _ _ _ _ _ _ _ (call_repr hr) (by rfl) (by exact T.z_repr) (by exact bt_repr) (@pa_consN _ _ _ _ _ (@cc _ _ _ _ _ _ _ _ _ _ (by exact C_l_mean) (by exact (hr.mono (by decide))) (@pa_consN _ _ _ _ _ (pv 5) (@pa_consN _ _ _ _ _ (@cc _ _ _ _ _ _ _ _ _ _ (by exact C_l_by) (by exact (hr.mono (by decide))) (@pa_consN _ _ _ _ _ (pv 5) (@pa_consN _ _ _ _ _ (pv 8) pa_nil (by first|rfl|decide|exact .inl rfl|exact .inr rfl|(intros; rfl))) (by first|rfl|decide|exact .inl rfl|exact .inr rfl|(intros; rfl))) (by first|rfl|decide|exact .inl rfl|exact .inr rfl|(intros; rfl)) (by first|rfl|decide|exact .inl rfl|exact .inr rfl|(intros; rfl)) (by first|rfl|decide|exact .inl rfl|exact .inr rfl|(intros; rfl)) (by first|rfl|decide|exact .inl rfl|exact .inr rfl|(intros; rfl))) pa_nil (by first|rfl|decide|exact .inl rfl|exact .inr rfl|(intros; rfl))) (by first|rfl|decide|exact .inl rfl|exact .inr rfl|(intros; rfl))) (by first|rfl|decide|exact .inl rfl|exact .inr rfl|(intros; rfl)) (by first|rfl|decide|exact .inl rfl|exact .inr rfl|(intros; rfl)) (by first|rfl|decide|exact .inl rfl|exact .inr rfl|(intros; rfl)) (by first|rfl|decide|exact .inl rfl|exact .inr rfl|(intros; rfl))) pa_nil (by first|rfl|decide|exact .inl rfl|exact .inr rfl|(intros; rfl))) (by first|rfl|decide|exact .inl rfl|exact .inr rfl|(intros; rfl)) (by first|rfl|decide|exact .inl rfl|exact .inr rfl|(intros; rfl)) (by first|rfl|decide|exact .inl rfl|exact .inr rfl|(intros; rfl)) (by first|rfl|decide|exact .inl rfl|exact .inr rfl|(intros; rfl))) (by exact (nomark _))) (@pss_one _ _ _ (@ps_ret _ _ _ _ pe_bl)) pss_nil)) (by first|rfl|decide|exact .inl rfl|exact .inr rfl|(intros; rfl))) (@pss_cons _ _ _ _ _ (@ps_for _ _ _ _ _ _ _ _ (by exact PassesOwn.never) (by rfl) (@pi_range1 _ _ _ _ _ _ (by rfl) (by exact T.z_range) (@pa_consN _ _ _ _ _ (@pe_op _ _ _ _ _ _ _ _ op_add (pv 3) pe_int) pa_nil (by first|rfl|decide|exact .inl rfl|exact .inr rfl|(intros; rfl))) (by first|rfl|decide|exact .inl rfl|exact .inr rfl|(intros; rfl))) (@pg_name _ _ (9) _ (by exact S.nd) (by rfl) (by first | exact Or.inl rfl | exact Or.inr rfl) (by first|rfl|decide|exact .inl rfl|exact .inr rfl|(intros; rfl))) (@pss_cons _ _ _ _ _ (@ps_set _ _ (10) _ _ _ _ (by exact S.nd) (by rfl) (by first | exact Or.inl rfl | exact Or.inr rfl) (@pe_callTy _ _ _ _ _ _ _ _ _ (call_dictT (by rfl) hu3) (by rfl) (by exact T.z_dict) (by exact bt_dict) (@pa_consN _ _ _ _ _ (@pe_thaw _ _ _ (@pe_comp _ _ _ _ _ _ _ _ _ _ _ _ _ (by rfl) (by exact (fun _ _ h => h)) (by decide +kernel) (by rfl) (by decide +kernel) (by exact hfr_of rfl) (by exact Sees.frees ["_law_load_here"] [("_law_k", 9)] (fr_cons ⟨rfl, rfl⟩ fr_nil)) (@pi_keysT _ _ _ _ (pv 5)) (fun _ _ _ _ _ => @pg_name _ _ (0) _ (by exact (show (["_law_load_here", "_law_k"] : List Str).Nodup by decide +kernel)) (by rfl) (by first | exact Or.inl rfl | exact Or.inr rfl) (by first|rfl|decide|exact .inl rfl|exact .inr rfl|(intros; rfl))) (fun _ _ _ _ _ => pts_nil) (fun _ _ _ _ _ => (@pe_tup _ _ _ _ _ (@pa_consN _ _ _ _ _ (pv 0) (@pa_consN _ _ _ _ _ (@pe_callB _ _ _ _ _ _ _ _ _ (call_sumT (by rfl)) (by rfl) (by exact T.z_sum) (by exact bt_sum) (@pa_consN _ _ _ _ _ (@pe_slice _ _ _ _ _ _ _ _ _ _ sl_tupS (pv 0) po_none (@po_some _ _ _ (pv 1))) pa_nil (by first|rfl|decide|exact .inl rfl|exact .inr rfl|(intros; rfl))) (by first|rfl|decide|exact .inl rfl|exact .inr rfl|(intros; rfl)) (by first|rfl|decide|exact .inl rfl|exact .inr rfl|(intros; rfl)) (by first|rfl|decide|exact .inl rfl|exact .inr rfl|(intros; rfl)) (by first|rfl|decide|exact .inl rfl|exact .inr rfl|(intros; rfl))) pa_nil (by first|rfl|decide|exact .inl rfl|exact .inr rfl|(intros; rfl))) (by first|rfl|decide|exact .inl rfl|exact .inr rfl|(intros; rfl))))) (by first|rfl|decide|exact .inl rfl|exact .inr rfl|(intros; rfl)))) pa_nil (by first|rfl|decide|exact .inl rfl|exact .inr rfl|(intros; rfl))) (by first|rfl|decide|exact .inl rfl|exact .inr rfl|(intros; rfl)) (by first|rfl|decide|exact .inl rfl|exact .inr rfl|(intros; rfl)) (by first|rfl|decide|exact .inl rfl|exact .inr rfl|(intros; rfl)) (by first|rfl|decide|exact .inl rfl|exact .inr rfl|(intros; rfl))) (by first|rfl|decide|exact .inl rfl|exact .inr rfl|(intros; rfl)) (by first|rfl|decide|exact .inl rfl|exact .inr rfl|(intros; rfl))) (@pss_one _ _ _ (@ps_if _ _ _ _ _ _ _ _ (@pt_cmpR _ _ _ _ _ _ _ _ op_ne (@pe_callB _ _ _ _ _ _ _ _ _ (call_repr hr) (by rfl) (by exact T.z_repr) (by exact bt_repr) (@pa_consN _ _ _ _ _ (@cc _ _ _ _ _ _ _ _ _ _ (by exact C_first_mean) (by exact (hr.mono (by decide))) (@pa_consN _ _ _ _ _ (pv 6) (@pa_consN _ _ _ _ _ (pv 9) pa_nil (by first|rfl|decide|exact .inl rfl|exact .inr rfl|(intros; rfl))) (by first|rfl|decide|exact .inl rfl|exact .inr rfl|(intros; rfl))) (by first|rfl|decide|exact .inl rfl|exact .inr rfl|(intros; rfl)) (by first|rfl|decide|exact .inl rfl|exact .inr rfl|(intros; rfl)) (by first|rfl|decide|exact .inl rfl|exact .inr rfl|(intros; rfl)) (by first|rfl|decide|exact .inl rfl|exact .inr rfl|(intros; rfl))) pa_nil (by first|rfl|decide|exact .inl rfl|exact .inr rfl|(intros; rfl))) (by first|rfl|decide|exact .inl rfl|exact .inr rfl|(intros; rfl)) (by first|rfl|decide|exact .inl rfl|exact .inr rfl|(intros; rfl)) (by first|rfl|decide|exact .inl rfl|exact .inr rfl|(intros; rfl)) (by first|rfl|decide|exact .inl rfl|exact .inr rfl|(intros; rfl))) (@pe_callB _ _ _ _ _ _ _ _ _ (call_repr hr) (by rfl) (by exact T.z_repr) (by exact bt_repr) (@pa_consN _ _ _ _ _ (@cc _ _ _ _ _ _ _ _ _ _ (by exact C_l_mean) (by exact (hr.mono (by decide))) (@pa_consN _ _ _ _ _ (pv 5) (@pa_consN _ _ _ _ _ (pv 10) pa_nil (by first|rfl|decide|exact .inl rfl|exact .inr rfl|(intros; rfl))) (by first|rfl|decide|exact .inl rfl|exact .inr rfl|(intros; rfl))) (by first|rfl|decide|exact .inl rfl|exact .inr rfl|(intros; rfl)) (by first|rfl|decide|exact .inl rfl|exact .inr rfl|(intros; rfl)) (by first|rfl|decide|exact .inl rfl|exact .inr rfl|(intros; rfl)) (by first|rfl|decide|exact .inl rfl|exact .inr rfl|(intros; rfl))) pa_nil (by first|rfl|decide|exact .inl rfl|exact .inr rfl|(intros; rfl))) (by first|rfl|decide|exact .inl rfl|exact .inr rfl|(intros; rfl)) (by first|rfl|decide|exact .inl rfl|exact .inr rfl|(intros; rfl)) (by first|rfl|decide|exact .inl rfl|exact .inr rfl|(intros; rfl)) (by first|rfl|decide|exact .inl rfl|exact .inr rfl|(intros; rfl))) (by exact (nomark _))) (@pss_one _ _ _ (@ps_ret _ _ _ _ pe_bl)) pss_nil))) (by first|rfl|decide|exact .inl rfl|exact .inr rfl|(intros; rfl))) (@pss_cons _ _ _ _ _ (@ps_for _ _ _ _ _ _ _ _ (by exact PassesOwn.never) (by rfl) (@pi_range1 _ _ _ _ _ _ (by rfl) (by exact T.z_range) (@pa_consN _ _ _ _ _ pe_int pa_nil (by first|rfl|decide|exact .inl rfl|exact .inr rfl|(intros; rfl))) (by first|rfl|decide|exact .inl rfl|exact .inr rfl|(intros; rfl))) (@pg_name _ _ (9) _ (by exact S.nd) (by rfl) (by first | exact Or.inl rfl | exact Or.inr rfl) (by first|rfl|decide|exact .inl rfl|exact .inr rfl|(intros; rfl))) (@pss_cons _ _ _ _ _ (@ps_set _ _ (11) _ _ _ _ (by exact S.nd) (by rfl) (by first | exact Or.inl rfl | exact Or.inr rfl) (@cc _ _ _ _ _ _ _ _ _ _ (by exact C_l_any) (by exact (hr.mono (by decide))) (@pa_consN _ _ _ _ _ (pv 1) (@pa_consN _ _ _ _ _ (pv 4) pa_nil (by first|rfl|decide|exact .inl rfl|exact .inr rfl|(intros; rfl))) (by first|rfl|decide|exact .inl rfl|exact .inr rfl|(intros; rfl))) (by first|rfl|decide|exact .inl rfl|exact .inr rfl|(intros; rfl)) (by first|rfl|decide|exact .inl rfl|exact .inr rfl|(intros; rfl)) (by first|rfl|decide|exact .inl rfl|exact .inr rfl|(intros; rfl)) (by first|rfl|decide|exact .inl rfl|exact .inr rfl|(intros; rfl))) (by first|rfl|decide|exact .inl rfl|exact .inr rfl|(intros; rfl)) (by first|rfl|decide|exact .inl rfl|exact .inr rfl|(intros; rfl))) (@pss_cons _ _ _ _ _ (@ps_set _ _ (12) _ _ _ _ (by exact S.nd) (by rfl) (by first | exact Or.inl rfl | exact Or.inr rfl) (@pe_ix _ _ _ _ _ _ _ ix_list (@pe_lst _ _ _ _ (@pa_consN _ _ _ _ _ (@cc _ _ _ _ _ _ _ _ _ _ (by exact C_l_draw) (by exact (hr.mono (by decide))) (@pa_consN _ _ _ _ _ (pv 1) (@pa_consN _ _ _ _ _ (@pe_op _ _ _ _ _ _ _ _ op_add (pv 3) pe_int) pa_nil (by first|rfl|decide|exact .inl rfl|exact .inr rfl|(intros; rfl))) (by first|rfl|decide|exact .inl rfl|exact .inr rfl|(intros; rfl))) (by first|rfl|decide|exact .inl rfl|exact .inr rfl|(intros; rfl)) (by first|rfl|decide|exact .inl rfl|exact .inr rfl|(intros; rfl)) (by first|rfl|decide|exact .inl rfl|exact .inr rfl|(intros; rfl)) (by first|rfl|decide|exact .inl rfl|exact .inr rfl|(intros; rfl))) (@pa_consN _ _ _ _ _ (@cc _ _ _ _ _ _ _ _ _ _ (by exact C_l_draw) (by exact (hr.mono (by decide))) (@pa_consN _ _ _ _ _ (pv 1) (@pa_consN _ _ _ _ _ (@pe_op _ _ _ _ _ _ _ _ op_add (pv 3) pe_int) pa_nil (by first|rfl|decide|exact .inl rfl|exact .inr rfl|(intros; rfl))) (by first|rfl|decide|exact .inl rfl|exact .inr rfl|(intros; rfl))) (by first|rfl|decide|exact .inl rfl|exact .inr rfl|(intros; rfl)) (by first|rfl|decide|exact .inl rfl|exact .inr rfl|(intros; rfl)) (by first|rfl|decide|exact .inl rfl|exact .inr rfl|(intros; rfl)) (by first|rfl|decide|exact .inl rfl|exact .inr rfl|(intros; rfl))) (@pa_consN _ _ _ _ _ (@cc _ _ _ _ _ _ _ _ _ _ (by exact C_l_any) (by exact (hr.mono (by decide))) (@pa_consN _ _ _ _ _ (pv 1) (@pa_consN _ _ _ _ _ (pv 3) pa_nil (by first|rfl|decide|exact .inl rfl|exact .inr rfl|(intros; rfl))) (by first|rfl|decide|exact .inl rfl|exact .inr rfl|(intros; rfl))) (by first|rfl|decide|exact .inl rfl|exact .inr rfl|(intros; rfl)) (by first|rfl|decide|exact .inl rfl|exact .inr rfl|(intros; rfl)) (by first|rfl|decide|exact .inl rfl|exact .inr rfl|(intros; rfl)) (by first|rfl|decide|exact .inl rfl|exact .inr rfl|(intros; rfl))) pa_nil (by first|rfl|decide|exact .inl rfl|exact .inr rfl|(intros; rfl))) (by first|rfl|decide|exact .inl rfl|exact .inr rfl|(intros; rfl))) (by first|rfl|decide|exact .inl rfl|exact .inr rfl|(intros; rfl)))) (@cc _ _ _ _ _ _ _ _ _ _ (by exact C_l_draw) (by exact (hr.mono (by decide))) (@pa_consN _ _ _ _ _ (pv 1) (@pa_consN _ _ _ _ _ pe_int pa_nil (by first|rfl|decide|exact .inl rfl|exact .inr rfl|(intros; rfl))) (by first|rfl|decide|exact .inl rfl|exact .inr rfl|(intros; rfl))) (by first|rfl|decide|exact .inl rfl|exact .inr rfl|(intros; rfl)) (by first|rfl|decide|exact .inl rfl|exact .inr rfl|(intros; rfl)) (by first|rfl|decide|exact .inl rfl|exact .inr rfl|(intros; rfl)) (by first|rfl|decide|exact .inl rfl|exact .inr rfl|(intros; rfl))) (by exact (fun _ _ => rfl))) (by first|rfl|decide|exact .inl rfl|exact .inr rfl|(intros; rfl)) (by first|rfl|decide|exact .inl rfl|exact .inr rfl|(intros; rfl))) (@pss_cons _ _ _ _ _ (@ps_set _ _ (13) _ _ _ _ (by exact S.nd) (by rfl) (by first | exact Or.inl rfl | exact Or.inr rfl) (@pe_callTy _ _ _ _ _ _ _ _ _ (call_dictT (by rfl) hu3) (by rfl) (by exact T.z_dict) (by exact bt_dict) (@pa_consN _ _ _ _ _ (@pe_thaw _ _ _ (@pe_comp _ _ _ _ _ _ _ _ _ _ _ _ _ (by rfl) (by exact (fun _ _ h => h)) (by decide +kernel) (by rfl) (by decide +kernel) (by exact hfr_of rfl) (by exact Sees.frees ["_law_load_here"] [("_law_m", 11)] (fr_cons ⟨rfl, rfl⟩ fr_nil)) (@pi_keysT _ _ _ _ (pv 5)) (fun _ _ _ _ _ => @pg_name _ _ (0) _ (by exact (show (["_law_load_here", "_law_m"] : List Str).Nodup by decide +kernel)) (by rfl) (by first | exact Or.inl rfl | exact Or.inr rfl) (by first|rfl|decide|exact .inl rfl|exact .inr rfl|(intros; rfl))) (fun _ _ _ _ _ => pts_nil) (fun _ _ _ _ _ => (@pe_tup _ _ _ _ _ (@pa_consN _ _ _ _ _ (pv 0) (@pa_consN _ _ _ _ _ (@pe_callTy _ _ _ _ _ _ _ _ _ call_int1 (by rfl) (by exact T.z_int) (by exact bt_int) (@pa_consN _ _ _ _ _ (@pe_cmpR _ _ _ _ _ _ _ _ op_ge (@pe_callB _ _ _ _ _ _ _ _ _ (call_maxB_K K (by rfl) false (by rfl)) (by rfl) (by exact T.z_max) (by exact bt_max) (@pa_consN _ _ _ _ _ (pv 0) pa_nil (by first|rfl|decide|exact .inl rfl|exact .inr rfl|(intros; rfl))) (by first|rfl|decide|exact .inl rfl|exact .inr rfl|(intros; rfl)) (by first|rfl|decide|exact .inl rfl|exact .inr rfl|(intros; rfl)) (by first|rfl|decide|exact .inl rfl|exact .inr rfl|(intros; rfl)) (by first|rfl|decide|exact .inl rfl|exact .inr rfl|(intros; rfl))) (pv 1) (by exact (nomark _))) pa_nil (by first|rfl|decide|exact .inl rfl|exact .inr rfl|(intros; rfl))) (by first|rfl|decide|exact .inl rfl|exact .inr rfl|(intros; rfl)) (by first|rfl|decide|exact .inl rfl|exact .inr rfl|(intros; rfl)) (by first|rfl|decide|exact .inl rfl|exact .inr rfl|(intros; rfl)) (by first|rfl|decide|exact .inl rfl|exact .inr rfl|(intros; rfl))) pa_nil (by first|rfl|decide|exact .inl rfl|exact .inr rfl|(intros; rfl))) (by first|rfl|decide|exact .inl rfl|exact .inr rfl|(intros; rfl))))) (by first|rfl|decide|exact .inl rfl|exact .inr rfl|(intros; rfl)))) pa_nil (by first|rfl|decide|exact .inl rfl|exact .inr rfl|(intros; rfl))) (by first|rfl|decide|exact .inl rfl|exact .inr rfl|(intros; rfl)) (by first|rfl|decide|exact .inl rfl|exact .inr rfl|(intros; rfl)) (by first|rfl|decide|exact .inl rfl|exact .inr rfl|(intros; rfl)) (by first|rfl|decide|exact .inl rfl|exact .inr rfl|(intros; rfl))) (by first|rfl|decide|exact .inl rfl|exact .inr rfl|(intros; rfl)) (by first|rfl|decide|exact .inl rfl|exact .inr rfl|(intros; rfl))) (@pss_cons _ _ _ _ _ (@ps_set _ _ (14) _ _ _ _ (by exact S.nd) (by rfl) (by first | exact Or.inl rfl | exact Or.inr rfl) (@pe_callTy _ _ _ _ _ _ _ _ _ (call_dictT (by rfl) hu3) (by rfl) (by exact T.z_dict) (by exact bt_dict) (@pa_consN _ _ _ _ _ (@pe_thaw _ _ _ (@pe_comp _ _ _ _ _ _ _ _ _ _ _ _ _ (by rfl) (by exact (fun _ _ h => h)) (by decide +kernel) (by rfl) (by decide +kernel) (by exact hfr_of rfl) (by exact Sees.frees ["_law_load_here"] [("_law_m", 11), ("_law_b", 12)] (fr_cons ⟨rfl, rfl⟩ (fr_cons ⟨rfl, rfl⟩ fr_nil))) (@pi_keysT _ _ _ _ (pv 5)) (fun _ _ _ _ _ => @pg_name _ _ (0) _ (by exact (show (["_law_load_here", "_law_m", "_law_b"] : List Str).Nodup by decide +kernel)) (by rfl) (by first | exact Or.inl rfl | exact Or.inr rfl) (by first|rfl|decide|exact .inl rfl|exact .inr rfl|(intros; rfl))) (fun _ _ _ _ _ => pts_nil) (fun _ _ _ _ _ => (@pe_tup _ _ _ _ _ (@pa_consN _ _ _ _ _ (pv 0) (@pa_consN _ _ _ _ _ (@pe_callTy _ _ _ _ _ _ _ _ _ call_int1 (by rfl) (by exact T.z_int) (by exact bt_int) (@pa_consN _ _ _ _ _ (@pe_cmpR _ _ _ _ _ _ _ _ op_ge (@pe_callB _ _ _ _ _ _ _ _ _ (call_len_K K (by rfl)) (by rfl) (by exact T.z_len) (by exact bt_len) (@pa_consN _ _ _ _ _ (@pe_comp _ _ _ _ _ _ _ _ _ _ _ _ _ (by rfl) (by exact (fun _ _ h => h)) (by decide +kernel) (by rfl) (by decide +kernel) (by exact hfr_of rfl) (by exact Sees.frees ["_law_number"] [("_law_m", 1)] (fr_cons ⟨rfl, rfl⟩ fr_nil)) (@pi_tup_K _ _ _ _ K (by rfl) (pv 0)) (fun _ _ _ _ _ => @pg_name _ _ (0) _ (by exact (show (["_law_number", "_law_m"] : List Str).Nodup by decide +kernel)) (by rfl) (by first | exact Or.inl rfl | exact Or.inr rfl) (by first|rfl|decide|exact .inl rfl|exact .inr rfl|(intros; rfl))) (fun _ _ _ _ _ => (@pts_one _ _ _ (@pt_cmpR _ _ _ _ _ _ _ _ op_ge (pv 0) (pv 1) (by exact (nomark _))))) (fun _ _ _ _ _ => pe_int) (by first|rfl|decide|exact .inl rfl|exact .inr rfl|(intros; rfl))) pa_nil (by first|rfl|decide|exact .inl rfl|exact .inr rfl|(intros; rfl))) (by first|rfl|decide|exact .inl rfl|exact .inr rfl|(intros; rfl)) (by first|rfl|decide|exact .inl rfl|exact .inr rfl|(intros; rfl)) (by first|rfl|decide|exact .inl rfl|exact .inr rfl|(intros; rfl)) (by first|rfl|decide|exact .inl rfl|exact .inr rfl|(intros; rfl))) (pv 2) (by exact (nomark _))) pa_nil (by first|rfl|decide|exact .inl rfl|exact .inr rfl|(intros; rfl))) (by first|rfl|decide|exact .inl rfl|exact .inr rfl|(intros; rfl)) (by first|rfl|decide|exact .inl rfl|exact .inr rfl|(intros; rfl)) (by first|rfl|decide|exact .inl rfl|exact .inr rfl|(intros; rfl)) (by first|rfl|decide|exact .inl rfl|exact .inr rfl|(intros; rfl))) pa_nil (by first|rfl|decide|exact .inl rfl|exact .inr rfl|(intros; rfl))) (by first|rfl|decide|exact .inl rfl|exact .inr rfl|(intros; rfl))))) (by first|rfl|decide|exact .inl rfl|exact .inr rfl|(intros; rfl)))) pa_nil (by first|rfl|decide|exact .inl rfl|exact .inr rfl|(intros; rfl))) (by first|rfl|decide|exact .inl rfl|exact .inr rfl|(intros; rfl)) (by first|rfl|decide|exact .inl rfl|exact .inr rfl|(intros; rfl)) (by first|rfl|decide|exact .inl rfl|exact .inr rfl|(intros; rfl)) (by first|rfl|decide|exact .inl rfl|exact .inr rfl|(intros; rfl))) (by first|rfl|decide|exact .inl rfl|exact .inr rfl|(intros; rfl)) (by first|rfl|decide|exact .inl rfl|exact .inr rfl|(intros; rfl))) (@pss_cons _ _ _ _ _ (@ps_if _ _ _ _ _ _ _ _ (@pt_cmpR _ _ _ _ _ _ _ _ op_ne (@pe_callB _ _ _ _ _ _ _ _ _ (call_repr hr) (by rfl) (by exact T.z_repr) (by exact bt_repr) (@pa_consN _ _ _ _ _ (@cc _ _ _ _ _ _ _ _ _ _ (by exact C_fullest_share) (by exact (hr.mono (by decide))) (@pa_consN _ _ _ _ _ (pv 6) (@pa_consN _ _ _ _ _ (pv 11) pa_nil (by first|rfl|decide|exact .inl rfl|exact .inr rfl|(intros; rfl))) (by first|rfl|decide|exact .inl rfl|exact .inr rfl|(intros; rfl))) (by first|rfl|decide|exact .inl rfl|exact .inr rfl|(intros; rfl)) (by first|rfl|decide|exact .inl rfl|exact .inr rfl|(intros; rfl)) (by first|rfl|decide|exact .inl rfl|exact .inr rfl|(intros; rfl)) (by first|rfl|decide|exact .inl rfl|exact .inr rfl|(intros; rfl))) pa_nil (by first|rfl|decide|exact .inl rfl|exact .inr rfl|(intros; rfl))) (by first|rfl|decide|exact .inl rfl|exact .inr rfl|(intros; rfl)) (by first|rfl|decide|exact .inl rfl|exact .inr rfl|(intros; rfl)) (by first|rfl|decide|exact .inl rfl|exact .inr rfl|(intros; rfl)) (by first|rfl|decide|exact .inl rfl|exact .inr rfl|(intros; rfl))) (@pe_callB _ _ _ _ _ _ _ _ _ (call_repr hr) (by rfl) (by exact T.z_repr) (by exact bt_repr) (@pa_consN _ _ _ _ _ (@cc _ _ _ _ _ _ _ _ _ _ (by exact C_l_mean) (by exact (hr.mono (by decide))) (@pa_consN _ _ _ _ _ (pv 5) (@pa_consN _ _ _ _ _ (pv 13) pa_nil (by first|rfl|decide|exact .inl rfl|exact .inr rfl|(intros; rfl))) (by first|rfl|decide|exact .inl rfl|exact .inr rfl|(intros; rfl))) (by first|rfl|decide|exact .inl rfl|exact .inr rfl|(intros; rfl)) (by first|rfl|decide|exact .inl rfl|exact .inr rfl|(intros; rfl)) (by first|rfl|decide|exact .inl rfl|exact .inr rfl|(intros; rfl)) (by first|rfl|decide|exact .inl rfl|exact .inr rfl|(intros; rfl))) pa_nil (by first|rfl|decide|exact .inl rfl|exact .inr rfl|(intros; rfl))) (by first|rfl|decide|exact .inl rfl|exact .inr rfl|(intros; rfl)) (by first|rfl|decide|exact .inl rfl|exact .inr rfl|(intros; rfl)) (by first|rfl|decide|exact .inl rfl|exact .inr rfl|(intros; rfl)) (by first|rfl|decide|exact .inl rfl|exact .inr rfl|(intros; rfl))) (by exact (nomark _))) (@pss_one _ _ _ (@ps_ret _ _ _ _ pe_bl)) pss_nil) (@pss_one _ _ _ (@ps_if _ _ _ _ _ _ _ _ (@pt_cmpR _ _ _ _ _ _ _ _ op_ne (@pe_callB _ _ _ _ _ _ _ _ _ (call_repr hr) (by rfl) (by exact T.z_repr) (by exact bt_repr) (@pa_consN _ _ _ _ _ (@cc _ _ _ _ _ _ _ _ _ _ (by exact C_many_share) (by exact (hr.mono (by decide))) (@pa_consN _ _ _ _ _ (pv 6) (@pa_consN _ _ _ _ _ (pv 11) (@pa_consN _ _ _ _ _ (pv 12) pa_nil (by first|rfl|decide|exact .inl rfl|exact .inr rfl|(intros; rfl))) (by first|rfl|decide|exact .inl rfl|exact .inr rfl|(intros; rfl))) (by first|rfl|decide|exact .inl rfl|exact .inr rfl|(intros; rfl))) (by first|rfl|decide|exact .inl rfl|exact .inr rfl|(intros; rfl)) (by first|rfl|decide|exact .inl rfl|exact .inr rfl|(intros; rfl)) (by first|rfl|decide|exact .inl rfl|exact .inr rfl|(intros; rfl)) (by first|rfl|decide|exact .inl rfl|exact .inr rfl|(intros; rfl))) pa_nil (by first|rfl|decide|exact .inl rfl|exact .inr rfl|(intros; rfl))) (by first|rfl|decide|exact .inl rfl|exact .inr rfl|(intros; rfl)) (by first|rfl|decide|exact .inl rfl|exact .inr rfl|(intros; rfl)) (by first|rfl|decide|exact .inl rfl|exact .inr rfl|(intros; rfl)) (by first|rfl|decide|exact .inl rfl|exact .inr rfl|(intros; rfl))) (@pe_callB _ _ _ _ _ _ _ _ _ (call_repr hr) (by rfl) (by exact T.z_repr) (by exact bt_repr) (@pa_consN _ _ _ _ _ (@cc _ _ _ _ _ _ _ _ _ _ (by exact C_l_mean) (by exact (hr.mono (by decide))) (@pa_consN _ _ _ _ _ (pv 5) (@pa_consN _ _ _ _ _ (pv 14) pa_nil (by first|rfl|decide|exact .inl rfl|exact .inr rfl|(intros; rfl))) (by first|rfl|decide|exact .inl rfl|exact .inr rfl|(intros; rfl))) (by first|rfl|decide|exact .inl rfl|exact .inr rfl|(intros; rfl)) (by first|rfl|decide|exact .inl rfl|exact .inr rfl|(intros; rfl)) (by first|rfl|decide|exact .inl rfl|exact .inr rfl|(intros; rfl)) (by first|rfl|decide|exact .inl rfl|exact .inr rfl|(intros; rfl))) pa_nil (by first|rfl|decide|exact .inl rfl|exact .inr rfl|(intros; rfl))) (by first|rfl|decide|exact .inl rfl|exact .inr rfl|(intros; rfl)) (by first|rfl|decide|exact .inl rfl|exact .inr rfl|(intros; rfl)) (by first|rfl|decide|exact .inl rfl|exact .inr rfl|(intros; rfl)) (by first|rfl|decide|exact .inl rfl|exact .inr rfl|(intros; rfl))) (by exact (nomark _))) (@pss_one _ _ _ (@ps_ret _ _ _ _ pe_bl)) pss_nil))))))) (by first|rfl|decide|exact .inl rfl|exact .inr rfl|(intros; rfl))) (@pss_one _ _ _ (@ps_if _ _ _ _ _ _ _ _ (@pt_cmpR _ _ _ _ _ _ _ _ op_ne (@pe_callB _ _ _ _ _ _ _ _ _ (call_repr hr) (by rfl) (by exact T.z_repr) (by exact bt_repr) (@pa_consN _ _ _ _ _ (pv 6) pa_nil (by first|rfl|decide|exact .inl rfl|exact .inr rfl|(intros; rfl))) (by first|rfl|decide|exact .inl rfl|exact .inr rfl|(intros; rfl)) (by first|rfl|decide|exact .inl rfl|exact .inr rfl|(intros; rfl)) (by first|rfl|decide|exact .inl rfl|exact .inr rfl|(intros; rfl)) (by first|rfl|decide|exact .inl rfl|exact .inr rfl|(intros; rfl))) (pv 7) (by exact (nomark _))) (@pss_one _ _ _ (@ps_ret _ _ _ _ pe_bl)) pss_nil)))))))))) (by first|rfl|decide|exact .inl rfl|exact .inr rfl|(intros; rfl))) (@pss_one _ _ _ (@ps_ret _ _ _ _ pe_bl)))), ?_⟩
  refine ⟨_, rfl, a, ns, rfl, ha, fun p H0 s0 pen0 => ?_⟩
  refine ⟨3, rfl, by decide, by decide, for_range (n := 3) (fun i σ H2 => (∃ o2 o3 o4 o5 o6 o7 o8 o9 o10 o11 o12 o13 o14, σ = [some (.ref a), some (.ref p), o2, o3, o4, o5, o6, o7, o8, o9, o10, o11, o12, o13, o14]) ∧ Pen H2 p (400 * i)) ⟨⟨_, _, _, _, _, _, _, _, _, _, _, _, _, rfl⟩, pen0⟩ ?_ ?_⟩
  · rintro i σ H2 hi ⟨⟨o2, o3, o4, o5, o6, o7, o8, o9, o10, o11, o12, o13, o14, rfl⟩, pen2⟩
    refine ⟨_, rfl, p, _, _, rfl, pen2, by omega, by decide, by decide, fun r1 H3 r10 r11 pen3 x3 => ⟨_, _, rfl, rfl, ?_⟩⟩
    refine ⟨_, rfl, lz 3 rfl, fun l hl => ?_⟩
    have s4 := same_new hl (.lst [.int 41, .int 13, .int 7])
    refine ⟨_, rfl, p, _, _, rfl, pen3.same s4, by omega, by decide, by decide, fun r2 H5 r20 r21 pen5 x5 => ?_⟩
    have hl5 := (pen3.same s4).keep x5 upd_same
    obtain ⟨c, hc, c0, c1⟩ : ∃ c : Int, atI [V.int 41, .int 13, .int 7] r2 = some (.int c) ∧ 1 ≤ c ∧ c ≤ 41 := by
      have : r2 = 0 ∨ r2 = 1 ∨ r2 = 2 := by omega
      rcases this with rfl | rfl | rfl
      · exact ⟨_, rfl, by decide, by decide⟩
      · exact ⟨_, rfl, by decide, by decide⟩
      · exact ⟨_, rfl, by decide, by decide⟩
    refine ⟨l, _, _, _, rfl, rfl, SqL.of hl5, hc, ?_⟩
    refine ⟨p, _, _, rfl, pen5, by omega, by omega, by omega, fun r3 H6 r30 r31 pen6 x6 => ?_⟩
    have hn' : (((1 + r1).toNat : Nat) : Int) = 1 + r1 := by omega
    have hb' : ((r3.toNat : Nat) : Int) = r3 := by omega
    refine ⟨_, rfl, _, rfl, _, rfl, p, (1 + r1).toNat, r3.toNat, _, (by rw [hn', hb']; rfl), by omega, by omega, by omega, pen6, by omega, fun d F H7 hd cn ne f4 pen7 x7 => ?_⟩
    have TB : Tb F (1 + r1).toNat r3.toNat := ⟨cn, ne, f4, by omega, by omega, by omega⟩
    obtain ⟨W0, W1⟩ := TB.W
    have M := TB.mn
    have LR := TB.ldr (valsM F).sum
    have gs := TB.goodS
    obtain ⟨DS, eS⟩ := opq (dSp (sprF F (valsM F).sum))
    rw [← eS] at gs
    refine ⟨_, rfl, d, F, rfl, hd, cn.nd, fun k hk => (TB.ld k hk).1, by omega, fun k hk => Int.le_of_lt (cn.pos k hk), W0, TB.mnm (wor_many 0 0) |>.sb, fun ls H8 s8 _ sp8 => ?_⟩
    refine ⟨_, rfl, _, DS, rfl, (by rw [eS]; exact sp_data sp8), gs.sh, gs.ld, gs.dp, gs.ln, ?_⟩
    have hd8 := s8 _ _ hd
    have pen8 := pen7.same s8
    -- the words
    refine ⟨lz 4 rfl, fun t ht => ?_⟩
    have s9 := same_new ht (.tup [.str "fullest", .str "emptiest", .str "gap", .str "squares"])
    have ht9 : upd H8 t (.tup [.str "fullest", .str "emptiest", .str "gap", .str "squares"]) t = _ := upd_same
    have hd9 := s9 _ _ hd8
    have sp9 := sp8.same s9
    have pen9 := pen8.same s9
    generalize upd H8 t (.tup [.str "fullest", .str "emptiest", .str "gap", .str "squares"]) = H9 at s9 ht9 hd9 sp9 pen9
    refine ⟨t, rfl, ⟨_, SqT.of ht9⟩, for_Y (yields_tup (xs := [V.str "fullest", .str "emptiest", .str "gap", .str "squares"])) (fun j σ H' => Same H9 H' ∧ ∃ o8, σ = [some (.ref a), some (.ref p), some (.int (0 + i)), some (.int (1 + r1)), some (.int r3), some (.ref d), some (.ref ls), some (.str DS.shown), o8, o9, o10, o11, o12, o13, o14]) ⟨Same.refl _, _, rfl⟩ ?_ ?_ ?_⟩
    · rintro j σ H' ⟨s', _⟩
      exact s' _ _ ht9
    · rintro j y σ H10 H10' hj ⟨s10, o8', rfl⟩ ⟨rfl, hy⟩
      obtain ⟨x, rfl, hx⟩ := word_at hy
      have hW := wor_W TB x
      have gd := TB.good hW
      obtain ⟨DW, eW⟩ := opq (dp (prq (Rat.divInt (dotM F (wrF (gW x) F)) (valsM F).sum)))
      rw [← eW] at gd
      refine gN_ ?_
      refine ⟨_, rfl, _, rfl, x, hx, ls, _, rfl, sp9.same s10, M, LR, fun v1 H11 s11 pr1 => ?_⟩
      rw [mean_eq cn.nd W0] at pr1
      refine ⟨_, DW, rfl, (by rw [eW]; exact pr_data pr1), gd.sh, gd.ld, gd.dp, gd.ln, ?_⟩
      have sA := s10.trans s11
      refine ⟨_, rfl, _, rfl, _, rfl, d, x, F, rfl, hx, sA _ _ hd9, cn.nd, by omega, TB.ld, fun e H12 s12 en he => ?_⟩
      refine ⟨d, e, F, wrF (gW x) F, rfl, (sA.trans s12) _ _ hd9, he, ne_of_none (sA _ _ hd9) en, TB.mnm hW, fun v2 H13 s13 pr2 => ?_⟩
      rw [low_pr W0] at pr2
      refine ⟨_, DW, rfl, (by rw [eW]; exact pr_data pr2), gd.sh, gd.ld, gd.dp, gd.ln, rfl, _, rfl, iteNS (Eq.refl _) ?_⟩
      exact ⟨sA.trans (s12.trans s13), _, rfl⟩
    rintro σ H10 ⟨s10, o8', rfl⟩
    have hd10 := s10 _ _ hd9
    have sp10 := sp9.same s10
    have pen10 := pen9.same s10
    clear hd9 sp9 pen9 hd8 pen8 sp8
    -- the first boxes
    refine ⟨_, rfl, _, _, rfl, rfl, (1 + r1) + 1, rfl, by omega, by omega, for_range (n := ((1 + r1) + 1).toNat) (fun j σ H' => Same H10 H' ∧ ∃ o9 o10, σ = [some (.ref a), some (.ref p), some (.int (0 + i)), some (.int (1 + r1)), some (.int r3), some (.ref d), some (.ref ls), some (.str DS.shown), o8', o9, o10, o11, o12, o13, o14]) ⟨Same.refl _, _, _, rfl⟩ ?_ ?_⟩
    · rintro j σ H11 hj ⟨s11, o9', o10', rfl⟩
      have hW := wor_sum TB j
      have gd := TB.good hW
      obtain ⟨DW, eW⟩ := opq (dp (prq (Rat.divInt (dotM F (wrF (gSum j) F)) (valsM F).sum)))
      rw [← eW] at gd
      refine gN_ ?_
      refine dict_comp (d := d) (m := F) (g := gSum j) (tail := [some (.int (0 + j))]) rfl rfl (s11 _ _ hd10) (by omega) (fun b k H' Q' hk hb hq => ?_) (fun l2 ys H12 s12 hl2 yl rw2 => ?_)
      · refine ⟨_, rfl, _, rfl, _, rfl, b, _, rfl, hb, fun c2 H5 s5 hc2 => ?_⟩
        rw [Int.zero_add, cut_to] at hc2
        exact ⟨c2, _, rfl, hc2, hq H5 s5⟩
      refine ⟨l2, ys, _, rfl, hl2, rw2, yl, fun e he => ?_⟩
      rw [merge_self _ _ rfl (by rw [wr_keys]; exact cn.nd)]
      have s13 := same_new he (.dT ((wrF (gSum j) F).map kII))
      have he13 : upd H12 e (.dT ((wrF (gSum j) F).map kII)) e = some (dI (wrF (gSum j) F)) := upd_same
      have sA := s11.trans (s12.trans s13)
      have de : d ≠ e := ne_of_none ((s11.trans s12) _ _ hd10) he
      generalize upd H12 e (.dT ((wrF (gSum j) F).map kII)) = H13 at s13 he13 sA
      refine ⟨_, rfl, _, rfl, j, ls, _, (by rw [Int.zero_add]; rfl), sp10.same sA, M, LR, fun v1 H14 s14 pr1 => ?_⟩
      rw [mean_eq cn.nd W0] at pr1
      refine ⟨_, DW, rfl, (by rw [eW]; exact pr_data pr1), gd.sh, gd.ld, gd.dp, gd.ln, ?_⟩
      refine ⟨_, rfl, _, rfl, d, e, F, wrF (gSum j) F, rfl, (sA.trans s14) _ _ hd10, s14 _ _ he13, de, TB.mnm hW, fun v2 H15 s15 pr2 => ?_⟩
      rw [low_pr W0] at pr2
      refine ⟨_, DW, rfl, (by rw [eW]; exact pr_data pr2), gd.sh, gd.ld, gd.dp, gd.ln, rfl, _, rfl, iteNS (Eq.refl _) ?_⟩
      exact ⟨sA.trans (s14.trans s15), _, _, rfl⟩
    rintro σ H11 ⟨s11, o9', o10', rfl⟩
    have hd11 := s11 _ _ hd10
    have sp11 := sp10.same s11
    have pen11 := pen10.same s11
    clear hd10 sp10 pen10
    -- the shares
    obtain ⟨kv11, dk11⟩ := pen11.dk
    refine ⟨8, rfl, by decide, by decide, for_range (n := 8) (fun j σ H' => (SameX p H11 H' ∧ Pen H' p (400 * i + 210 + 12 * j)) ∧ ∃ o9 o11 o12 o13 o14, σ = [some (.ref a), some (.ref p), some (.int (0 + i)), some (.int (1 + r1)), some (.int r3), some (.ref d), some (.ref ls), some (.str DS.shown), o8', o9, o10', o11, o12, o13, o14]) ⟨⟨SameX.refl _ _, pen11.mono (by omega)⟩, _, _, _, _, _, rfl⟩ ?_ ?_⟩
    · rintro j σ H12 hj ⟨⟨x12, pen12⟩, o9'', o11', o12', o13', o14', rfl⟩
      refine gN_ ?_
      refine ⟨_, rfl, _, rfl, p, r3.toNat, _, (by rw [hb']; rfl), by omega, pen12, by omega, fun mm H13 m0 m1 pen13 x13 => ?_⟩
      refine ⟨_, rfl, _, rfl, _, _, rfl, rfl, p, _, _, rfl, pen13, by omega, by omega, by omega, fun r5 H14 r50 r51 pen14 x14 => ?_⟩
      refine ⟨_, rfl, _, rfl, _, _, rfl, rfl, p, _, _, rfl, pen14, by omega, by omega, by omega, fun r6 H15 r60 r61 pen15 x15 => ?_⟩
      refine ⟨_, rfl, _, rfl, p, (1 + r1).toNat, _, (by rw [hn']; rfl), by omega, pen15, by omega, fun r7 H16 r70 r71 pen16 x16 => ?_⟩
      refine ⟨lz 3 rfl, fun l3 hl3 => ?_⟩
      have s17 := same_new hl3 (.lst [.int r5, .int r6, .int r7])
      refine ⟨_, rfl, p, _, _, rfl, pen16.same s17, by omega, by decide, by decide, fun r8 H18 r80 r81 pen18 x18 => ?_⟩
      have hl18 := (pen16.same s17).keep x18 upd_same
      obtain ⟨bb, hbb⟩ : ∃ c : Int, atI [V.int r5, .int r6, .int r7] r8 = some (.int c) := by
        have : r8 = 0 ∨ r8 = 1 ∨ r8 = 2 := by omega
        rcases this with rfl | rfl | rfl
        · exact ⟨_, rfl⟩
        · exact ⟨_, rfl⟩
        · exact ⟨_, rfl⟩
      refine ⟨l3, _, _, _, rfl, rfl, SqL.of hl18, hbb, ?_⟩
      have xA := x12.trans (x13.trans (x14.trans (x15.trans (x16.trans ((Same.x s17).trans x18)))))
      have hd18 := pen11.keep xA hd11
      have sp18 := sp11.sameX dk11 xA
      have pen18' := pen18.mono (show _ ≤ 400 * i + 210 + 12 * (j + 1) by omega)
      clear x12 x13 x14 x15 x16 s17 x18 pen12 pen13 pen14 pen15 pen16 pen18 hl18
      -- full
      have hW1 := wor_many (F := F) mm 1
      have g1 := TB.good hW1
      obtain ⟨D1, e1⟩ := opq (dp (prq (Rat.divInt (dotM F (wrF (gMany mm 1) F)) (valsM F).sum)))
      rw [← e1] at g1
      have hW2 := wor_many (F := F) mm bb
      have g2 := TB.good hW2
      obtain ⟨D2, e2⟩ := opq (dp (prq (Rat.divInt (dotM F (wrF (gMany mm bb) F)) (valsM F).sum)))
      rw [← e2] at g2
      refine dict_comp (d := d) (m := F) (g := gMany mm 1) (tail := [some (.int mm)]) rfl rfl hd18 (by omega) (fun b k H' Q' hk hb hq => ?_) (fun l4 ys4 H19 s19 hl4 yl4 rw4 => ?_)
      · refine ⟨_, rfl, b, k, rfl, SqB.of (b := false) hb, (TB.ld k hk).1, fun Mx hM hmax => ⟨_, rfl, _, _, rfl, rfl, .inr ⟨_, rfl, ?_⟩⟩⟩
        rw [box_max hM hmax]
        exact hq H' (Same.refl _)
      refine ⟨l4, ys4, _, rfl, hl4, rw4, yl4, fun q1 hq1 => ?_⟩
      rw [merge_self _ _ rfl (by rw [wr_keys]; exact cn.nd)]
      have s20 := same_new hq1 (.dT ((wrF (gMany mm 1) F).map kII))
      have hq20 : upd H19 q1 (.dT ((wrF (gMany mm 1) F).map kII)) q1 = some (dI (wrF (gMany mm 1) F)) := upd_same
      have dq1 : d ≠ q1 := ne_of_none (s19 _ _ hd18) hq1
      have sA := s19.trans s20
      generalize upd H19 q1 (.dT ((wrF (gMany mm 1) F).map kII)) = H20 at s20 hq20 sA
      have hd20 := sA _ _ hd18
      -- wide
      refine dict_comp (d := d) (m := F) (g := gMany mm bb) (tail := [some (.int mm), some (.int bb)]) rfl rfl hd20 (by omega) (fun b k H' Q' hk hb hq => ?_) (fun l5 ys5 H21 s21 hl5 yl5 rw5 => ?_)
      · have k6 := (TB.ld k hk).2.1
        refine ⟨_, rfl, b, rfl, ⟨_, SqT.of hb⟩, comp_Y (yields_tup (xs := iv k)) (fun p i ys σ' H'' => Same H' H'' ∧ (∃ o1, σ' = [o1, some (.int mm)]) ∧ ys.length = ((k.take i).filter fun x => decide (mm ≤ x)).length) (by simp; omega) ?_ ?_ ?_ ?_⟩
        · exact fun p hp => ⟨same_new hp _, ⟨_, rfl⟩, rfl⟩
        · rintro p i ys σ' H'' hp ⟨s', _⟩
          exact s' _ _ hb
        · rintro p i ys σ' H'' x H3 hp hi hl' ⟨s', ⟨o1, rfl⟩, yl⟩ hp' ⟨rfl, hx⟩ Q1 Q2 h1 h2
          rw [List.getElem?_map, Option.map_eq_some_iff] at hx
          obtain ⟨z, hz, rfl⟩ := hx
          refine gN_ ⟨_, rfl, _, rfl, _, _, rfl, rfl, _, rfl, ?_⟩
          have e := take_snoc hz
          refine ite2 (fun c => ?_) (fun c => ?_)
          · have c' : mm ≤ z := of_decide_eq_true c
            refine h1 _ _ _ hp' ⟨same_updN hp s' _, ⟨_, rfl⟩, ?_⟩
            rw [e, List.filter_append, List.length_append, List.length_append, yl]
            simp [c']
          · have c' : ¬ mm ≤ z := fun z => c (decide_eq_true z)
            refine h2 _ _ hp' ⟨s', ⟨_, rfl⟩, ?_⟩
            rw [e, List.filter_append, yl]
            simp [c']
        · rintro p2 ys σ' H'' hp ⟨s', _, yl⟩ hp' hl'
          rw [List.take_of_length_le (by simp)] at yl
          refine ⟨p2, ys, rfl, .inl (SqL.of hp'), _, rfl, _, _, rfl, rfl, .inr ⟨_, rfl, ?_⟩⟩
          have := hq H'' s'
          unfold gMany gBox at this
          rw [yl]
          by_cases z : bb ≤ ((k.filter fun x => decide (mm ≤ x)).length : Nat)
          · rw [if_pos z] at this; rw [if_pos (decide_eq_true z)]; exact this
          · rw [if_neg z] at this; rw [if_neg (fun q => z (of_decide_eq_true q))]; exact this
      refine ⟨l5, ys5, _, rfl, hl5, rw5, yl5, fun q2 hq2 => ?_⟩
      rw [merge_self _ _ rfl (by rw [wr_keys]; exact cn.nd)]
      have s22 := same_new hq2 (.dT ((wrF (gMany mm bb) F).map kII))
      have hq22 : upd H21 q2 (.dT ((wrF (gMany mm bb) F).map kII)) q2 = some (dI (wrF (gMany mm bb) F)) := upd_same
      have dq2 : d ≠ q2 := ne_of_none (s21 _ _ hd20) hq2
      have sB := sA.trans (s21.trans s22)
      have hq1' := (s21.trans s22) _ _ hq20
      generalize upd H21 q2 (.dT ((wrF (gMany mm bb) F).map kII)) = H22 at s22 hq22 sB hq1'
      refine ⟨_, rfl, _, rfl, mm, ls, _, rfl, sp18.same sB, M, LR, fun v1 H23 s23 pr1 => ?_⟩
      rw [mean_eq cn.nd W0] at pr1
      refine ⟨_, D1, rfl, (by rw [e1]; exact pr_data pr1), g1.sh, g1.ld, g1.dp, g1.ln, ?_⟩
      refine ⟨_, rfl, _, rfl, d, q1, F, wrF (gMany mm 1) F, rfl, (sB.trans s23) _ _ hd18, s23 _ _ hq1', dq1, TB.mnm hW1, fun v2 H24 s24 pr2 => ?_⟩
      rw [low_pr W0] at pr2
      refine ⟨_, D1, rfl, (by rw [e1]; exact pr_data pr2), g1.sh, g1.ld, g1.dp, g1.ln, rfl, _, rfl, iteNS (Eq.refl _) ?_⟩
      have sC := sB.trans (s23.trans s24)
      refine ⟨_, rfl, _, rfl, _, rfl, mm, bb, ls, _, rfl, sp18.same sC, M, LR, fun v3 H25 s25 pr3 => ?_⟩
      rw [mean_eq cn.nd W0] at pr3
      refine ⟨_, D2, rfl, (by rw [e2]; exact pr_data pr3), g2.sh, g2.ld, g2.dp, g2.ln, ?_⟩
      refine ⟨_, rfl, _, rfl, d, q2, F, wrF (gMany mm bb) F, rfl, (sC.trans s25) _ _ hd18, (s23.trans (s24.trans s25)) _ _ hq22, dq2, TB.mnm hW2, fun v4 H26 s26 pr4 => ?_⟩
      rw [low_pr W0] at pr4
      refine ⟨_, D2, rfl, (by rw [e2]; exact pr_data pr4), g2.sh, g2.ld, g2.dp, g2.ln, rfl, _, rfl, iteNS (Eq.refl _) ?_⟩
      have sD := sC.trans (s25.trans s26)
      exact ⟨⟨xA.trans (Same.x sD), pen18'.same sD⟩, _, _, _, _, _, rfl⟩
    rintro σ H12 ⟨⟨x12, pen12⟩, o9'', o11', o12', o13', o14', rfl⟩
    have sp12 := sp11.sameX dk11 x12
    refine ⟨_, rfl, _, DS, rfl, (by rw [eS]; exact sp_data sp12), gs.sh, gs.ld, gs.dp, gs.ln, _, rfl, rfl, _, rfl, iteNS (Eq.refl _) ?_⟩
    exact ⟨⟨_, _, _, _, _, _, _, _, _, _, _, _, _, rfl⟩, pen12.mono (by omega)⟩
  · rintro σ H2 ⟨⟨o2, o3, o4, o5, o6, o7, o8, o9, o10, o11, o12, o13, o14, rfl⟩, pen⟩
    exact k _
end
end My

set_option Elab.async false
set_option linter.all false
set_option maxRecDepth 100000
set_option maxHeartbeats 1000000
namespace My
open PySem L2 MA Srt
/-- WORDS, as it lies -/
def TabF (w : World) (K : PySem.W.Frag) (mg : Str → Option Value) (wd : Addr) : Prop := ∃ (f1 f2 f3 f4 : Addr) (t1 t2 t3 t4 : Tok) (ep : Nat), List.lookup wd K = some ⟨.type "dict", none, .dict #[⟨hashStr w "fullest", .str "fullest" t1, .ref f1⟩, ⟨hashStr w "emptiest", .str "emptiest" t2, .ref f2⟩, ⟨hashStr w "gap", .str "gap" t3, .ref f3⟩, ⟨hashStr w "squares", .str "squares" t4, .ref f4⟩] ep, #[]⟩ ∧ mg "fullest" = some (.ref f1) ∧ mg "emptiest" = some (.ref f2) ∧ mg "gap" = some (.ref f3) ∧ mg "squares" = some (.ref f4)
theorem tab_mk {w : World} {K : PySem.W.Frag} {h : Heap} {mg : Str → Option Value} (X : K.In h) (G : h.Ns mainGlobals mg) {wd f1 f2 f3 f4 : Addr} {t1 t2 t3 t4 : Tok} {h1 h2 h3 h4 : Int} {ep : Nat}
    (a : PySem.W.nsIn K mainGlobals "WORDS" = some (some (.ref wd))) (l : List.lookup wd K = some ⟨.type "dict", none, .dict #[⟨h1, .str "fullest" t1, .ref f1⟩, ⟨h2, .str "emptiest" t2, .ref f2⟩, ⟨h3, .str "gap" t3, .ref f3⟩, ⟨h4, .str "squares" t4, .ref f4⟩] ep, #[]⟩)
    (e1 : h1 = hashStr w "fullest") (e2 : h2 = hashStr w "emptiest") (e3 : h3 = hashStr w "gap") (e4 : h4 = hashStr w "squares")
    (n1 : PySem.W.nsIn K mainGlobals "fullest" = some (some (.ref f1))) (n2 : PySem.W.nsIn K mainGlobals "emptiest" = some (some (.ref f2))) (n3 : PySem.W.nsIn K mainGlobals "gap" = some (some (.ref f3))) (n4 : PySem.W.nsIn K mainGlobals "squares" = some (some (.ref f4))) : ∃ wd, mg "WORDS" = some (.ref wd) ∧ TabF w K mg wd := by
  subst e1 e2 e3 e4
  exact ⟨wd, PySem.W.mg_of X G a, f1, f2, f3, f4, t1, t2, t3, t4, ep, l, PySem.W.mg_of X G n1, PySem.W.mg_of X G n2, PySem.W.mg_of X G n3, PySem.W.mg_of X G n4⟩
theorem words_of {P : Program} {w : World} {K : PySem.W.Frag} {mg : Str → Option Value} {base : Heap} {wd : Addr} (WD : TabF w K mg wd) (c1 : Cal P w K mg base "fullest" ["load"] 1 (spNum gFull)) (c2 : Cal P w K mg base "emptiest" ["load"] 1 (spNum gEmpt)) (c3 : Cal P w K mg base "gap" ["load"] 1 (spNum gGap)) (c4 : Cal P w K mg base "squares" ["load"] 1 (spNum gSq)) : Words P w K mg base wd := by
  obtain ⟨f1, f2, f3, f4, t1, t2, t3, t4, ep, l, m1, m2, m3, m4⟩ := WD
  refine ⟨fun x => if x = "fullest" then some f1 else if x = "emptiest" then some f2 else if x = "gap" then some f3 else if x = "squares" then some f4 else none, ⟨_, ep, l, fun e he => ?_, fun x a hx => ?_⟩, fun x hx => ?_⟩
  · simp at he
    rcases he with rfl | rfl | rfl | rfl
    · exact ⟨.inr "fullest", rfl, rfl⟩
    · exact ⟨.inr "emptiest", rfl, rfl⟩
    · exact ⟨.inr "gap", rfl, rfl⟩
    · exact ⟨.inr "squares", rfl, rfl⟩
  · have hw : x = "fullest" ∨ x = "emptiest" ∨ x = "gap" ∨ x = "squares" := by
      by_cases z1 : x = "fullest"
      · exact .inl z1
      by_cases z2 : x = "emptiest"
      · exact .inr (.inl z2)
      by_cases z3 : x = "gap"
      · exact .inr (.inr (.inl z3))
      by_cases z4 : x = "squares"
      · exact .inr (.inr (.inr z4))
      simp [z1, z2, z3, z4] at hx
    rcases hw with rfl | rfl | rfl | rfl
    · have : f1 = a := Option.some.inj (show some f1 = some a from hx)
      subst this; rfl
    · have : f2 = a := Option.some.inj (show some f2 = some a from hx)
      subst this; rfl
    · have : f3 = a := Option.some.inj (show some f3 = some a from hx)
      subst this; rfl
    · have : f4 = a := Option.some.inj (show some f4 = some a from hx)
      subst this; rfl
  · rcases hx with rfl | rfl | rfl | rfl
    · exact ⟨f1, rfl, c1.fnT m1⟩
    · exact ⟨f2, rfl, c2.fnT m2⟩
    · exact ⟨f3, rfl, c3.fnT m3⟩
    · exact ⟨f4, rfl, c4.fnT m4⟩
end My

set_option Elab.async false
set_option linter.all false
set_option maxRecDepth 100000
set_option maxHeartbeats 4000000
namespace My
open PySem L2 MA
structure Funs (K : PySem.W.Frag) (mg : Str → Option Value) : Prop where
  f_measure : FunAt K mg "measure" ["a", "b"] s_measure
  f_parted : FunAt K mg "parted" ["top", "bottoms"] s_parted
  f_weighed : FunAt K mg "weighed" ["some"] s_weighed
  f_fullest : FunAt K mg "fullest" ["load"] s_fullest
  f_emptiest : FunAt K mg "emptiest" ["load"] s_emptiest
  f_gap : FunAt K mg "gap" ["load"] s_gap
  f_squares : FunAt K mg "squares" ["load"] s_squares
  f_mean_of : FunAt K mg "mean_of" ["spread", "numbers"] s_mean_of
  f_mean : FunAt K mg "mean" ["spread", "word"] s_mean
  f_first_mean : FunAt K mg "first_mean" ["spread", "k"] s_first_mean
  f_fullest_share : FunAt K mg "fullest_share" ["spread", "m"] s_fullest_share
  f_many_share : FunAt K mg "many_share" ["spread", "m", "b"] s_many_share
  f_boxes_with : FunAt K mg "boxes_with" ["load", "m"] s_boxes_with
  f_l_pen : FunAt K mg "_law_pen" ["_law_script"] s_l_pen
  f_l_draw : FunAt K mg "_law_draw" ["_law_pen_here", "_law_many"] s_l_draw
  f_l_measure : FunAt K mg "_law_measure" ["_law_a", "_law_b"] s_l_measure
  f_l_lowest : FunAt K mg "_law_lowest" ["_law_top", "_law_bottom"] s_l_lowest
  f_l_load : FunAt K mg "_law_load" ["_law_pen_here", "_law_n", "_law_balls"] s_l_load
  f_l_counted : FunAt K mg "_law_counted" ["_law_pen_here", "_law_n", "_law_balls"] s_l_counted
  f_l_spread : FunAt K mg "_law_spread" ["_law_found"] s_l_spread
  f_l_mean : FunAt K mg "_law_mean" ["_law_found", "_law_worths"] s_l_mean
  f_l_by : FunAt K mg "_law_by" ["_law_found", "_law_word"] s_l_by
  f_l_any : FunAt K mg "_law_any" ["_law_pen_here", "_law_most"] s_l_any
theorem all_mk {l : PySem.W.OpenLaw} {w : World} {K : PySem.W.Frag} {h : Heap} {mg : Str → Option Value} {fa f3 : Addr} (X : K.In h) (G : h.Ns mainGlobals mg) (hfa : mg "law" = some (.ref fa))
    {od3 an3 : Option Addr} {sl3 : Array (Option Value)} {oc3 kV3 dc3 pm3 cd3 ct3 : Value} (T : Txt2 mg) (FA : Funs K mg) {wd : Addr} (hwd : mg "WORDS" = some (.ref wd)) (WD : TabF w K mg wd)
    (a3 : PySem.W.nsIn K mainGlobals "law" = some (some (.ref f3))) (l3 : K.lookup f3 = some ⟨oc3, od3, .func (PySem.W.fnOf "law" "law" (defArgs s_law) (defBody s_law) (defScope s_law) .none kV3 dc3 pm3 an3 cd3 ct3), sl3⟩) (c3 : PySem.W.codeIn K cd3 "law" = true) (k3 : PySem.W.keepIn K (.ref f3) = true) :
    ∃ fd : FuncData, (∀ (s : Shared) (v : Value), BindsTo s fd ⟨[v], []⟩ [("_law_script", v)]) ∧ ∀ base : Heap, K.In base → base.Ns mainGlobals mg → FnOk l.prog w K mg base CX0 6 fa fd ["_law_script"] (spLaw K) := by
  have e := hfa.symm.trans (PySem.W.mg_of X G a3)
  cases e
  have F3 := fun_mk (st := s_law) l3 c3 k3
  refine ⟨PySem.W.fnOf "law" "law" (defArgs s_law) (defBody s_law) (defScope s_law) .none kV3 dc3 pm3 an3 cd3 ct3, fun s v => .of_eq rfl, fun base _ _ => ?_⟩
  have c_measure := ok_measure (P := l.prog) (w := w) (base := base) T.toTxt FA.f_measure
  have c_parted := ok_parted c_measure FA.f_parted
  have c_weighed := ok_weighQ c_measure FA.f_weighed
  have c_fullest := ok_fullest (P := l.prog) (w := w) (base := base) FA.f_fullest
  have c_emptiest := ok_emptiest (P := l.prog) (w := w) (base := base) FA.f_emptiest
  have c_gap := ok_gap (P := l.prog) (w := w) (base := base) FA.f_gap
  have c_squares := ok_squares (P := l.prog) (w := w) (base := base) T FA.f_squares
  have c_meanof := ok_meanof T c_weighed c_parted FA.f_mean_of
  have WW := words_of WD c_fullest c_emptiest c_gap c_squares
  have c_mean := ok_mean T hwd WW c_meanof FA.f_mean
  have c_first := ok_first T c_meanof FA.f_first_mean
  have c_box := ok_box (P := l.prog) (w := w) (base := base) T FA.f_boxes_with
  have c_many := ok_many T c_box c_meanof FA.f_many_share
  have c_fulls := ok_fulls c_many FA.f_fullest_share
  have c_pen := ok_pen (P := l.prog) (w := w) (base := base) FA.f_l_pen
  have c_draw := ok_draw2 (P := l.prog) (w := w) (base := base) T.toTxt FA.f_l_draw
  have c_lmeasure := ok_lmeasure (P := l.prog) (w := w) (base := base) FA.f_l_measure
  have c_lowest := ok_lowest c_lmeasure FA.f_l_lowest
  have c_load := ok_lload T c_draw FA.f_l_load
  have c_counted := ok_counted T c_draw c_load FA.f_l_counted
  have c_lspread := ok_lspread T c_lowest FA.f_l_spread
  have c_lmean := ok_lmean T c_lowest FA.f_l_mean
  have c_by := ok_by (P := l.prog) (w := w) (base := base) T FA.f_l_by
  have c_any := ok_lany T c_draw FA.f_l_any
  exact ok_law T c_pen c_draw c_counted c_lspread c_mean c_lmean c_by c_first c_any c_fulls c_many F3
theorem walk {l : PySem.W.OpenLaw} {q : Program} {loose : List Str} {XP : (Str → Option Value) → Heap → Prop} {YP : World → Heap → Prop} {d : DefRec} {K : Params → PySem.W.Frag} (hn : l.most = some 63) (hdf : d.params.defaults = [])
    (hY : ∀ (w : World) (h : Heap), YP w h → (K w.params).In h)
    (F : ∀ (w : World) (mg : Str → Option Value) (fa : Addr) (h : Heap), (K w.params).In h → h.Ns mainGlobals mg → mg d.name = some (.ref fa) →
      ∃ fd : FuncData, (∀ (s : Shared) (u : Value), BindsTo s fd ⟨[u], []⟩ [("_law_script", u)]) ∧ ∀ base : Heap, (K w.params).In base → base.Ns mainGlobals mg → FnOk l.prog w (K w.params) mg base CX0 6 fa fd ["_law_script"] (spLaw (K w.params))) :
    PySem.W.WalkO q loose XP YP l.row.toRowW d [] (fun f vs => PySem.call f vs) :=
  L2.walk_of (n := 63) (k := 6) (x := "_law_script") (CX := fun _ => CX0) (sp := fun w => spLaw (K w.params)) hn (by decide) hdf ⟨rfl, by decide, by decide, rfl⟩ hY F (fun _ _ a ns hl _ hS => ⟨a, ns, rfl, hS, hl, fun _ => rfl⟩) fun _ _ _ _ _ z => z
theorem txt_mk {K : PySem.W.Frag} {h : Heap} {mg : Str → Option Value} (X : K.In h) (G : h.Ns mainGlobals mg)
    (z_abs : PySem.W.nsIn K mainGlobals "abs" = some none)
    (z_len : PySem.W.nsIn K mainGlobals "len" = some none)
    (z_isinstance : PySem.W.nsIn K mainGlobals "isinstance" = some none)
    (z_range : PySem.W.nsIn K mainGlobals "range" = some none)
    (z_int : PySem.W.nsIn K mainGlobals "int" = some none)
    (z_bool : PySem.W.nsIn K mainGlobals "bool" = some none)
    (z_tuple : PySem.W.nsIn K mainGlobals "tuple" = some none)
    (z_list : PySem.W.nsIn K mainGlobals "list" = some none)
    (z_all : PySem.W.nsIn K mainGlobals "all" = some none)
    (z_str : PySem.W.nsIn K mainGlobals "str" = some none)
    (z_repr : PySem.W.nsIn K mainGlobals "repr" = some none)
    (z_dict : PySem.W.nsIn K mainGlobals "dict" = some none)
    (z_sum : PySem.W.nsIn K mainGlobals "sum" = some none)
    (z_sorted : PySem.W.nsIn K mainGlobals "sorted" = some none)
    (z_max : PySem.W.nsIn K mainGlobals "max" = some none)
    (z_min : PySem.W.nsIn K mainGlobals "min" = some none)
    (z_any : PySem.W.nsIn K mainGlobals "any" = some none)
    (z_enumerate : PySem.W.nsIn K mainGlobals "enumerate" = some none)
    (z_zip : PySem.W.nsIn K mainGlobals "zip" = some none)
    (z_set : PySem.W.nsIn K mainGlobals "set" = some none)
    (z_reversed : PySem.W.nsIn K mainGlobals "reversed" = some none)
    (z_ValueError : PySem.W.nsIn K mainGlobals "ValueError" = some none)
    : Txt2 mg := ⟨⟨PySem.W.mg_none_of X G z_abs, PySem.W.mg_none_of X G z_len, PySem.W.mg_none_of X G z_isinstance, PySem.W.mg_none_of X G z_range, PySem.W.mg_none_of X G z_int, PySem.W.mg_none_of X G z_bool, PySem.W.mg_none_of X G z_tuple, PySem.W.mg_none_of X G z_list, PySem.W.mg_none_of X G z_all⟩, PySem.W.mg_none_of X G z_str, PySem.W.mg_none_of X G z_repr, PySem.W.mg_none_of X G z_dict, PySem.W.mg_none_of X G z_sum, PySem.W.mg_none_of X G z_sorted, PySem.W.mg_none_of X G z_max, PySem.W.mg_none_of X G z_min, PySem.W.mg_none_of X G z_any, PySem.W.mg_none_of X G z_enumerate, PySem.W.mg_none_of X G z_zip, PySem.W.mg_none_of X G z_set, PySem.W.mg_none_of X G z_reversed, PySem.W.mg_none_of X G z_ValueError⟩
end My
open PySem PySem.W PyProof.Rows
set_option maxRecDepth 100000 in
set_option maxHeartbeats 0 in
theorem PySem.Challenge.cw_emptierbox_k21_means_holds : PySem.Challenge.rw_emptierbox_k21_means.Holds := by
  w_on; o_law; k_head; (case hw => w_witness2)
  k_fill
  refine My.walk (l := PySem.Challenge.rw_emptierbox_k21_means) rfl rfl (fun w h Y => PySem.W.kIn_of Y) ?F
  case F =>
    intro w mg fa h KX G hmg
    have T : My.Txt2 mg := by
      refine' My.txt_mk KX G ?z0 ?z1 ?z2 ?z3 ?z4 ?z5 ?z6 ?z7 ?z8 ?z9 ?z10 ?z11 ?z12 ?z13 ?z14 ?z15 ?z16 ?z17 ?z18 ?z19 ?z20 ?z21
      (case z0 => k_is)
      (case z1 => k_is)
      (case z2 => k_is)
      (case z3 => k_is)
      (case z4 => k_is)
      (case z5 => k_is)
      (case z6 => k_is)
      (case z7 => k_is)
      (case z8 => k_is)
      (case z9 => k_is)
      (case z10 => k_is)
      (case z11 => k_is)
      (case z12 => k_is)
      (case z13 => k_is)
      (case z14 => k_is)
      (case z15 => k_is)
      (case z16 => k_is)
      (case z17 => k_is)
      (case z18 => k_is)
      (case z19 => k_is)
      (case z20 => k_is)
      (case z21 => k_is)
    have f_measure : L2.FunAt (L2.KOf KX) mg "measure" ["a", "b"] My.s_measure := by
      dsimp only [L2.KOf]
      refine' L2.funAt_mk KX G (fun _ _ _ _ _ _ us hl => match us, hl with | [_, _], _ => rfl) ?a ?l ?c ?k
      (case a => k_is); (case l => k_is); (case c => k_is); (case k => k_is)
    have f_parted : L2.FunAt (L2.KOf KX) mg "parted" ["top", "bottoms"] My.s_parted := by
      dsimp only [L2.KOf]
      refine' L2.funAt_mk KX G (fun _ _ _ _ _ _ us hl => match us, hl with | [_, _], _ => rfl) ?a ?l ?c ?k
      (case a => k_is); (case l => k_is); (case c => k_is); (case k => k_is)
    have f_weighed : L2.FunAt (L2.KOf KX) mg "weighed" ["some"] My.s_weighed := by
      dsimp only [L2.KOf]
      refine' L2.funAt_mk KX G (fun _ _ _ _ _ _ us hl => match us, hl with | [_], _ => rfl) ?a ?l ?c ?k
      (case a => k_is); (case l => k_is); (case c => k_is); (case k => k_is)
    have f_fullest : L2.FunAt (L2.KOf KX) mg "fullest" ["load"] My.s_fullest := by
      dsimp only [L2.KOf]
      refine' L2.funAt_mk KX G (fun _ _ _ _ _ _ us hl => match us, hl with | [_], _ => rfl) ?a ?l ?c ?k
      (case a => k_is); (case l => k_is); (case c => k_is); (case k => k_is)
    have f_emptiest : L2.FunAt (L2.KOf KX) mg "emptiest" ["load"] My.s_emptiest := by
      dsimp only [L2.KOf]
      refine' L2.funAt_mk KX G (fun _ _ _ _ _ _ us hl => match us, hl with | [_], _ => rfl) ?a ?l ?c ?k
      (case a => k_is); (case l => k_is); (case c => k_is); (case k => k_is)
    have f_gap : L2.FunAt (L2.KOf KX) mg "gap" ["load"] My.s_gap := by
      dsimp only [L2.KOf]
      refine' L2.funAt_mk KX G (fun _ _ _ _ _ _ us hl => match us, hl with | [_], _ => rfl) ?a ?l ?c ?k
      (case a => k_is); (case l => k_is); (case c => k_is); (case k => k_is)
    have f_squares : L2.FunAt (L2.KOf KX) mg "squares" ["load"] My.s_squares := by
      dsimp only [L2.KOf]
      refine' L2.funAt_mk KX G (fun _ _ _ _ _ _ us hl => match us, hl with | [_], _ => rfl) ?a ?l ?c ?k
      (case a => k_is); (case l => k_is); (case c => k_is); (case k => k_is)
    have f_mean_of : L2.FunAt (L2.KOf KX) mg "mean_of" ["spread", "numbers"] My.s_mean_of := by
      dsimp only [L2.KOf]
      refine' L2.funAt_mk KX G (fun _ _ _ _ _ _ us hl => match us, hl with | [_, _], _ => rfl) ?a ?l ?c ?k
      (case a => k_is); (case l => k_is); (case c => k_is); (case k => k_is)
    have f_mean : L2.FunAt (L2.KOf KX) mg "mean" ["spread", "word"] My.s_mean := by
      dsimp only [L2.KOf]
      refine' L2.funAt_mk KX G (fun _ _ _ _ _ _ us hl => match us, hl with | [_, _], _ => rfl) ?a ?l ?c ?k
      (case a => k_is); (case l => k_is); (case c => k_is); (case k => k_is)
    have f_first_mean : L2.FunAt (L2.KOf KX) mg "first_mean" ["spread", "k"] My.s_first_mean := by
      dsimp only [L2.KOf]
      refine' L2.funAt_mk KX G (fun _ _ _ _ _ _ us hl => match us, hl with | [_, _], _ => rfl) ?a ?l ?c ?k
      (case a => k_is); (case l => k_is); (case c => k_is); (case k => k_is)
    have f_fullest_share : L2.FunAt (L2.KOf KX) mg "fullest_share" ["spread", "m"] My.s_fullest_share := by
      dsimp only [L2.KOf]
      refine' L2.funAt_mk KX G (fun _ _ _ _ _ _ us hl => match us, hl with | [_, _], _ => rfl) ?a ?l ?c ?k
      (case a => k_is); (case l => k_is); (case c => k_is); (case k => k_is)
    have f_many_share : L2.FunAt (L2.KOf KX) mg "many_share" ["spread", "m", "b"] My.s_many_share := by
      dsimp only [L2.KOf]
      refine' L2.funAt_mk KX G (fun _ _ _ _ _ _ us hl => match us, hl with | [_, _, _], _ => rfl) ?a ?l ?c ?k
      (case a => k_is); (case l => k_is); (case c => k_is); (case k => k_is)
    have f_boxes_with : L2.FunAt (L2.KOf KX) mg "boxes_with" ["load", "m"] My.s_boxes_with := by
      dsimp only [L2.KOf]
      refine' L2.funAt_mk KX G (fun _ _ _ _ _ _ us hl => match us, hl with | [_, _], _ => rfl) ?a ?l ?c ?k
      (case a => k_is); (case l => k_is); (case c => k_is); (case k => k_is)
    have f_l_pen : L2.FunAt (L2.KOf KX) mg "_law_pen" ["_law_script"] My.s_l_pen := by
      dsimp only [L2.KOf]
      refine' L2.funAt_mk KX G (fun _ _ _ _ _ _ us hl => match us, hl with | [_], _ => rfl) ?a ?l ?c ?k
      (case a => k_is); (case l => k_is); (case c => k_is); (case k => k_is)
    have f_l_draw : L2.FunAt (L2.KOf KX) mg "_law_draw" ["_law_pen_here", "_law_many"] My.s_l_draw := by
      dsimp only [L2.KOf]
      refine' L2.funAt_mk KX G (fun _ _ _ _ _ _ us hl => match us, hl with | [_, _], _ => rfl) ?a ?l ?c ?k
      (case a => k_is); (case l => k_is); (case c => k_is); (case k => k_is)
    have f_l_measure : L2.FunAt (L2.KOf KX) mg "_law_measure" ["_law_a", "_law_b"] My.s_l_measure := by
      dsimp only [L2.KOf]
      refine' L2.funAt_mk KX G (fun _ _ _ _ _ _ us hl => match us, hl with | [_, _], _ => rfl) ?a ?l ?c ?k
      (case a => k_is); (case l => k_is); (case c => k_is); (case k => k_is)
    have f_l_lowest : L2.FunAt (L2.KOf KX) mg "_law_lowest" ["_law_top", "_law_bottom"] My.s_l_lowest := by
      dsimp only [L2.KOf]
      refine' L2.funAt_mk KX G (fun _ _ _ _ _ _ us hl => match us, hl with | [_, _], _ => rfl) ?a ?l ?c ?k
      (case a => k_is); (case l => k_is); (case c => k_is); (case k => k_is)
    have f_l_load : L2.FunAt (L2.KOf KX) mg "_law_load" ["_law_pen_here", "_law_n", "_law_balls"] My.s_l_load := by
      dsimp only [L2.KOf]
      refine' L2.funAt_mk KX G (fun _ _ _ _ _ _ us hl => match us, hl with | [_, _, _], _ => rfl) ?a ?l ?c ?k
      (case a => k_is); (case l => k_is); (case c => k_is); (case k => k_is)
    have f_l_counted : L2.FunAt (L2.KOf KX) mg "_law_counted" ["_law_pen_here", "_law_n", "_law_balls"] My.s_l_counted := by
      dsimp only [L2.KOf]
      refine' L2.funAt_mk KX G (fun _ _ _ _ _ _ us hl => match us, hl with | [_, _, _], _ => rfl) ?a ?l ?c ?k
      (case a => k_is); (case l => k_is); (case c => k_is); (case k => k_is)
    have f_l_spread : L2.FunAt (L2.KOf KX) mg "_law_spread" ["_law_found"] My.s_l_spread := by
      dsimp only [L2.KOf]
      refine' L2.funAt_mk KX G (fun _ _ _ _ _ _ us hl => match us, hl with | [_], _ => rfl) ?a ?l ?c ?k
      (case a => k_is); (case l => k_is); (case c => k_is); (case k => k_is)
    have f_l_mean : L2.FunAt (L2.KOf KX) mg "_law_mean" ["_law_found", "_law_worths"] My.s_l_mean := by
      dsimp only [L2.KOf]
      refine' L2.funAt_mk KX G (fun _ _ _ _ _ _ us hl => match us, hl with | [_, _], _ => rfl) ?a ?l ?c ?k
      (case a => k_is); (case l => k_is); (case c => k_is); (case k => k_is)
    have f_l_by : L2.FunAt (L2.KOf KX) mg "_law_by" ["_law_found", "_law_word"] My.s_l_by := by
      dsimp only [L2.KOf]
      refine' L2.funAt_mk KX G (fun _ _ _ _ _ _ us hl => match us, hl with | [_, _], _ => rfl) ?a ?l ?c ?k
      (case a => k_is); (case l => k_is); (case c => k_is); (case k => k_is)
    have f_l_any : L2.FunAt (L2.KOf KX) mg "_law_any" ["_law_pen_here", "_law_most"] My.s_l_any := by
      dsimp only [L2.KOf]
      refine' L2.funAt_mk KX G (fun _ _ _ _ _ _ us hl => match us, hl with | [_, _], _ => rfl) ?a ?l ?c ?k
      (case a => k_is); (case l => k_is); (case c => k_is); (case k => k_is)
    have h_W : ∃ wd, mg "WORDS" = some (.ref wd) ∧ My.TabF w (L2.KOf KX) mg wd := by
      dsimp only [L2.KOf]
      refine' My.tab_mk KX G ?a ?l ?e1 ?e2 ?e3 ?e4 ?n1 ?n2 ?n3 ?n4
      (case a => k_is); (case l => k_is); (case n1 => k_is); (case n2 => k_is); (case n3 => k_is); (case n4 => k_is)
      (case e1 => rfl); (case e2 => rfl); (case e3 => rfl); (case e4 => rfl)
    obtain ⟨wd, hwd, WD⟩ := h_W
    refine' My.all_mk KX G hmg T ⟨f_measure, f_parted, f_weighed, f_fullest, f_emptiest, f_gap, f_squares, f_mean_of, f_mean, f_first_mean, f_fullest_share, f_many_share, f_boxes_with, f_l_pen, f_l_draw, f_l_measure, f_l_lowest, f_l_load, f_l_counted, f_l_spread, f_l_mean, f_l_by, f_l_any⟩ hwd WD ?a3 ?l3 ?c3 ?k3
    (case a3 => k_is); (case l3 => k_is); (case c3 => k_is); (case k3 => k_is)

