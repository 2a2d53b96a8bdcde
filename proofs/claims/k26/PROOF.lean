import PyProof.Rows.All
import KE.KRevIter
import PyProof.FactsAll.range_2
import Wide.All
import OpenK.AllK
import Wide.FinOn
import PyProof.EqAt
import PyProof.EqKinds
import PyProof.NeKinds
import PyProof.TupleCall
import PyProof.CompFree
import PyProof.CompMap
import PyProof.ReprRoads
import PyProof.CallFns
import PyProof.ReprBulk
import PyProof.CompUse
import KE.KRevSl
import PyProof.Rows.SetFrom
import PyProof.AttrMissSeq
import KE.KDictOf
import PyProof.DictUpdate
import PyProof.ListRange
import PyProof.Rows.SumAny
import PyProof.Rows.SortRev
import PyProof.Rows.CallKwBuiltin
import PyProof.ListMulAny
import PyProof.TupleOps
import PyProof.ZipIter
import PyProof.Draws
import PyProof.TupleIter
import PyProof.EnumMake
import PyProof.DictCompW
import PyProof.DictItems
import PyProof.DictItemsLoops
import PyProof.ExcAttrAll.ValueError
import KE.KTryMore
import KE.KLam
import KE.KTupSum
import KE.KMinKey
import PyProof.FactsAll.tuple_0
import PyProof.FactsAll.tuple_2
import PyProof.FactsAll.tuple_3
import KE.KSortTup
import PyProof.DictValues
import PyProof.DictWalks
import PyProof.SumWalkG
import PyProof.CollectWalk
import PyProof.FactsAll.dict_values
import KE.KDictList
import KE.KItemsList
import PyProof.TupleKey
import PyProof.DictDisplay
import PyProof.DictTable
import PyProof.ReprDict
import PyProof.ReprNest
import PyProof.ReprReads
import PySem.Challenge.RW_emptierbox_k26_pairings_known
set_option Elab.async false
set_option linter.all false
set_option maxRecDepth 100000
set_option maxHeartbeats 4000000
namespace MA
/-- the greatest common measure, as an int -/
def gI (a b : Int) : Int := (Int.gcd a b : Int)
theorem gI_nonneg (a b : Int) : 0 ≤ gI a b := Int.natCast_nonneg _
theorem gI_abs (a b : Int) : gI (if a < 0 then -a else a) (if b < 0 then -b else b) = gI a b := by
  unfold gI Int.gcd
  congr 2 <;> (split <;> omega)
theorem gI_step {a b : Int} (ha : 0 ≤ a) : gI b (a % b) = gI a b := by
  unfold gI
  congr 1
  rw [Int.gcd_comm a b]
  unfold Int.gcd
  have e : (a % b).natAbs = a.natAbs % b.natAbs := by
    rw [Int.natAbs_emod_of_nonneg ha]
  rw [e, Nat.gcd_comm b.natAbs (a.natAbs % b.natAbs), ← Nat.gcd_rec]
theorem gI_zero {a : Int} (ha : 0 ≤ a) : gI a 0 = a := by
  unfold gI
  rw [Int.gcd_zero_right]
  omega
theorem gI_pos_right {a b : Int} (hb : b ≠ 0) : 0 < gI a b := by
  have h : Int.gcd a b ≠ 0 := fun h => hb (Int.gcd_eq_zero_iff.mp h).2
  unfold gI; omega
theorem gI_pos_left {a b : Int} (hb : a ≠ 0) : 0 < gI a b := by
  have h : Int.gcd a b ≠ 0 := fun h => hb (Int.gcd_eq_zero_iff.mp h).1
  unfold gI; omega
theorem gI_dvd_left (a b : Int) : gI a b ∣ a := Int.gcd_dvd_left ..
theorem gI_comm (a b : Int) : gI a b = gI b a := by unfold gI; rw [Int.gcd_comm]
/-- share's answer -/
theorem share_pos {t b : Int} (hb : 0 < b) : t / gI t b = (Rat.divInt t b).num ∧ b / gI t b = ((Rat.divInt t b).den : Int) := by
  rw [Rat.num_divInt, Rat.den_divInt, if_neg (by omega), Int.sign_eq_one_of_pos hb, Int.one_mul, Int.gcd_comm b t]
  refine ⟨rfl, ?_⟩
  unfold gI
  rw [Int.natCast_ediv]
  congr 1
  omega
theorem plus_ok (q r : Rat) (c top rest : Int) (hc : c = gI q.den r.den) (ht : top = q.num * ((r.den : Int) / c) + r.num * ((q.den : Int) / c)) (hr : rest = gI top c) :
    top / rest = (q + r).num ∧ ((q.den : Int) / c) * ((r.den : Int) / rest) = ((q + r).den : Int) := by
  have hd : 0 < q.den := Nat.pos_of_ne_zero q.den_nz
  have he : 0 < r.den := Nat.pos_of_ne_zero r.den_nz
  have cg : c = ((q.den.gcd r.den : Nat) : Int) := by rw [hc]; rfl
  have rg : rest = ((top.natAbs.gcd (q.den.gcd r.den) : Nat) : Int) := by
    rw [hr, cg]; rfl
  have tt : top = q.num * ((r.den / q.den.gcd r.den : Nat) : Int) + r.num * ((q.den / q.den.gcd r.den : Nat) : Int) := by
    rw [ht, cg, Int.natCast_ediv, Int.natCast_ediv]
  have key : (q + r).num = top / ((top.natAbs.gcd (q.den.gcd r.den) : Nat) : Int) ∧ (q + r).den = (q.den / q.den.gcd r.den) * r.den / top.natAbs.gcd (q.den.gcd r.den) := by
    rw [tt]
    have e : (q + r) = Rat.add q r := rfl
    rw [e]
    delta Rat.add
    dsimp only
    split
    · rename_i h
      rw [h]
      simp
    · simp only [Rat.maybeNormalize_eq, Int.divExact_eq_ediv, and_self]
  rw [key.1, key.2, rg]
  refine ⟨rfl, ?_⟩
  have d1 : top.natAbs.gcd (q.den.gcd r.den) ∣ r.den := Nat.dvd_trans (Nat.gcd_dvd_right ..) (Nat.gcd_dvd_right ..)
  rw [Nat.mul_div_assoc _ d1, Int.natCast_mul, Int.natCast_ediv, Int.natCast_ediv, cg]
theorem den_pos (q : Rat) : (0 : Int) < q.den := by have := Nat.pos_of_ne_zero q.den_nz; omega
end MA

set_option Elab.async false
set_option linter.all false
set_option maxRecDepth 100000
set_option maxHeartbeats 4000000
/-! THE HAND LAYER, for ints, bools, texts, own classes, LISTS and tuples (index, slices, in, append, pop ..), calls, loops. Paste it whole ahead of your own text; what your proof does not reach may be deleted. -/
namespace L2
open PySem PySem.Spec PyProof.Rows

/-- a key: an int or a str -/
abbrev Key := Sum Int Str
def keyIs : Key → Value → Bool
  | .inl k, v => Value.isInt k v
  | .inr x, v => Value.isStrOf x v
def keyH (w : World) : Key → Int
  | .inl k => hashInt k
  | .inr x => hashStr w x
theorem keyIs_shape : ∀ {k : Key} {v : Value}, keyIs k v = true → (∃ i t, k = Sum.inl i ∧ v = Value.int i t) ∨ (∃ x t, k = Sum.inr x ∧ v = Value.str x t)
  | .inl i, v, h => by
    obtain ⟨t, e⟩ := Value.isInt_shape (k := i) (v := v) h
    exact .inl ⟨i, t, rfl, e⟩
  | .inr x, v, h => by
    obtain ⟨t, e⟩ := Value.isStrOf_shape (x := x) (v := v) h
    exact .inr ⟨x, t, rfl, e⟩
theorem keyIs_int (i : Int) (t : Tok) : keyIs (.inl i) (.int i t) = true := by simp [keyIs, Value.isInt]
theorem keyIs_str (x : Str) (t : Tok) : keyIs (.inr x) (.str x t) = true := by simp [keyIs, Value.isStrOf]
theorem key_ll (a b : Int) : decide ((Sum.inl a : Key) = Sum.inl b) = (a == b) := by
  by_cases e : a = b
  · subst e; simp
  · have h : ¬ (Sum.inl a : Key) = Sum.inl b := fun q => e (Sum.inl.inj q)
    rw [decide_eq_false h]
    exact (beq_eq_false_iff_ne.mpr e).symm
theorem key_rr (a b : Str) : decide ((Sum.inr a : Key) = Sum.inr b) = decide (a = b) := by
  by_cases e : a = b
  · subst e; simp
  · have h : ¬ (Sum.inr a : Key) = Sum.inr b := fun q => e (Sum.inr.inj q)
    rw [decide_eq_false h, decide_eq_false e]
theorem key_lr (a : Int) (b : Str) : decide ((Sum.inl a : Key) = Sum.inr b) = false := decide_eq_false (fun q => nomatch q)
theorem key_rl (a : Str) (b : Int) : decide ((Sum.inr a : Key) = Sum.inl b) = false := decide_eq_false (fun q => nomatch q)

def mixKind (prog : Program) (w : World) : PySem.KeyKind prog w Key where
  is := keyIs
  hash := keyH w
  inj := fun v a b ha hb => by
    rcases keyIs_shape ha with ⟨i, t, rfl, rfl⟩ | ⟨x, t, rfl, rfl⟩
    · rcases keyIs_shape hb with ⟨j, u, rfl, e⟩ | ⟨y, u, rfl, e⟩
      · injection e with e1 _; rw [e1]
      · exact nomatch e
    · rcases keyIs_shape hb with ⟨j, u, rfl, e⟩ | ⟨y, u, rfl, e⟩
      · exact nomatch e
      · injection e with e1 _; rw [e1]
  byValue := fun k v h => by
    rcases keyIs_shape h with ⟨i, t, rfl, rfl⟩ | ⟨x, t, rfl, rfl⟩ <;> rfl
  pyHash := fun hv h => by
    rcases keyIs_shape hv with ⟨i, t, rfl, rfl⟩ | ⟨x, t, rfl, rfl⟩
    · exact wpAny_pyHash_int h
    · exact wpAny_pyHash_str h
  eqBool := fun hu hv h => by
    rcases keyIs_shape hu with ⟨i, t, rfl, rfl⟩ | ⟨x, t, rfl, rfl⟩
    · rcases keyIs_shape hv with ⟨j, u, rfl, rfl⟩ | ⟨y, u, rfl, rfl⟩
      · rw [key_ll] at h; exact wpAny_eqBool_int h
      · rw [key_lr] at h; exact SeqAt.EqAt.int_str i t y u _ _ _ _ h
    · rcases keyIs_shape hv with ⟨j, u, rfl, rfl⟩ | ⟨y, u, rfl, rfl⟩
      · rw [key_rl] at h; exact SeqAt.EqAt.str_int x t j u _ _ _ _ h
      · rw [key_rr] at h; exact wpAny_eqBool_str h
  «strs» := fun k x t v h => by
    rcases keyIs_shape h with ⟨i, u, rfl, e⟩ | ⟨y, u, rfl, e⟩
    · exact nomatch e
    · injection e with e1 _
      subst e1
      cases v <;> rfl

theorem mixKind_int (prog : Program) (w : World) (i : Int) (t : Tok) : (mixKind prog w).is (.inl i) (.int i t) = true := keyIs_int i t
theorem mixKind_str (prog : Program) (w : World) (x : Str) (t : Tok) : (mixKind prog w).is (.inr x) (.str x t) = true := keyIs_str x t
end L2

namespace L2
open PySem PySem.Spec PyProof.Rows

/-- a value, without the heap -/
inductive V where
  | non | bl (b : Bool) | int (i : Int) | str (x : Str) | byt (b : Array UInt8) | flt (b : UInt64) | ref (a : Addr) | ty (n : String)
  deriving DecidableEq

def RelV : V → Value → Prop
  | .non, u => u = Value.none
  | .bl b, u => u = Value.bool b
  | .int i, u => ∃ t, u = Value.int i t
  | .str x, u => ∃ t, u = Value.str x t
  | .byt b, u => ∃ t, u = Value.bytes b t
  | .flt b, u => ∃ t, u = Value.float b t
  | .ref a, u => u = Value.ref a
  | .ty n, u => u = Value.type n

abbrev Vals : List V → List Value → Prop := Paired RelV
theorem Vals.length {xs : List V} {us : List Value} (r : Vals xs us) : xs.length = us.length := Paired.length r
theorem Vals.get : ∀ {xs : List V} {us : List Value} {i : Nat} {x : V}, Vals xs us → xs[i]? = some x → ∃ u, us[i]? = some u ∧ RelV x u
  | _, _, _, _, .nil, e => by simp at e
  | _, _, 0, _, .cons r _, e => by simp at e; subst e; exact ⟨_, rfl, r⟩
  | _, _, i + 1, x, .cons _ t, e => by
    obtain ⟨u, h1, h2⟩ := Vals.get (i := i) (x := x) t (by simpa using e)
    exact ⟨u, by simpa using h1, h2⟩
theorem Vals.set {x : V} {u : Value} (r : RelV x u) : ∀ {xs : List V} {us : List Value} (i : Nat), Vals xs us → Vals (xs.set i x) (us.set i u)
  | _, _, _, .nil => .nil
  | _, _, 0, .cons _ t => .cons r t
  | _, _, i + 1, .cons q t => .cons q (Vals.set r i t)
theorem Vals.append : ∀ {xs ys : List V} {us ws : List Value}, Vals xs us → Vals ys ws → Vals (xs ++ ys) (us ++ ws)
  | _, _, _, _, .nil, s => s
  | _, _, _, _, .cons r t, s => .cons r (Vals.append t s)
theorem Vals.take : ∀ {xs : List V} {us : List Value} (n : Nat), Vals xs us → Vals (xs.take n) (us.take n)
  | _, _, 0, _ => .nil
  | _, _, _ + 1, .nil => .nil
  | _, _, n + 1, .cons r t => .cons r (Vals.take n t)
theorem Vals.drop : ∀ {xs : List V} {us : List Value} (n : Nat), Vals xs us → Vals (xs.drop n) (us.drop n)
  | _, _, 0, r => r
  | _, _, _ + 1, .nil => .nil
  | _, _, n + 1, .cons _ t => Vals.drop n t
def RelO : Option V → Option Value → Prop
  | some v, some u => RelV v u
  | none, none => True
  | _, _ => False
def KV {κ : Type} : List (κ × V) → List (κ × Value) → Prop := Paired fun (p : κ × V) (q : κ × Value) => p.1 = q.1 ∧ RelV p.2 q.2

/-- a key of a dict (00_mix): an int or a text -/
def kV : Key → V
  | .inl i => .int i
  | .inr x => .str x

/-- what stands at a tracked address -/
inductive HO where
  /-- a list -/
  | lst (xs : List V)
  /-- a tuple (never changes) -/
  | tup (xs : List V)
  /-- a dict whose keys are ints and texts; one whose keys are tuples of ints and texts (the empty one is both) -/
  | dK (kvs : List (Key × V)) | dT (kvs : List (List Key × V))
  /-- a set of ints: its members, its size -/
  | set (S : Int → Bool) (n : Nat)
  /-- an instance of the class at C, its dict at dx, its attributes -/
  | ins (C dx : Addr) (fs : List (Str × V))
  /-- the dict of the instance at x -/
  | own (x : Addr)
  /-- the dict of an exception -/
  | xd (fs : List (Str × V))
  /-- a bound method, f of x -/
  | met (f x : Addr)
  /-- a range object lo, lo + 1, .. below hi -/
  | rng (lo hi : Int)
  /-- a thing that is known to the object (the script; a dict while a loop walks it): read, never written while it is so -/
  | frz (o : Obj) (u : HO)
  /-- a code object's table -/
  | tbl (ps : Array Value)
  /-- the table of the lambdas of a def, whose qualname is q -/
  | tab (q : Str)
  /-- any other thing, by what is true of its one object (a def of one's own: SetO a S n := HO.ext fun h => ..) -/
  | ext (φ : Heap → Prop)

abbrev Hp := Addr → Option HO
def upd (H : Hp) (a : Addr) (o : HO) : Hp := fun b => if b = a then some o else H b
theorem upd_same {H : Hp} {a : Addr} {o : HO} : upd H a o a = some o := by unfold upd; rw [if_pos rfl]
theorem upd_ne {H : Hp} {a b : Addr} {o : HO} (h : b ≠ a) : upd H a o b = H b := by unfold upd; rw [if_neg h]
theorem upd_upd {H : Hp} {a : Addr} {o u : HO} : upd (upd H a o) a u = upd H a u := by
  funext b; unfold upd; split <;> rfl
/-- two objects of different content stand apart -/
theorem ne_of {H : Hp} {a b : Addr} {o u : HO} (h : H a = some o) (h' : H b = some u) (d : o ≠ u) : a ≠ b := by
  intro e; subst e; rw [h] at h'; exact d (Option.some.inj h')
theorem ne_of_none {H : Hp} {a b : Addr} {o : HO} (h : H a = some o) (h' : H b = none) : a ≠ b := by
  intro e; subst e; rw [h] at h'; cases h'

/-- a tuple, with no dict of its own -/
def IsTupN (h : Heap) (a : Addr) (items : Array Value) : Prop := ∃ o, h.get? a = some o ∧ o.cls = .type "tuple" ∧ ∃ n, o.data = .seq items n ∧ o.dict = none
theorem IsTupN.tup {h : Heap} {a : Addr} {items : Array Value} (x : IsTupN h a items) : PyProof.Rows.IsTup h a items := let ⟨o, e, c, n, d, _⟩ := x; ⟨o, e, c, n, d⟩
theorem IsTupN.new (h : Heap) (items : Array Value) : IsTupN (h.push { cls := .type "tuple", data := .seq items }) h.objs.size items := ⟨_, Heap.get?_push_size _ rfl, rfl, _, rfl, rfl⟩
theorem IsTupN.lt {h : Heap} {a : Addr} {items : Array Value} (x : IsTupN h a items) : a < h.objs.size := let ⟨_, e, _⟩ := x; Heap.lt_size e

section
variable (P : Program) (w : World)
def ObjOk (H : Hp) (h : Heap) (a : Addr) : HO → Prop
  | .lst xs => xs.length ≤ sizeLine ∧ ∃ (its : List Value) (n : Nat), Vals xs its ∧ h.get? a = some { cls := .type "list", data := .seq its.toArray n }
  | .tup xs => xs.length ≤ sizeLine ∧ ∃ its : List Value, Vals xs its ∧ IsTupN h a its.toArray
  | .dK kvs => kvs.length ≤ sizeLine ∧ (a == sysModules) = false ∧ ∃ vs, KV kvs vs ∧ h.DictOf (mixKind P w) a vs
  | .dT kvs => kvs.length ≤ sizeLine ∧ (a == sysModules) = false ∧ ∃ xs : List (List Key × Addr × Value),
      Paired (fun (p : List Key × V) (q : List Key × Addr × Value) => p.1 = q.1 ∧ H q.2.1 = some (.tup (p.1.map kV)) ∧ RelV p.2 q.2.2) kvs xs ∧
      ∃ o es ep, h.get? a = some o ∧ o.ExactDict ∧ o.data = .dict es ep ∧ es.toList = xs.map (entryOfKey (tupleKind (mixKind P w))) ∧ (xs.map (·.1)).Nodup
  | .set S n => h.SetOf (intKind P w) a S n
  | .ins C dx fs => H dx = some (.own a) ∧ fs.length ≤ 1000 ∧ dx ≠ a ∧ h.get? a = some (PySem.W.instObj C dx) ∧
      ∃ mA, h.Ns1 dx mA ∧ (∀ f, RelO (fs.lookup f) (mA f)) ∧ PySem.Within mA (fs.map (·.1))
  | .own _ => ∃ o, h.get? a = some o
  | .xd fs => ∃ mA, h.Ns1 a mA ∧ ∀ f, RelO (fs.lookup f) (mA f)
  | .rng lo hi => ∃ t u v, h.get? a = some { cls := .type "range", data := .fields #[.int lo t, .int hi u, .int 1 v] }
  | .frz o u => h.get? a = some o ∧ ObjOk H h a u
  | .tbl ps => h.get? a = some { cls := .none, data := .fields ps }
  | .tab q => ∃ ps : Array Value, h.get? a = some { cls := .none, data := .fields ps } ∧ TriplesOk ps.toList ∧ ∀ pos cv, codeAmong pos ps.toList = some cv →
      ∃ c oc vs t, cv = .ref c ∧ H c = some (.frz oc (.own 0)) ∧ oc.data = .fields vs ∧ vs[1]? = some (.str q t)
  | .met f x => h.get? a = some (PySem.W.methodObj (.ref f) (.ref x))
  | .ext φ => φ h ∧ (∃ o, h.get? a = some o) ∧ ∀ h1 h2 : Heap, φ h1 → (∀ o, h1.get? a = some o → h2.get? a = some o) → φ h2
/-- the abstract heap is held -/
def HOk (H : Hp) (h : Heap) : Prop := ∀ a o, H a = some o → ObjOk P w H h a o
end

section
variable {P : Program} {w : World} {H H' : Hp} {h h' : Heap} {a : Addr} {o : HO}
theorem ObjOk.lt (x : ObjOk P w H h a o) : a < h.objs.size := by
  cases o with
  | lst xs => obtain ⟨_, _, _, _, e⟩ := x; exact Heap.lt_size e
  | tup xs => obtain ⟨_, _, _, p⟩ := x; exact p.lt
  | dK kvs => obtain ⟨_, _, _, _, o, _, _, e, _⟩ := x; exact Heap.lt_size e
  | dT kvs => obtain ⟨_, _, _, _, o, _, _, e, _⟩ := x; exact Heap.lt_size e
  | set S n => obtain ⟨o, _, _, _, e, _⟩ := x; exact Heap.lt_size e
  | ins C dx fs => obtain ⟨_, _, _, e, _⟩ := x; exact Heap.lt_size e
  | own y => obtain ⟨_, e⟩ := x; exact Heap.lt_size e
  | xd fs => obtain ⟨_, ⟨_, _, _, e, _⟩, _⟩ := x; exact Heap.lt_size e
  | rng lo hi => obtain ⟨_, _, _, e⟩ := x; exact Heap.lt_size e
  | frz ob u => obtain ⟨e, _⟩ := x; exact Heap.lt_size e
  | tbl ps => exact Heap.lt_size (show h.get? a = some _ from x)
  | tab q => obtain ⟨_, e, _⟩ := x; exact Heap.lt_size e
  | met f y => exact Heap.lt_size (show h.get? a = some _ from x)
  | ext φ => obtain ⟨_, ⟨_, e⟩, _⟩ := x; exact Heap.lt_size e
theorem Paired.mapP {α β : Type} {F G : α → β → Prop} : ∀ {l₁ : List α} {l₂ : List β}, Paired F l₁ l₂ → (∀ a b, F a b → G a b) → Paired G l₁ l₂
  | _, _, .nil, _ => .nil
  | _, _, .cons r t, f => .cons (f _ _ r) (Paired.mapP t f)
/-- what an object's description leans on: its own object, its own dict, the tuples -/
theorem ObjOk.stay (x : ObjOk P w H h a o) (k : ∀ b u, (b = a ∨ H b = some (.own a)) → h.get? b = some u → h'.get? b = some u)
    (ho : ∀ b, H b = some (.own a) → H' b = some (.own a)) (ht : ∀ b xs, H b = some (.tup xs) → H' b = some (.tup xs)) (hz : ∀ b ob, H b = some (.frz ob (.own 0)) → H' b = some (.frz ob (.own 0)) := by exact fun _ _ q => q) : ObjOk P w H' h' a o := by
  induction o with
  | lst xs => obtain ⟨z, its, n, r, e⟩ := x; exact ⟨z, its, n, r, k _ _ (.inl rfl) e⟩
  | tup xs => obtain ⟨z, its, r, ob, e, c⟩ := x; exact ⟨z, its, r, ob, k _ _ (.inl rfl) e, c⟩
  | dK kvs => obtain ⟨z, y, vs, r, ob, es, ep, e, c⟩ := x; exact ⟨z, y, vs, r, ob, es, ep, k _ _ (.inl rfl) e, c⟩
  | dT kvs =>
    obtain ⟨z, y, xs, r, ob, es, ep, e, c⟩ := x
    exact ⟨z, y, xs, Paired.mapP r fun p q z => ⟨z.1, ht _ _ z.2.1, z.2.2⟩, ob, es, ep, k _ _ (.inl rfl) e, c⟩
  | set S n => obtain ⟨ob, es, ep, t, e, c⟩ := x; exact ⟨ob, es, ep, t, k _ _ (.inl rfl) e, c⟩
  | ins C dx fs =>
    obtain ⟨d, z, ne, e, mA, ⟨od, es, ep, e2, c⟩, r⟩ := x
    exact ⟨ho _ d, z, ne, k _ _ (.inl rfl) e, mA, ⟨od, es, ep, k _ _ (.inr d) e2, c⟩, r⟩
  | own y => obtain ⟨ob, e⟩ := x; exact ⟨ob, k _ _ (.inl rfl) e⟩
  | xd fs => obtain ⟨mA, ⟨od, es, ep, e, c⟩, r⟩ := x; exact ⟨mA, ⟨od, es, ep, k _ _ (.inl rfl) e, c⟩, r⟩
  | rng lo hi => obtain ⟨t, u, v, e⟩ := x; exact ⟨t, u, v, k _ _ (.inl rfl) e⟩
  | frz ob u ih => obtain ⟨e, q⟩ := x; exact ⟨k _ _ (.inl rfl) e, ih q⟩
  | tab q =>
    obtain ⟨ps, e, tr, cs⟩ := x
    refine ⟨ps, k a _ (.inl rfl) e, tr, fun pos cv hc => ?_⟩
    obtain ⟨c, oc, vs, t, h1, h2, h3⟩ := cs pos cv hc
    exact ⟨c, oc, vs, t, h1, hz c oc h2, h3⟩
  | tbl ps =>
    have e : h.get? a = some { cls := .none, data := .fields ps } := x
    show h'.get? a = some { cls := .none, data := .fields ps }
    exact k a _ (.inl rfl) e
  | met f y =>
    have e : h.get? a = some (PySem.W.methodObj (.ref f) (.ref y)) := x
    show h'.get? a = some (PySem.W.methodObj (.ref f) (.ref y))
    exact k a _ (.inl rfl) e
  | ext φ => obtain ⟨p, ⟨o, e⟩, st⟩ := x; exact ⟨st _ _ p fun o q => k _ _ (.inl rfl) q, ⟨o, k _ _ (.inl rfl) e⟩, st⟩
theorem HOk.lt (x : HOk P w H h) (e : H a = some o) : a < h.objs.size := (x a o e).lt
theorem HOk.fresh (x : HOk P w H h) (e : h.objs.size ≤ a) : H a = none := by
  cases q : H a with
  | none => rfl
  | some u => exact absurd (Nat.lt_of_lt_of_le (x.lt q) e) (Nat.lt_irrefl _)
/-- every object of the heap is kept -/
theorem HOk.kept (x : HOk P w H h) (k : ∀ b u, h.get? b = some u → h'.get? b = some u) : HOk P w H h' := fun a o e =>
  (x a o e).stay (fun b u _ q => k b u q) (fun _ q => q) fun _ _ q => q
/-- a new object is laid and tracked -/
theorem HOk.laid (x : HOk P w H h) (k : ∀ b u, h.get? b = some u → h'.get? b = some u) (hp : h.objs.size ≤ a) (new : ObjOk P w (upd H a o) h' a o) : HOk P w (upd H a o) h' := fun b u e => by
  have hn := x.fresh hp
  by_cases hb : b = a
  · subst hb; rw [upd_same] at e; cases e; exact new
  · rw [upd_ne hb] at e
    exact (x b u e).stay (fun c v _ q => k c v q) (fun c q => by rw [upd_ne (ne_of_none q hn)]; exact q) (fun c xs q => by rw [upd_ne (ne_of_none q hn)]; exact q) fun c ob q => by rw [upd_ne (ne_of_none q hn)]; exact q
end

/-- what may be read as u: it is u, or a known u -/
def Rd (H : Hp) (a : Addr) (u : HO) : Prop := H a = some u ∨ ∃ o, H a = some (.frz o u)
theorem Rd.ok {P : Program} {w : World} {H : Hp} {h : Heap} {a : Addr} {u : HO} (r : Rd H a u) (x : HOk P w H h) : ObjOk P w H h a u := by
  rcases r with r | ⟨o, r⟩
  · exact x a u r
  · obtain ⟨_, q⟩ := x a _ r
    exact q
/-- what may be written -/
def Mut : Option HO → Prop
  | some (.lst _) => True
  | some (.dK _) => True
  | some (.dT _) => True
  | some (.set _ _) => True
  | some (.ins _ _ _) => True
  | some (.ext _) => True
  | some (.tab _) => True
  | _ => False
section
variable {P : Program} {w : World} {H : Hp} {h h' : Heap} {x e : Addr} {o' : HO}
/-- the object at e is changed: x itself, or the dict of the instance x -/
theorem HOk.write (ok : HOk P w H h) (mu : Mut (H x)) (he : e = x ∨ H e = some (.own x)) (k : ∀ b u, b ≠ e → h.get? b = some u → h'.get? b = some u) (heo : ∃ u, h'.get? e = some u)
    (new : ObjOk P w (upd H x o') h' x o') : HOk P w (upd H x o') h' := fun b u q => by
  have nown : ∀ c y, H c = some (.own y) → c ≠ x := fun c y r z => by subst z; rw [r] at mu; exact mu
  have ntup : ∀ c xs, H c = some (.tup xs) → c ≠ x := fun c xs r z => by subst z; rw [r] at mu; exact mu
  by_cases hb : b = x
  · subst hb; rw [upd_same] at q; cases q; exact new
  · rw [upd_ne hb] at q
    by_cases hbe : b = e
    · have q' : H b = some (.own x) := by
        rcases he with z | z
        · exact absurd (hbe.trans z) hb
        · rw [hbe]; exact z
      rw [q] at q'; cases q'
      obtain ⟨v, hv⟩ := heo
      exact ⟨v, by rw [hbe]; exact hv⟩
    · refine (ok b u q).stay (fun c v hc r => k c v ?_ r) (fun c r => by rw [upd_ne (nown c b r)]; exact r) (fun c xs r => by rw [upd_ne (ntup c xs r)]; exact r) (fun c ob r => by rw [upd_ne (fun z => by subst z; rw [r] at mu; exact mu)]; exact r)
      rcases hc with rfl | hc
      · exact hbe
      · rintro rfl
        rcases he with z | z
        · exact nown c b hc z
        · rw [hc] at z; cases z; exact hb rfl
end

/-! ### kept unless tracked; of the frames at fs (the callers') the slots may change (an exception that passes writes there); of the records at ex (iterators) nothing is said -/
structure Un (fs ex : List Addr) (H H' : Hp) (h h' : Heap) : Prop where
  keep : ∀ b o, h.get? b = some o → H b = none → b ∉ fs → b ∉ ex → h'.get? b = some o
  slot : ∀ b o, h.get? b = some o → H b = none → b ∈ fs → b ∉ ex → ∃ sl, h'.get? b = some { o with slots := sl }
  free : ∀ b o, h.get? b = some o → H b = none → b ∉ ex → H' b = none
  there : ∀ b o, h.get? b = some o → b ∉ ex → ∃ o', h'.get? b = some o'
  tups : ∀ b xs, H b = some (.tup xs) → H' b = some (.tup xs)
  frzs : ∀ b o u, H b = some (.frz o u) → H' b = some (.frz o u)
  tbls : ∀ b ps, H b = some (.tbl ps) → ∃ more, H' b = some (.tbl (ps ++ more))
section
variable {fs fs' ex ex' : List Addr} {H H1 H2 : Hp} {h h1 h2 h' : Heap} {a x e : Addr} {o : HO}
theorem Un.any (u : Un fs ex H H1 h h1) {b : Addr} {ob : Obj} (q : h.get? b = some ob) (n : H b = none) (hx : b ∉ ex) : ∃ sl, h1.get? b = some { ob with slots := sl } := by
  by_cases hb : b ∈ fs
  · exact u.slot b ob q n hb hx
  · exact ⟨ob.slots, u.keep b ob q n hb hx⟩
theorem Un.kept (k : ∀ b u, h.get? b = some u → h'.get? b = some u) : Un fs ex H H h h' :=
  ⟨fun b ob q _ _ _ => k b ob q, fun b ob q _ _ _ => ⟨ob.slots, k b ob q⟩, fun _ _ _ n _ => n, fun b ob q _ => ⟨ob, k b ob q⟩, fun _ _ q => q, fun _ _ _ q => q, fun _ ps q => ⟨#[], by rw [q]; simp⟩⟩
theorem Un.refl : Un fs ex H H h h := Un.kept fun _ _ q => q
theorem Un.laid (k : ∀ b u, h.get? b = some u → h'.get? b = some u) (hp : h.objs.size ≤ a) (hn : H a = none) : Un fs ex H (upd H a o) h h' where
  keep := fun b u q _ _ _ => k b u q
  slot := fun b u q _ _ _ => ⟨u.slots, k b u q⟩
  free := fun b u q n _ => by rw [upd_ne (Nat.ne_of_lt (Nat.lt_of_lt_of_le (Heap.lt_size q) hp))]; exact n
  there := fun b u q _ => ⟨u, k b u q⟩
  tups := fun b xs q => by rw [upd_ne (ne_of_none q hn)]; exact q
  frzs := fun b u xs q => by rw [upd_ne (ne_of_none q hn)]; exact q
  tbls := fun b ps q => ⟨#[], by rw [upd_ne (ne_of_none q hn), q]; simp⟩
theorem Un.write (mu : Mut (H x)) (he : e = x ∨ H e = some (.own x)) (k : ∀ b u, b ≠ e → h.get? b = some u → h'.get? b = some u) (heo : ∃ u, h'.get? e = some u) : Un fs ex H (upd H x o) h h' := by
  have hx : ∀ b, H b = none → b ≠ x := fun b n z => by subst z; rw [n] at mu; exact mu
  have hb : ∀ b, H b = none → b ≠ e := fun b n z => by
    subst z
    rcases he with r | r
    · exact hx b n r
    · rw [n] at r; cases r
  have hm : ∀ b u, H b = some u → ¬ Mut (some u) → b ≠ x := fun b u q nm z => by subst z; rw [q] at mu; exact nm mu
  refine ⟨fun b u q n _ _ => k b u (hb b n) q, fun b u q n _ _ => ⟨u.slots, k b u (hb b n) q⟩, fun b u q n _ => by rw [upd_ne (hx b n)]; exact n, fun b u q _ => ?_,
    fun b xs q => by rw [upd_ne (hm b _ q fun z => z)]; exact q, fun b u xs q => by rw [upd_ne (hm b _ q fun z => z)]; exact q, fun b ps q => ⟨#[], by rw [upd_ne (hm b _ q fun z => z), q]; simp⟩⟩
  by_cases hbe : b = e
  · subst hbe; exact heo
  · exact ⟨u, k b u hbe q⟩
end

/-! ### the heap without what is tracked -/
def trk (h : Heap) (H : Hp) : List Addr := (List.range h.objs.size).filter fun a => (H a).isSome
def hidT (h : Heap) (H : Hp) : Heap := PySem.W.hideAll h (trk h H)
theorem hidT_size (h : Heap) (H : Hp) : (hidT h H).objs.size = h.objs.size := PySem.W.hideAll_size _ _
theorem hidT_get {h : Heap} {H : Hp} {b : Addr} {o : Obj} (e : h.get? b = some o) (n : H b = none) : (hidT h H).get? b = some o :=
  PySem.W.hideAll_get _ e fun hm => by
    have q : (H b).isSome = true := (List.mem_filter.mp hm).2
    rw [n] at q; simp at q
theorem of_hidT {h : Heap} {H : Hp} {b : Addr} {o : Obj} (e : (hidT h H).get? b = some o) : h.get? b = some o ∧ H b = none := by
  have e' : h.get? b = some o := PySem.W.of_hideAll (trk h H) e
  refine ⟨e', ?_⟩
  cases q : H b with
  | none => rfl
  | some x =>
    have hm : b ∈ trk h H := List.mem_filter.mpr ⟨List.mem_range.mpr (Heap.lt_size e'), by simp [q]⟩
    have z : (hidT h H).get? b = none := PySem.W.hideAll_none (trk h H) hm
    rw [z] at e; cases e

/-! ### OpenK's ledger, filled with every new object but one -/
end L2

namespace L2
open PySem PySem.Spec PyProof.Rows

/-- the module's facts, over the base: the heap at the law's entry without what is tracked there -/
structure Mod (K : PySem.W.Frag) (mg : Str → Option Value) (base : Heap) : Prop where
  kin : K.In base
  glob : base.Ns mainGlobals mg
  blt : ∃ mb, base.Ns builtinsNs mb ∧ ∀ x : Str, x ≠ "__name__" → mb x = bootBuiltins x
  nolimit : base.NoLimit

/-- the context: a def's body (or a comprehension's block) running. base: fixed through the whole law; s₀, H₀: the entry; outer: the frames whose slots others may change (a def's callers); stack: all frames that run;
   ex: iterators that were made ahead of the entry and are walked here (a comprehension's); fn: the names whose cells were made at the entry (a def: all; a comprehension's block: its own); calm: not within an except suite; pn: pins that every state bears; xe: what is wanted of an exception that leaves the code -/
structure Cx where
  prog : Program
  w : World
  K : PySem.W.Frag
  mg : Str → Option Value
  base : Heap
  A : Around
  N : List Str
  s₀ : Shared
  H₀ : Hp
  env : Env
  outer : List Env
  stack : List Env
  ex : List Addr
  fn : Str → Bool
  calm : Bool
  pn : List (Addr × Obj)
  xe : Value → Shared → Prop
/-- the callers' frames -/
def frs (l : List Env) : List Addr := l.filterMap (·.frame)
abbrev Cx.fs (X : Cx) : List Addr := frs X.outer

def Vis (sc : Scope) (x : Str) : Prop := sc.names.lookup x = some .local ∨ sc.names.lookup x = some .cell ∨ sc.names.lookup x = some .free
def Loc (sc : Scope) (x : Str) : Prop := sc.names.lookup x = some .local ∨ sc.names.lookup x = some .cell
def Look (env : Env) (h : Heap) (m : Str → Option Value) (x : Str) (u : Value) : Prop :=
  (env.kindOf x = some .local ∧ m x = some u) ∨ ((env.kindOf x = some .cell ∨ env.kindOf x = some .free) ∧ ∃ c, env.cells.lookup x = some c ∧ h.IsCell c (some u))

structure Cx.Ok (X : Cx) : Prop where
  mod : Mod X.K X.mg X.base
  kind : X.env.scope.kind = .function
  glob : X.env.globals = mainGlobals
  blt : X.env.builtins = builtinsNs
  above : X.s₀.heap.objs.size ≤ X.env.locals
  inj : ∀ x y c, X.env.cells.lookup x = some c → X.env.cells.lookup y = some c → x = y
  has : ∀ x, (X.env.kindOf x = some .cell ∨ X.env.kindOf x = some .free) → ∃ c, X.env.cells.lookup x = some c
  cab : ∀ x c, X.fn x = true → X.env.cells.lookup x = some c → X.s₀.heap.objs.size ≤ c
  hd : X.calm = true → X.A.handled = none
  frames : X.A.frames = some X.stack
  stk : X.stack = X.outer ∨ (X.stack = X.env :: X.outer ∧ X.env.frame = some X.env.locals)
  exf : ∀ b ∈ X.ex, b ≠ X.env.locals ∧ ∀ x c, X.env.cells.lookup x = some c → c ≠ b
  bs : ∀ b o, X.base.get? b = some o → X.s₀.heap.get? b = some o ∧ X.H₀ b = none
  bsz : X.base.objs.size ≤ X.s₀.heap.objs.size
  noex : ∀ b o, X.base.get? b = some o → b ∉ X.ex
  exfs : ∀ b ∈ X.ex, b ∉ X.fs
  funs : X.s₀.heap.FunFrames X.base X.outer
  frf : ∀ b ∈ X.fs, X.H₀ b = none

structure Inv (X : Cx) (pins : List (Addr × Obj)) (σ : List (Option V)) (H : Hp) (s : Shared) : Prop where
  ok : X.Ok
  os : s.os = X.s₀.os
  bare : AllBare s.gens
  base : Un X.fs X.ex X.H₀ H X.s₀.heap s.heap
  loc : ∃ m, s.heap.Ns X.env.locals m ∧ ∀ (i : Nat) (x : Str) (v : V), X.N[i]? = some x → σ[i]? = some (some v) → Vis X.env.scope x → ∃ u, RelV v u ∧ Look X.env s.heap m x u
  cell : ∀ x c, X.env.cells.lookup x = some c → ∃ v, s.heap.IsCell c v
  free : H X.env.locals = none
  freeC : ∀ x c, X.env.cells.lookup x = some c → H c = none
  pin : ∀ p ∈ X.pn ++ pins, s.heap.get? p.1 = some p.2 ∧ H p.1 = none ∧ p.1 ≠ X.env.locals ∧ p.1 ∉ X.fs ∧ ∀ v, p.2.data ≠ .cell v
  hok : HOk X.prog X.w H s.heap
  len : σ.length = X.N.length

section
variable {X : Cx} {pins : List (Addr × Obj)} {σ : List (Option V)} {H H' : Hp} {s : Shared} {h' : Heap}

theorem Cx.Ok.nofr (ok : X.Ok) {b : Addr} {o : Obj} (e : X.base.get? b = some o) : b ∉ X.fs := fun hb => by
  have := (ok.funs.mem hb).1
  rw [e] at this; cases this
theorem Inv.bs (I : Inv X pins σ H s) : ∀ b o, X.base.get? b = some o → s.heap.get? b = some o ∧ H b = none := fun b o e =>
  ⟨I.base.keep b o (I.ok.bs b o e).1 (I.ok.bs b o e).2 (I.ok.nofr e) (I.ok.noex b o e), I.base.free b o (I.ok.bs b o e).1 (I.ok.bs b o e).2 (I.ok.noex b o e)⟩
theorem Inv.bk (I : Inv X pins σ H s) : ∀ b o, X.base.get? b = some o → s.heap.get? b = some o := fun b o e => (I.bs b o e).1
theorem Inv.mod (I : Inv X pins σ H s) : Mod X.K X.mg X.base := I.ok.mod
theorem Inv.kIn (I : Inv X pins σ H s) : X.K.In s.heap := I.ok.mod.kin.keeps I.bk
theorem Inv.lt (I : Inv X pins σ H s) : X.env.locals < s.heap.objs.size := let ⟨_, hn, _⟩ := I.loc; hn.lt
theorem Inv.sz (I : Inv X pins σ H s) : X.s₀.heap.objs.size ≤ s.heap.objs.size := Nat.le_trans I.ok.above (Nat.le_of_lt I.lt)
theorem Inv.nofs (I : Inv X pins σ H s) {a : Addr} (h : s.heap.objs.size ≤ a) : a ∉ X.fs := fun hb => by
  obtain ⟨_, o, ho, _⟩ := I.ok.funs.mem hb
  exact absurd (Nat.lt_of_lt_of_le (Heap.lt_size ho) (Nat.le_trans I.sz h)) (Nat.lt_irrefl _)
theorem Inv.cne (I : Inv X pins σ H s) : ∀ x c, X.env.cells.lookup x = some c → c ≠ X.env.locals := fun x c e z => by
  obtain ⟨v, o, ho, hd⟩ := I.cell x c e
  obtain ⟨m, ⟨o', es, ep, ho', hd', _⟩, _⟩ := I.loc
  rw [z, ho'] at ho; cases ho; rw [hd'] at hd; cases hd
theorem Inv.funs (I : Inv X pins σ H s) : s.heap.FunFrames X.base X.outer := by
  have all : ∀ (l : List Env), (∀ b ∈ frs l, b ∈ X.fs) → X.s₀.heap.FunFrames X.base l → s.heap.FunFrames X.base l := by
    intro l
    induction l with
    | nil => intro _ _; trivial
    | cons env r ih =>
      intro hs hl
      obtain ⟨hk, ⟨L, o, hf, hn, ho, hd⟩, hr⟩ := hl
      have hL : L ∈ X.fs := hs L (by unfold frs; rw [List.filterMap_cons, hf]; exact List.mem_cons_self)
      obtain ⟨sl, e⟩ := I.base.slot L o ho (I.ok.frf L hL) hL fun z => I.ok.exfs L z hL
      exact ⟨hk, ⟨L, _, hf, hn, e, hd⟩, ih (fun b hb => hs b (by unfold frs; rw [List.filterMap_cons, hf]; exact List.mem_cons_of_mem _ hb)) hr⟩
  exact all X.outer (fun _ hb => hb) I.ok.funs

/-- the frames that run, for a call -/
theorem Inv.stack (I : Inv X pins σ H s) : s.heap.FunFrames X.base X.stack := by
  rcases I.ok.stk with e | ⟨e, hf⟩
  · rw [e]; exact I.funs
  · rw [e]
    obtain ⟨m, hn, _⟩ := I.loc
    refine .cons (by rw [I.ok.kind]; decide) hf hn ?_ I.funs
    exact Heap.get?_none_of_le (Nat.le_trans I.ok.bsz I.ok.above)
theorem Inv.stkSub (I : Inv X pins σ H s) : ∀ b ∈ frs X.stack, b ∈ X.env.locals :: X.fs := fun b hb => by
  rcases I.ok.stk with e | ⟨e, hf⟩
  · rw [e] at hb; exact List.mem_cons_of_mem _ hb
  · rw [e] at hb
    unfold frs at hb
    rw [List.filterMap_cons, hf] at hb
    exact hb
theorem Inv.stkFree (I : Inv X pins σ H s) : ∀ b ∈ frs X.stack, H b = none := fun b hb => by
  rcases List.mem_cons.mp (I.stkSub b hb) with e | hb
  · rw [e]; exact I.free
  · obtain ⟨_, o, ho, _⟩ := I.ok.funs.mem hb
    exact I.base.free b o ho (I.ok.frf b hb) fun z => I.ok.exfs b z hb

/-- THE STEP: the untracked objects but the frame and the records at ch are kept (the callers' frames up to slots), the frame's map is kept, the new abstract heap is held -/
theorem Inv.step {g' : Array GenState} {t' : Nat} {d' : Drawn} {ch : List Addr} (I : Inv X pins σ H s)
    (hch : ∀ b ∈ ch, (b ∈ X.ex ∨ X.s₀.heap.objs.size ≤ b) ∧ b ≠ X.env.locals ∧ (∀ x c, X.env.cells.lookup x = some c → c ≠ b) ∧ ∀ p ∈ X.pn ++ pins, p.1 ≠ b)
    (keep : ∀ b o, b ≠ X.env.locals → b ∉ X.fs → b ∉ ch → s.heap.get? b = some o → H b = none → h'.get? b = some o)
    (slot : ∀ b o, b ≠ X.env.locals → b ∈ X.fs → b ∉ ch → s.heap.get? b = some o → H b = none → ∃ sl, h'.get? b = some { o with slots := sl }) (free : ∀ b o, b ∉ ch → s.heap.get? b = some o → H b = none → H' b = none)
    (there : ∀ b o, b ∉ ch → s.heap.get? b = some o → ∃ o', h'.get? b = some o')
    (tups : ∀ b xs, H b = some (.tup xs) → H' b = some (.tup xs)) (frzs : ∀ b o u, H b = some (.frz o u) → H' b = some (.frz o u)) (tbls : ∀ b ps, H b = some (.tbl ps) → ∃ more, H' b = some (.tbl (ps ++ more)))
    (ns : ∀ m, s.heap.Ns X.env.locals m → h'.Ns X.env.locals m) (hok : HOk X.prog X.w H' h') (hg : AllBare g') :
    Inv X pins σ H' { s with heap := h', gens := g', drawn := d', toks := t' } := by
  have neL : ∀ b o, X.s₀.heap.get? b = some o → b ≠ X.env.locals := fun b o e => Nat.ne_of_lt (Nat.lt_of_lt_of_le (Heap.lt_size e) I.ok.above)
  have neC : ∀ b o, X.s₀.heap.get? b = some o → b ∉ X.ex → b ∉ ch := fun b o e hx hb => by
    rcases (hch b hb).1 with z | z
    · exact hx z
    · exact absurd (Nat.lt_of_lt_of_le (Heap.lt_size e) z) (Nat.lt_irrefl _)
  have cellK : ∀ x c, X.env.cells.lookup x = some c → ∀ v, s.heap.IsCell c v → h'.IsCell c v := fun x c e v ⟨o, ho, hd⟩ => by
    have nch : c ∉ ch := fun z => (hch c z).2.2.1 x c e rfl
    by_cases hc : c ∈ X.fs
    · obtain ⟨sl, q⟩ := slot c o (I.cne x c e) hc nch ho (I.freeC x c e)
      exact ⟨_, q, hd⟩
    · exact ⟨o, keep c o (I.cne x c e) hc nch ho (I.freeC x c e), hd⟩
  refine ⟨I.ok, I.os, hg, ⟨fun b o e n hb hx => ?_, fun b o e n hb hx => ?_, fun b o e n hx => ?_, fun b o e hx => ?_, fun b xs e => tups b xs (I.base.tups b xs e), fun b o xs e => frzs b o xs (I.base.frzs b o xs e), fun b ps e => ?_⟩, ?_, fun x c e => ?_, ?_, fun x c e => ?_, fun p hp => ?_, hok, I.len⟩
  · exact keep b o (neL b o e) hb (neC b o e hx) (I.base.keep b o e n hb hx) (I.base.free b o e n hx)
  · obtain ⟨sl, e1⟩ := I.base.slot b o e n hb hx
    obtain ⟨sl', e2⟩ := slot b _ (neL b o e) hb (neC b o e hx) e1 (I.base.free b o e n hx)
    exact ⟨sl', e2⟩
  · obtain ⟨o', e1⟩ := I.base.there b o e hx
    exact free b o' (neC b o e hx) e1 (I.base.free b o e n hx)
  · obtain ⟨o', e1⟩ := I.base.there b o e hx
    exact there b o' (neC b o e hx) e1
  · obtain ⟨m1, e1⟩ := I.base.tbls b ps e
    obtain ⟨m2, e2⟩ := tbls b _ e1
    exact ⟨m1 ++ m2, by rw [e2, Array.append_assoc]⟩
  · obtain ⟨m, hn, hl⟩ := I.loc
    refine ⟨m, ns m hn, fun i x v e1 e2 e3 => ?_⟩
    obtain ⟨u, r, l⟩ := hl i x v e1 e2 e3
    refine ⟨u, r, ?_⟩
    rcases l with l | ⟨k, c, e, z⟩
    · exact .inl l
    · exact .inr ⟨k, c, e, cellK x c e _ z⟩
  · obtain ⟨v, z⟩ := I.cell x c e
    exact ⟨v, cellK x c e v z⟩
  · obtain ⟨m, ⟨o, _, _, ho, _⟩, _⟩ := I.loc
    exact free _ o (fun z => (hch _ z).2.1 rfl) ho I.free
  · obtain ⟨v, o, ho, hd⟩ := I.cell x c e
    exact free c o (fun z => (hch c z).2.2.1 x c e rfl) ho (I.freeC x c e)
  · obtain ⟨e, n, ne, nf, d⟩ := I.pin p hp
    have nch : p.1 ∉ ch := fun z => (hch p.1 z).2.2.2 p hp rfl
    exact ⟨keep p.1 p.2 ne nf nch e n, free p.1 p.2 nch e n, ne, nf, d⟩
/-- .. where the frame's own object is kept too -/
theorem Inv.un {t' : Nat} (I : Inv X pins σ H s) (u : Un X.fs [] H H' s.heap h') (hok : HOk X.prog X.w H' h') : Inv X pins σ H' { s with heap := h', toks := t' } := by
  obtain ⟨m, ⟨o, es, ep, ho, r⟩, _⟩ := id I.loc
  obtain ⟨sl, hL⟩ := u.any ho I.free (by simp)
  exact I.step (g' := s.gens) (d' := s.drawn) (ch := []) (fun _ z => nomatch z) (fun b o _ hb _ e n => u.keep b o e n hb (by simp)) (fun b o _ hb _ e n => u.slot b o e n hb (by simp)) (fun b o _ e n => u.free b o e n (by simp)) (fun b o _ e => u.there b o e (by simp)) u.tups u.frzs u.tbls (fun m' hm => by
    obtain ⟨o', es', ep', ho', r'⟩ := hm
    rw [ho] at ho'; cases ho'
    exact ⟨_, es', ep', hL, r'⟩) hok I.bare
/-- behind a call (or a comprehension's block): the slots of this frame may have changed too, the records at ch may have turned -/
theorem Inv.call {g' : Array GenState} {t' : Nat} {d' : Drawn} {ch : List Addr} (I : Inv X pins σ H s) (u : Un (frs X.stack) ch H H' s.heap h') (hok : HOk X.prog X.w H' h') (hg : AllBare g')
    (hch : ∀ b ∈ ch, (b ∈ X.ex ∨ X.s₀.heap.objs.size ≤ b) ∧ b ≠ X.env.locals ∧ (∀ x c, X.env.cells.lookup x = some c → c ≠ b) ∧ ∀ p ∈ X.pn ++ pins, p.1 ≠ b) :
    Inv X pins σ H' { s with heap := h', gens := g', drawn := d', toks := t' } := by
  obtain ⟨m, ⟨o, es, ep, ho, r⟩, _⟩ := id I.loc
  obtain ⟨sl, hL⟩ := u.any ho I.free fun z => (hch _ z).2.1 rfl
  exact I.step (ch := ch) hch (fun b o hL hb hc e n => u.keep b o e n (fun z => (List.mem_cons.mp (I.stkSub b z)).elim hL hb) hc) (fun b o _ _ hc e n => u.any e n hc) (fun b o hc e n => u.free b o e n hc) (fun b o hc e => u.there b o e hc) u.tups u.frzs u.tbls (fun m' hm => by
    obtain ⟨o', es', ep', ho', r'⟩ := hm
    rw [ho] at ho'; cases ho'
    exact ⟨_, es', ep', hL, r'⟩) hok hg
/-- an untracked record of ours (an iterator) has turned -/
theorem Inv.turned {t' : Nat} {it : Addr} (I : Inv X pins σ H s) (k : ∀ b o, b ≠ it → s.heap.get? b = some o → h'.get? b = some o) (hn : H it = none) (hL : it ≠ X.env.locals)
    (h1 : it ∈ X.ex ∨ X.s₀.heap.objs.size ≤ it) (h2 : ∀ x c, X.env.cells.lookup x = some c → c ≠ it) (h3 : ∀ p ∈ X.pn ++ pins, p.1 ≠ it) : Inv X pins σ H { s with heap := h', toks := t' } := by
  have nit : ∀ b u, H b = some u → b ≠ it := fun b u e z => by rw [z, hn] at e; cases e
  refine I.step (g' := s.gens) (d' := s.drawn) (ch := [it]) (fun b hb => ?_) (fun b o _ _ hc e _ => k b o (fun z => hc (by simp [z])) e) (fun b o _ _ hc e _ => ⟨o.slots, k b o (fun z => hc (by simp [z])) e⟩) (fun _ _ _ _ n => n)
    (fun b o hc e => ⟨o, k b o (fun z => hc (by simp [z])) e⟩) (fun _ _ e => e) (fun _ _ _ e => e) (fun b ps e => ⟨#[], by rw [e]; simp⟩) (fun m hm => ?_) (fun b u e => ?_) I.bare
  · have e : b = it := by simpa using hb
    subst e
    exact ⟨h1, hL, h2, h3⟩
  · obtain ⟨o, es, ep, ho, r⟩ := hm
    exact ⟨o, es, ep, k _ o (Ne.symm hL) ho, r⟩
  · refine (I.hok b u e).stay (fun c v hc q => k c v ?_ q) (fun _ q => q) fun _ _ q => q
    rcases hc with z | z
    · rw [z]; exact nit b u e
    · exact nit c _ z
theorem Inv.tok (I : Inv X pins σ H s) (t : Nat) : Inv X pins σ H { s with toks := t } := I.un (h' := s.heap) (t' := t) Un.refl I.hok
/-- all objects kept -/
theorem Inv.kept {t' : Nat} (I : Inv X pins σ H s) (k : ∀ b u, s.heap.get? b = some u → h'.get? b = some u) : Inv X pins σ H { s with heap := h', toks := t' } := I.un (Un.kept k) (I.hok.kept k)
/-- a new object laid and tracked -/
theorem Inv.laid {a : Addr} {o : HO} {t' : Nat} (I : Inv X pins σ H s) (k : ∀ b u, s.heap.get? b = some u → h'.get? b = some u) (hp : s.heap.objs.size ≤ a) (new : ObjOk X.prog X.w (upd H a o) h' a o) :
    Inv X pins σ (upd H a o) { s with heap := h', toks := t' } := I.un (Un.laid k hp (I.hok.fresh hp)) (I.hok.laid k hp new)
/-- an object written -/
theorem Inv.write {x e : Addr} {o : HO} {t' : Nat} (I : Inv X pins σ H s) (mu : Mut (H x)) (he : e = x ∨ H e = some (.own x)) (k : ∀ b u, b ≠ e → s.heap.get? b = some u → h'.get? b = some u) (heo : ∃ u, h'.get? e = some u)
    (new : ObjOk X.prog X.w (upd H x o) h' x o) : Inv X pins σ (upd H x o) { s with heap := h', toks := t' } := I.un (Un.write mu he k heo) (I.hok.write mu he k heo new)
theorem Inv.pins_of {pins' : List (Addr × Obj)} (I : Inv X pins σ H s) (h : ∀ p ∈ pins', s.heap.get? p.1 = some p.2 ∧ H p.1 = none ∧ p.1 ≠ X.env.locals ∧ p.1 ∉ X.fs ∧ ∀ v, p.2.data ≠ .cell v) : Inv X pins' σ H s :=
  ⟨I.ok, I.os, I.bare, I.base, I.loc, I.cell, I.free, I.freeC, fun p hp => (List.mem_append.mp hp).elim (fun z => I.pin p (List.mem_append_left _ z)) (h p), I.hok, I.len⟩

theorem nodup_ix {N : List Str} (hN : N.Nodup) {i j : Nat} {x : Str} (a : N[i]? = some x) (b : N[j]? = some x) : i = j := by
  obtain ⟨h1, e1⟩ := List.getElem?_eq_some_iff.mp a
  obtain ⟨h2, e2⟩ := List.getElem?_eq_some_iff.mp b
  exact (List.getElem_inj hN).mp (e1.trans e2.symm)

/-- a name is stored; what changed -/
theorem store_ok2 {M : Model} {A : Around} {E : Value → Shared → Prop} {i : Nat} {x : Str} {v : V} {u : Value} {Q : Unit → Shared → Prop} (I : Inv X pins σ H s) (hN : X.N.Nodup) (hi : X.N[i]? = some x) (hx : Loc X.env.scope x) (r : RelV v u)
    (h : ∀ s', Inv X pins (σ.set i (some v)) H s' → (∃ a, Heap.SameBut a s.heap s'.heap ∧ (a = X.env.locals ∨ X.env.cells.lookup x = some a)) → Q () s') (hf : X.fn x = true ∨ X.env.scope.names.lookup x = some .local := by first | exact .inl rfl | exact .inr rfl | assumption) : wpAny M A (storeName X.env x u) Q E s := by
  obtain ⟨m, hn, hl⟩ := id I.loc
  have hcls : (X.env.scope.kind == .class || (X.env.scope.kind == .module && X.env.locals != X.env.globals)) = false := by rw [I.ok.kind]; rfl
  have hiσ : i < σ.length := by rw [I.len]; exact (List.getElem?_eq_some_iff.mp hi).1
  have cne := I.cne
  have tracked : ∀ {a : Addr} {h' : Heap}, (∃ o, s.heap.get? a = some o ∧ H a = none) → Heap.SameBut a s.heap h' → HOk X.prog X.w H h' := fun {a h'} ha hs b ob e => by
    obtain ⟨_, _, hfree⟩ := ha
    refine (I.hok b ob e).stay (fun c w' hc q => (hs.2 c ?_).trans q) (fun _ q => q) fun _ _ q => q
    rintro rfl
    rcases hc with rfl | hc
    · rw [hfree] at e; cases e
    · rw [hfree] at hc; cases hc
  rcases hx with hk | hk
  · refine wpAny_storeName_local hk hn (fun h' hn' hs => ?_) hcls
    obtain ⟨oL, _, _, hoL, _⟩ := id hn
    refine h _ ⟨I.ok, I.os, I.bare, ⟨fun b o e n hb hx => ?_, fun b o e n hb hx => ?_, I.base.free, fun b o e hx => ?_, I.base.tups, I.base.frzs, I.base.tbls⟩, ⟨_, hn', fun j y v' e1 e2 e3 => ?_⟩, fun y c e => ?_, I.free, I.freeC, fun p hp => ?_, tracked ⟨oL, hoL, I.free⟩ hs, by simpa using I.len⟩ ⟨_, hs, .inl rfl⟩
    · exact (hs.2 b (Nat.ne_of_lt (Nat.lt_of_lt_of_le (Heap.lt_size e) I.ok.above))).trans (I.base.keep b o e n hb hx)
    · obtain ⟨sl, e1⟩ := I.base.slot b o e n hb hx
      exact ⟨sl, (hs.2 b (Nat.ne_of_lt (Nat.lt_of_lt_of_le (Heap.lt_size e) I.ok.above))).trans e1⟩
    · obtain ⟨o', e1⟩ := I.base.there b o e hx
      exact ⟨o', (hs.2 b (Nat.ne_of_lt (Nat.lt_of_lt_of_le (Heap.lt_size e) I.ok.above))).trans e1⟩
    · by_cases hj : j = i
      · subst hj
        rw [hi] at e1; cases e1
        rw [List.getElem?_set_self hiσ] at e2
        cases e2
        exact ⟨u, r, .inl ⟨hk, by simp⟩⟩
      · rw [List.getElem?_set_ne (Ne.symm hj)] at e2
        obtain ⟨u', r', q⟩ := hl j y v' e1 e2 e3
        refine ⟨u', r', ?_⟩
        rcases q with ⟨k, e⟩ | ⟨k, c, e, z⟩
        · refine .inl ⟨k, ?_⟩
          have : y ≠ x := fun e => hj (nodup_ix hN e1 (e ▸ hi))
          simp [this, e]
        · exact .inr ⟨k, c, e, z.sameBut hs (cne y c e)⟩
    · obtain ⟨w', z⟩ := I.cell y c e
      exact ⟨w', z.sameBut hs (cne y c e)⟩
    · obtain ⟨e, n, ne, nf, d⟩ := I.pin p hp
      exact ⟨(hs.2 p.1 ne).trans e, n, ne, nf, d⟩
  · have hfn : X.fn x = true := by
      rcases hf with z | z
      · exact z
      · rw [z] at hk; cases hk
    obtain ⟨c, hc⟩ := I.ok.has x (.inl hk)
    obtain ⟨w', z⟩ := I.cell x c hc
    refine wpAny_storeName_cell I.ok.kind hk hc z (fun h' hc' hs => ?_)
    obtain ⟨oc, hoc, hocd⟩ := id z
    refine h { s with heap := h' } ⟨I.ok, I.os, I.bare, ⟨fun b o e n hb hx => ?_, fun b o e n hb hx => ?_, I.base.free, fun b o e hx => ?_, I.base.tups, I.base.frzs, I.base.tbls⟩, ⟨m, hn.sameBut hs (Ne.symm (cne x c hc)), fun j y v' e1 e2 e3 => ?_⟩, fun y c' e => ?_, I.free, I.freeC, fun p hp => ?_, tracked ⟨oc, hoc, I.freeC x c hc⟩ hs, by simpa using I.len⟩ ⟨c, hs, .inr hc⟩
    · exact (hs.2 b (Nat.ne_of_lt (Nat.lt_of_lt_of_le (Heap.lt_size e) (I.ok.cab x c hfn hc)))).trans (I.base.keep b o e n hb hx)
    · obtain ⟨sl, e1⟩ := I.base.slot b o e n hb hx
      exact ⟨sl, (hs.2 b (Nat.ne_of_lt (Nat.lt_of_lt_of_le (Heap.lt_size e) (I.ok.cab x c hfn hc)))).trans e1⟩
    · obtain ⟨o', e1⟩ := I.base.there b o e hx
      exact ⟨o', (hs.2 b (Nat.ne_of_lt (Nat.lt_of_lt_of_le (Heap.lt_size e) (I.ok.cab x c hfn hc)))).trans e1⟩
    · by_cases hj : j = i
      · subst hj
        rw [hi] at e1; cases e1
        rw [List.getElem?_set_self hiσ] at e2
        cases e2
        exact ⟨u, r, .inr ⟨.inl hk, c, hc, hc'⟩⟩
      · rw [List.getElem?_set_ne (Ne.symm hj)] at e2
        obtain ⟨u', r', q⟩ := hl j y v' e1 e2 e3
        refine ⟨u', r', ?_⟩
        rcases q with q | ⟨k, c', e, z'⟩
        · exact .inl q
        · refine .inr ⟨k, c', e, z'.sameBut hs ?_⟩
          rintro rfl
          exact hj (nodup_ix hN e1 (I.ok.inj _ _ _ e hc ▸ hi))
    · by_cases hcc : c' = c
      · subst hcc; exact ⟨_, hc'⟩
      · obtain ⟨w2, z2⟩ := I.cell y c' e
        exact ⟨w2, z2.sameBut hs hcc⟩
    · obtain ⟨e, n, ne, nf, d⟩ := I.pin p hp
      refine ⟨(hs.2 p.1 ?_).trans e, n, ne, nf, d⟩
      intro q
      rw [q, hoc] at e
      have q' : oc = p.2 := Option.some.inj e
      exact d w' (by rw [← q']; exact hocd)
theorem store_ok {M : Model} {A : Around} {E : Value → Shared → Prop} {i : Nat} {x : Str} {v : V} {u : Value} {Q : Unit → Shared → Prop} (I : Inv X pins σ H s) (hN : X.N.Nodup) (hi : X.N[i]? = some x) (hx : Loc X.env.scope x) (r : RelV v u)
    (h : ∀ s', Inv X pins (σ.set i (some v)) H s' → Q () s') (hf : X.fn x = true ∨ X.env.scope.names.lookup x = some .local := by first | exact .inl rfl | exact .inr rfl | assumption) : wpAny M A (storeName X.env x u) Q E s :=
  store_ok2 I hN hi hx r (fun s' I' _ => h s' I') hf
/-- behind a call or a block, the state as it is -/
theorem Inv.call' {s' : Shared} {ch : List Addr} (I : Inv X pins σ H s) (ho : s'.os = s.os) (u : Un (frs X.stack) ch H H' s.heap s'.heap) (hok : HOk X.prog X.w H' s'.heap) (hg : AllBare s'.gens)
    (hch : ∀ b ∈ ch, (b ∈ X.ex ∨ X.s₀.heap.objs.size ≤ b) ∧ b ≠ X.env.locals ∧ (∀ x c, X.env.cells.lookup x = some c → c ≠ b) ∧ ∀ p ∈ X.pn ++ pins, p.1 ≠ b) : Inv X pins σ H' s' := by
  obtain ⟨h', g', d', t', o'⟩ := s'
  have e : o' = s.os := ho
  subst e
  exact I.call (g' := g') (t' := t') (d' := d') u hok hg hch
end

/-! ### the judgements -/
/-- an exception: its class, its own dict's address (where it has one), the abstract heap behind it -/
abbrev XK := Value → Option Addr → Hp → Prop
abbrev St := List (Option V)
abbrev VK := V → Hp → Prop
/-- an expression's reading; a test's; an argument list's -/
abbrev TE := St → Hp → VK → Prop
abbrev TT := St → Hp → (Bool → Hp → Prop) → Prop
abbrev TA := St → Hp → (List V → Hp → Prop) → Prop
/-- what is wanted behind a statement -/
structure Ends where
  nx : St → Hp → Prop
  rt : VK
  bk : St → Hp → Prop := fun _ _ => False
  ct : St → Hp → Prop := fun _ _ => False
abbrev TS := Ends → St → Hp → Prop

def EP (X : Cx) (pins : List (Addr × Obj)) (σ : St) (Q : VK) (u : Value) (s' : Shared) : Prop := ∃ v H', Inv X pins σ H' s' ∧ RelV v u ∧ Q v H'
def TP (X : Cx) (pins : List (Addr × Obj)) (σ : St) (Q : Bool → Hp → Prop) (b : Bool) (s' : Shared) : Prop := ∃ H', Inv X pins σ H' s' ∧ Q b H'
def AP (X : Cx) (pins : List (Addr × Obj)) (σ : St) (Q : List V → Hp → Prop) (us : List Value) (s' : Shared) : Prop := ∃ vs H', Inv X pins σ H' s' ∧ Vals vs us ∧ Q vs H'
def SP (X : Cx) (pins : List (Addr × Obj)) (D : Ends) (f : Flow) (s' : Shared) : Prop :=
  match f with
  | .next => ∃ σ' H', Inv X pins σ' H' s' ∧ D.nx σ' H'
  | .brk => ∃ σ' H', Inv X pins σ' H' s' ∧ D.bk σ' H'
  | .cont => ∃ σ' H', Inv X pins σ' H' s' ∧ D.ct σ' H'
  | .ret u => ∃ v σ' H', Inv X pins σ' H' s' ∧ RelV v u ∧ D.rt v H'

def PE (X : Cx) (e : Expr) (t : TE) : Prop :=
  ∀ (pins : List (Addr × Obj)) (s : Shared) (σ : St) (H : Hp) (Q : VK), Inv X pins σ H s → t σ H Q → wpAny (model X.prog X.w) X.A (eval e X.env) (EP X pins σ Q) X.xe s
def PT (X : Cx) (e : Expr) (t : TT) : Prop :=
  ∀ (pins : List (Addr × Obj)) (s : Shared) (σ : St) (H : Hp) (Q : Bool → Hp → Prop), Inv X pins σ H s → t σ H Q → wpAny (model X.prog X.w) X.A (isTrue e X.env (eval e X.env)) (TP X pins σ Q) X.xe s
/-- a test whatever its 'whole' is (and, or) -/
def PW (X : Cx) (e : Expr) (t : TT) : Prop :=
  ∀ (whole : Sem Value) (pins : List (Addr × Obj)) (s : Shared) (σ : St) (H : Hp) (Q : Bool → Hp → Prop), Inv X pins σ H s → t σ H Q → wpAny (model X.prog X.w) X.A (isTrue e X.env whole) (TP X pins σ Q) X.xe s
theorem PW.pt {X : Cx} {e : Expr} {t : TT} (h : PW X e t) : PT X e t := h _
/-- an argument list (no star), from the left -/
def PA (X : Cx) (es : List Expr) (t : TA) : Prop :=
  ∀ (pos : Pos) (pins : List (Addr × Obj)) (s : Shared) (σ : St) (H : Hp) (Q : List V → Hp → Prop), Inv X pins σ H s → t σ H Q → wpAny (model X.prog X.w) X.A (spliced (backTo pos (starEach es X.env))) (AP X pins σ Q) X.xe s
def PS (X : Cx) (st : Stmt) (t : TS) : Prop :=
  ∀ (pins : List (Addr × Obj)) (s : Shared) (σ : St) (H : Hp) (D : Ends), Inv X pins σ H s → t D σ H → wpAny (model X.prog X.w) X.A (exec st X.env) (SP X pins D) X.xe s
def PSs (X : Cx) (st : List Stmt) (t : TS) : Prop :=
  ∀ (pins : List (Addr × Obj)) (s : Shared) (σ : St) (H : Hp) (D : Ends), Inv X pins σ H s → t D σ H → wpAny (model X.prog X.w) X.A (execs st X.env) (SP X pins D) X.xe s
/-- weaken the end -/
theorem thn {α : Type} {t : Sem α} {Q Q' : α → Shared → Prop} {M : Model} {A : Around} {E : Value → Shared → Prop} {s : Shared} (h : wpAny M A t Q E s) (hQ : ∀ a s, Q a s → Q' a s) : wpAny M A t Q' E s := wpAny_mono h hQ fun _ _ x => x
end L2

namespace L2
open PySem PySem.Spec PyProof.Rows
section
variable {X : Cx}

/-! ### names and constants -/
def tVar (i : Nat) : TE := fun σ H Q => ∃ v, σ[i]? = some (some v) ∧ Q v H
def tC (v : V) : TE := fun _ H Q => Q v H
theorem pe_var {i : Nat} {x : Str} {pos : Pos} (hN : X.N[i]? = some x) (hv : Vis X.env.scope x) (hd : (x == ("__debug__" : Str)) = false := by decide) (hcd : (x == ("__classdict__" : Str)) = false := by decide) : PE X (.Name x pos) (tVar i) := by
  intro pins s σ H Q I h
  obtain ⟨v, e, h⟩ := h
  obtain ⟨m, hn, hl⟩ := I.loc
  obtain ⟨u, r, l⟩ := hl i x v hN e hv
  have fin : EP X pins σ Q u s := ⟨v, H, I, r, h⟩
  rcases l with ⟨hk, hm⟩ | ⟨hk, c, hc, hcell⟩
  · exact wpAny_Name (wpAny_loadName_local I.ok.kind hk hn hm fin) hd
  · rcases hk with hk | hk
    · exact wpAny_Name (wpAny_loadName_cell I.ok.kind hk hc hcell fin) hd
    · exact wpAny_Name (wpAny_loadName_free I.ok.kind hk hc hcell fin hcd) hd
theorem pe_int {i j pos} : PE X (.Constant (.int i) j pos) (tC (.int i)) := fun _ _ _ H _ I h => wpAny_Constant_int ⟨.int i, H, I.tok _, ⟨_, rfl⟩, h⟩
theorem pe_bl {b j pos} : PE X (.Constant (.bool b) j pos) (tC (.bl b)) := fun _ _ _ H _ I h => Constant_bool ⟨.bl b, H, I, rfl, h⟩
theorem pe_non {j pos} : PE X (.Constant .none j pos) (tC .non) := fun _ _ _ H _ I h => Constant_none ⟨.non, H, I, rfl, h⟩
theorem pe_str {x j pos} : PE X (.Constant (.str x) j pos) (tC (.str x)) := fun _ _ _ H _ I h => Calls.Constant_str ⟨.str x, H, I.tok _, ⟨_, rfl⟩, h⟩

/-- a global name of the def -/
def Gl (X : Cx) (x : Str) : Prop := X.env.kindOf x = some .globalImplicit
theorem ld_glob {E : Value → Shared → Prop} {pins : List (Addr × Obj)} {s : Shared} {σ : St} {H : Hp} {x : Str} {u : Value} {pos : Pos} {Q : Value → Shared → Prop} (I : Inv X pins σ H s) (hg : Gl X x) (hm : X.mg x = some u) (h : Q u s)
    (hd : (x == ("__debug__" : Str)) = false := by decide) : wpAny (model X.prog X.w) X.A (eval (.Name x pos) X.env) Q E s :=
  Calls.Name_function_global I.ok.kind hg (Calls.loadGlobal_global (by rw [I.ok.glob]; exact I.mod.glob.keeps I.bk) hm h) hd
theorem ld_blt {E : Value → Shared → Prop} {pins : List (Addr × Obj)} {s : Shared} {σ : St} {H : Hp} {x : Str} {u : Value} {pos : Pos} {Q : Value → Shared → Prop} (I : Inv X pins σ H s) (hg : Gl X x) (hm : X.mg x = none) (hv : bootBuiltins x = some u) (h : Q u s)
    (hn : x ≠ "__name__" := by decide) (hd : (x == ("__debug__" : Str)) = false := by decide) : wpAny (model X.prog X.w) X.A (eval (.Name x pos) X.env) Q E s := by
  obtain ⟨mb, h1, h2⟩ := I.mod.blt
  exact Calls.Name_function_global I.ok.kind hg (Calls.loadGlobal_builtin (by rw [I.ok.glob]; exact I.mod.glob.keeps I.bk) hm (by rw [I.ok.blt]; exact h1.keeps I.bk) ((h2 x hn).trans hv) h) hd
/-- a module's constant, a class, a function, as a value -/
theorem pe_glob {x : Str} {v : V} {u : Value} {pos : Pos} (hg : Gl X x) (hm : X.mg x = some u) (r : RelV v u) (hd : (x == ("__debug__" : Str)) = false := by decide) : PE X (.Name x pos) (tC v) :=
  fun _ _ _ H _ I h => ld_glob I hg hm ⟨v, H, I, r, h⟩ hd
theorem pe_bltn {x : Str} {v : V} {u : Value} {pos : Pos} (hg : Gl X x) (hm : X.mg x = none) (hv : bootBuiltins x = some u) (r : RelV v u) (hn : x ≠ "__name__" := by decide) (hd : (x == ("__debug__" : Str)) = false := by decide) : PE X (.Name x pos) (tC v) :=
  fun _ _ _ H _ I h => ld_blt I hg hm hv ⟨v, H, I, r, h⟩ hn hd

/-! ### arithmetic -/
variable {a b : Expr} {ta tb : TE} {pos : Pos}
/-! ### comparisons -/
/-- a comparison as a value, as a test -/
def tB (t : TE) : TT := fun σ H Q => t σ H fun x H1 => ∃ c, x = .bl c ∧ Q c H1
/-- an expression whose value is a bool, as a test -/
theorem pt_val {e : Expr} {t : TE} (h : PE X e t) (he : ∀ whole, isTrue e X.env whole = (do let v ← whole; standAt e.pos; holding [v] (truthy v)) := by intro _; rfl) : PT X e (tB t) := by
  intro pins s σ H Q I hw
  refine isTrue_plain (thn (h pins s σ H _ I hw) fun v s1 ⟨x, H1, I1, r1, q1⟩ => ?_) (he _)
  obtain ⟨d, rfl, q⟩ := q1
  cases r1
  exact wpAny_truthy_bool ⟨H1, I1, q⟩

/-! ### and, or, not -/
variable {tA tB' : TT} {rest : List Expr}
def tAnd (t u : TT) : TT := fun σ H Q => t σ H fun c H1 => if c = true then u σ H1 Q else Q false H1
def tOr (t u : TT) : TT := fun σ H Q => t σ H fun c H1 => if c = true then Q true H1 else u σ H1 Q
def tNot (t : TT) : TT := fun σ H Q => t σ H fun c H1 => Q (!c) H1
theorem pw_and1 (ha : PT X a tA) : PW X (.BoolOp .And [a] pos) tA := by
  intro wh pins s σ H Q I h
  refine isTrue_and (thn (ha pins s σ H Q I h) fun c s1 e => ?_)
  cases c with
  | true => exact isTrue_and_nil e
  | false => exact e
theorem pw_or1 (ha : PT X a tA) : PW X (.BoolOp .Or [a] pos) tA := by
  intro wh pins s σ H Q I h
  refine isTrue_or (thn (ha pins s σ H Q I h) fun c s1 e => ?_)
  cases c with
  | false => exact isTrue_or_nil e
  | true => exact e
theorem pw_and (ha : PT X a tA) (hb : PW X (.BoolOp .And (b :: rest) pos) tB') : PW X (.BoolOp .And (a :: b :: rest) pos) (tAnd tA tB') := by
  intro wh pins s σ H Q I h
  refine isTrue_and (thn (ha pins s σ H _ I h) fun c s1 ⟨H1, I1, q1⟩ => ?_)
  cases c with
  | true => exact hb wh pins s1 σ H1 Q I1 q1
  | false => exact ⟨H1, I1, q1⟩
theorem pw_or (ha : PT X a tA) (hb : PW X (.BoolOp .Or (b :: rest) pos) tB') : PW X (.BoolOp .Or (a :: b :: rest) pos) (tOr tA tB') := by
  intro wh pins s σ H Q I h
  refine isTrue_or (thn (ha pins s σ H _ I h) fun c s1 ⟨H1, I1, q1⟩ => ?_)
  cases c with
  | true => exact ⟨H1, I1, q1⟩
  | false => exact hb wh pins s1 σ H1 Q I1 q1
theorem pt_not (ha : PT X a tA) : PT X (.UnaryOp .Not a pos) (tNot tA) := by
  intro pins s σ H Q I h
  exact isTrue_not (ha pins s σ H (fun c H1 => Q (!c) H1) I h)
/-- .. as values (bools) -/
def tAndV (ta tb : TE) : TE := fun σ H Q => ta σ H fun x H1 => ∃ c, x = .bl c ∧ if c = true then tb σ H1 Q else Q (.bl false) H1
def tNotV (ta : TE) : TE := fun σ H Q => ta σ H fun x H1 => ∃ c, x = .bl c ∧ Q (.bl (!c)) H1
theorem pe_one {op} {t : TE} (h : PE X a t) : PE X (.BoolOp op [a] pos) t := fun pins s σ H Q I hw => BoolOp_one (h pins s σ H Q I hw)
theorem pe_and (ha : PE X a ta) (hb : PE X (.BoolOp .And (b :: rest) pos) tb) : PE X (.BoolOp .And (a :: b :: rest) pos) (tAndV ta tb) := by
  intro pins s σ H Q I h
  refine BoolOp_and (thn (ha pins s σ H _ I h) fun v s1 ⟨x, H1, I1, r1, q1⟩ => ?_)
  obtain ⟨c, rfl, q1⟩ := q1
  cases r1
  refine wpAny_truthy_bool ?_
  cases c with
  | true => exact hb pins s1 σ H1 Q I1 q1
  | false => exact ⟨.bl false, H1, I1, rfl, q1⟩
theorem pe_not (ha : PE X a ta) : PE X (.UnaryOp .Not a pos) (tNotV ta) := by
  intro pins s σ H Q I h
  refine UnaryOp_ (thn (ha pins s σ H _ I h) fun v s1 ⟨x, H1, I1, r1, q1⟩ => ?_)
  obtain ⟨c, rfl, q1⟩ := q1
  cases r1
  exact not_of (wpAny_truthy_bool ⟨.bl (!c), H1, I1, rfl, q1⟩)
end
end L2

namespace L2
open PySem PySem.Spec PyProof.Rows

/-! ### a list, a tuple that is read: tracked, frozen, or an object of the module -/
def SqL (K : PySem.W.Frag) (H : Hp) (a : Addr) (xs : List V) : Prop :=
  Rd H a (.lst xs) ∨
    ∃ (o : Obj) (its : Array Value) (n : Nat), K.lookup a = some o ∧ o.cls = .type "list" ∧ o.dict = none ∧ o.data = .seq its n ∧ its.size ≤ sizeLine ∧ Vals xs its.toList
def SqT (K : PySem.W.Frag) (H : Hp) (a : Addr) (xs : List V) : Prop :=
  Rd H a (.tup xs) ∨
    ∃ (o : Obj) (its : Array Value) (n : Nat), K.lookup a = some o ∧ o.cls = .type "tuple" ∧ o.data = .seq its n ∧ its.size ≤ sizeLine ∧ Vals xs its.toList
def absV : Value → Option V
  | .none => some .non
  | .bool b => some (.bl b)
  | .int i _ => some (.int i)
  | .str x _ => some (.str x)
  | .bytes b _ => some (.byt b)
  | .float b _ => some (.flt b)
  | .ref a => some (.ref a)
  | .type n => some (.ty n)
  | _ => none
theorem RelV.abs {x : V} {u : Value} (r : RelV x u) : absV u = some x := by
  cases x with
  | non => cases r; rfl
  | bl _ => cases r; rfl
  | int _ => obtain ⟨t, rfl⟩ := r; rfl
  | str _ => obtain ⟨t, rfl⟩ := r; rfl
  | byt _ => obtain ⟨t, rfl⟩ := r; rfl
  | flt _ => obtain ⟨t, rfl⟩ := r; rfl
  | ref _ => cases r; rfl
  | ty _ => cases r; rfl
theorem RelV.inj {x y : V} {u : Value} (r : RelV x u) (q : RelV y u) : x = y := Option.some.inj (r.abs.symm.trans q.abs)
theorem Vals.inj : ∀ {xs ys : List V} {us : List Value}, Vals xs us → Vals ys us → xs = ys
  | _, _, _, .nil, .nil => rfl
  | _, _, _, .cons r t, .cons r' t' => by rw [r.inj r', Vals.inj t t']
section
variable {X : Cx} {pins : List (Addr × Obj)} {σ : St} {H : Hp} {s : Shared} {a : Addr} {xs ys : List V}
theorem SqL.of {K : PySem.W.Frag} (h : H a = some (.lst xs)) : SqL K H a xs := .inl (.inl h)
theorem SqT.of {K : PySem.W.Frag} (h : H a = some (.tup xs)) : SqT K H a xs := .inl (.inl h)
theorem Inv.list (I : Inv X pins σ H s) (h : SqL X.K H a xs) : ∃ its : List Value, Vals xs its ∧ PlainL s.heap a its.toArray ∧ xs.length ≤ sizeLine := by
  rcases h with h | ⟨o, its, n, hk, hc, hd, hs, hz, r⟩
  · obtain ⟨z, its, n, r, e⟩ := h.ok I.hok
    exact ⟨its, r, ⟨_, n, e, rfl, rfl, rfl⟩, z⟩
  · refine ⟨its.toList, r, ⟨o, n, I.kIn a o hk, hc, hd, by simpa using hs⟩, ?_⟩
    have e := r.length
    simp only [Array.length_toList] at e
    omega
theorem Inv.tuple (I : Inv X pins σ H s) (h : SqT X.K H a xs) : ∃ its : List Value, Vals xs its ∧ IsTup s.heap a its.toArray ∧ xs.length ≤ sizeLine := by
  rcases h with h | ⟨o, its, n, hk, hc, hs, hz, r⟩
  · obtain ⟨z, its, r, p⟩ := h.ok I.hok
    exact ⟨its, r, p.tup, z⟩
  · refine ⟨its.toList, r, ⟨o, I.kIn a o hk, hc, n, by simpa using hs⟩, ?_⟩
    have e := r.length
    simp only [Array.length_toList] at e
    omega
theorem Inv.list_inj (I : Inv X pins σ H s) (h : SqL X.K H a xs) (h' : SqL X.K H a ys) : xs = ys := by
  obtain ⟨its, r, ⟨o, n, e, _, _, d⟩, _⟩ := I.list h
  obtain ⟨its', r', ⟨o', n', e', _, _, d'⟩, _⟩ := I.list h'
  rw [e] at e'; cases e'
  rw [d] at d'
  injection d' with d1 _
  have : its = its' := by simpa using congrArg Array.toList d1
  subst this
  exact r.inj r'
theorem Inv.tuple_inj (I : Inv X pins σ H s) (h : SqT X.K H a xs) (h' : SqT X.K H a ys) : xs = ys := by
  obtain ⟨its, r, ⟨o, e, _, n, d⟩, _⟩ := I.tuple h
  obtain ⟨its', r', ⟨o', e', _, n', d'⟩, _⟩ := I.tuple h'
  rw [e] at e'; cases e'
  rw [d] at d'
  injection d' with d1 _
  have : its = its' := by simpa using congrArg Array.toList d1
  subst this
  exact r.inj r'
end

/-! ### another wish about exceptions -/
abbrev Cx.wish (X : Cx) (E : Value → Shared → Prop) : Cx := { X with xe := E }
/-- no exception leaves -/
abbrev Cx.nox (X : Cx) : Cx := X.wish fun _ _ => False
theorem Cx.Ok.wish {X : Cx} (ok : X.Ok) (E : Value → Shared → Prop) : (X.wish E).Ok :=
  ⟨ok.mod, ok.kind, ok.glob, ok.blt, ok.above, ok.inj, ok.has, ok.cab, ok.hd, ok.frames, ok.stk, ok.exf, ok.bs, ok.bsz, ok.noex, ok.exfs, ok.funs, ok.frf⟩
theorem Cx.Ok.unwish {X : Cx} {E : Value → Shared → Prop} (ok : (X.wish E).Ok) : X.Ok :=
  ⟨ok.mod, ok.kind, ok.glob, ok.blt, ok.above, ok.inj, ok.has, ok.cab, ok.hd, ok.frames, ok.stk, ok.exf, ok.bs, ok.bsz, ok.noex, ok.exfs, ok.funs, ok.frf⟩
section
variable {X : Cx} {pins : List (Addr × Obj)} {σ : St} {H : Hp} {s : Shared} {E : Value → Shared → Prop}
theorem Inv.wish (I : Inv X pins σ H s) (E : Value → Shared → Prop) : Inv (X.wish E) pins σ H s := ⟨I.ok.wish E, I.os, I.bare, I.base, I.loc, I.cell, I.free, I.freeC, I.pin, I.hok, I.len⟩
theorem Inv.unwish (I : Inv (X.wish E) pins σ H s) : Inv X pins σ H s := ⟨I.ok.unwish, I.os, I.bare, I.base, I.loc, I.cell, I.free, I.freeC, I.pin, I.hok, I.len⟩
theorem SP.unwish {D : Ends} {f : Flow} {s' : Shared} (h : SP (X.wish E) pins D f s') : SP X pins D f s' := by
  cases f with
  | next => obtain ⟨σ', H', I, q⟩ := h; exact ⟨σ', H', I.unwish, q⟩
  | brk => obtain ⟨σ', H', I, q⟩ := h; exact ⟨σ', H', I.unwish, q⟩
  | cont => obtain ⟨σ', H', I, q⟩ := h; exact ⟨σ', H', I.unwish, q⟩
  | ret u => obtain ⟨v, σ', H', I, r, q⟩ := h; exact ⟨v, σ', H', I.unwish, r, q⟩
theorem PSs.nox {st : List Stmt} {t : TS} (h : PSs X.nox st t) : PSs X st t := fun pins s σ H D I hw =>
  wpAny_mono (h pins s σ H D (I.wish _) hw) (fun _ _ q => q.unwish) fun _ _ z => False.elim z
end

/-! ### blocks and small statements -/
section
variable {X : Cx} {st : Stmt} {rest : List Stmt} {t u : TS} {e : Expr} {te : TE} {pos : Pos}
def tNext : TS := fun D σ H => D.nx σ H
def tSeq (t u : TS) : TS := fun D σ H => t { D with nx := u D } σ H
theorem pss_nil : PSs X [] tNext := fun _ _ σ H _ I h => wpAny_execs_nil ⟨σ, H, I, h⟩
theorem pss_cons (h1 : PS X st t) (h2 : PSs X rest u) : PSs X (st :: rest) (tSeq t u) := by
  intro pins s σ H D I h
  refine wpAny_execs_cons (thn (h1 pins s σ H { D with nx := u D } I h) fun f s1 q => ?_)
  cases f with
  | next =>
    obtain ⟨σ', H', I', q⟩ := q
    exact h2 pins s1 σ' H' D I' q
  | ret v => exact q
  | brk => exact q
  | cont => exact q
theorem pss_one (h1 : PS X st t) : PSs X [st] t := by
  intro pins s σ H D I h
  refine wpAny_execs_cons (thn (h1 pins s σ H D I h) fun f s1 q => ?_)
  cases f with
  | next => exact wpAny_execs_nil q
  | ret v => exact q
  | brk => exact q
  | cont => exact q
/-- in a def's body nothing is shown -/
theorem Inv.quiet {pins : List (Addr × Obj)} {σ : St} {H : Hp} {s : Shared} (I : Inv X pins σ H s) : interactive X.env = false := by simp [interactive, I.ok.kind]
/-- an expression whose value is dropped -/
def tDrop (te : TE) : TS := fun D σ H => te σ H fun _ H1 => D.nx σ H1
theorem ps_expr (he : PE X e te) (hs : swapsWith e none pos.line X.env = pure false := by rfl) : PS X (.Expr e pos) (tDrop te) := by
  intro pins s σ H D I h
  exact wpAny_Expr_any (thn (he pins s σ H _ I h) fun v s1 ⟨x, H1, I1, r1, q1⟩ => ⟨σ, H1, I1, q1⟩) I.quiet hs
def tRet (te : TE) : TS := fun D σ H => te σ H D.rt
theorem ps_ret (he : PE X e te) : PS X (.Return (some e) pos) (tRet te) := by
  intro pins s σ H D I h
  exact wpAny_Return_some (thn (he pins s σ H _ I h) fun v s1 ⟨x, H1, I1, r1, q1⟩ => ⟨x, σ, H1, I1, r1, q1⟩)
def tIfS (c : TT) (t u : TS) : TS := fun D σ H => c σ H fun b H1 => if b = true then t D σ H1 else u D σ H1
theorem ps_if {c : Expr} {a b : List Stmt} {tc : TT} (hc : PT X c tc) (ha : PSs X a t) (hb : PSs X b u) : PS X (.If c a b pos) (tIfS tc t u) := by
  intro pins s σ H D I h
  refine wpAny_If (thn (hc pins s σ H _ I h) fun d s1 ⟨H1, I1, q1⟩ => ?_)
  cases d with
  | true => exact ha pins s1 σ H1 D I1 q1
  | false => exact hb pins s1 σ H1 D I1 q1
end

/-! ### targets -/
abbrev TG := V → St → Hp → (St → Hp → Prop) → Prop
abbrev TGs := List V → St → Hp → (St → Hp → Prop) → Prop
def PG (X : Cx) (target : Expr) (t : TG) : Prop :=
  ∀ (pins : List (Addr × Obj)) (s : Shared) (σ : St) (H : Hp) (v : V) (u : Value) (Q : St → Hp → Prop), Inv X pins σ H s → RelV v u → t v σ H Q →
    wpAny (model X.prog X.w) X.A (assign target X.env u) (fun _ s' => ∃ σ' H', Inv X pins σ' H' s' ∧ Q σ' H') X.xe s
/-- several targets, one after another -/
def PGs (X : Cx) (ts : List Expr) (t : TGs) : Prop :=
  ∀ (pins : List (Addr × Obj)) (s : Shared) (σ : St) (H : Hp) (vs : List V) (us : List Value) (Q : St → Hp → Prop), Inv X pins σ H s → Vals vs us → t vs σ H Q →
    wpAny (model X.prog X.w) X.A (assignInOrder ((assignEach ts X.env).map (·.2)) us) (fun _ s' => ∃ σ' H', Inv X pins σ' H' s' ∧ Q σ' H') X.xe s
/-- o[i] = v, by values -/
abbrev TSet := V → V → V → Hp → (Hp → Prop) → Prop
def PSet (X : Cx) (t : TSet) : Prop :=
  ∀ (pins : List (Addr × Obj)) (s : Shared) (σ : St) (H : Hp) (o i v : V) (ov iv u : Value) (Q : Hp → Prop), Inv X pins σ H s → RelV o ov → RelV i iv → RelV v u → t o i v H Q →
    wpAny (model X.prog X.w) X.A (setItem ov iv u) (fun _ s' => ∃ H', Inv X pins σ H' s' ∧ Q H') X.xe s
section
variable {X : Cx} {pos : Pos}
def gName (i : Nat) : TG := fun v σ H Q => Q (σ.set i (some v)) H
theorem pg_name {i : Nat} {x : Str} (hN : X.N.Nodup) (hi : X.N[i]? = some x) (hx : Loc X.env.scope x) (hf : X.fn x = true ∨ X.env.scope.names.lookup x = some .local := by first | exact .inl rfl | exact .inr rfl | assumption) : PG X (.Name x pos) (gName i) := by
  intro pins s σ H v u Q I r h
  exact wpAny_assign_Name (store_ok I hN hi hx r (fun s' I' => ⟨_, H, I', h⟩) hf)
def gNil : TGs := fun vs σ H Q => vs = [] ∧ Q σ H
def gCons (t : TG) (u : TGs) : TGs := fun vs σ H Q => ∃ v r, vs = v :: r ∧ t v σ H fun σ' H' => u r σ' H' Q
theorem pgs_nil : PGs X [] gNil := by
  intro pins s σ H vs us Q I r h
  obtain ⟨e, h⟩ := h
  subst e
  cases r
  exact assignInOrder_nil ⟨σ, H, I, h⟩
theorem pgs_cons {e : Expr} {es : List Expr} {t : TG} {u : TGs} (h1 : PG X e t) (h2 : PGs X es u)
    (hs : (assignEach (e :: es) X.env).map (·.2) = assign e X.env :: (assignEach es X.env).map (·.2) := by rfl) : PGs X (e :: es) (gCons t u) := by
  intro pins s σ H vs us Q I r h
  obtain ⟨v, vr, e1, h⟩ := h
  subst e1
  cases r with
  | cons r rr =>
    rw [hs]
    refine assignInOrder_cons (thn (h1 pins s σ H _ _ _ I r h) fun _ s1 ⟨σ1, H1, I1, q1⟩ => ?_)
    exact h2 pins s1 σ1 H1 _ _ Q I1 rr q1
/-- (a, b, ..) = a tuple of that length -/
def gTup (K : PySem.W.Frag) (n : Nat) (t : TGs) : TG := fun v σ H Q => ∃ a xs, v = .ref a ∧ SqT K H a xs ∧ xs.length = n ∧ t xs σ H Q
theorem pg_tup {es : List Expr} {k : Nat} {t : TGs} {n : Nat} (hc : X.calm = true) (h : PGs X es t)
    (hn : (assignEach es X.env).length = n := by rfl) (hst : (assignEach es X.env).findIdx? (·.1) = none := by rfl) : PG X (.Tuple es k pos) (gTup X.K n t) := by
  intro pins s σ H v u Q I r hw
  obtain ⟨a, xs, e1, hq, hl, hw⟩ := hw
  subst e1
  cases r
  obtain ⟨its, rv, ht, hz⟩ := I.tuple hq
  refine assign_Tuple_tuple (I.ok.hd hc) ht (by simp [hn, ← hl, rv.length]) hst fun h' hx => ?_
  have I1 : Inv X pins σ H { s with heap := h' } := I.kept (t' := s.toks) fun b o e => hx b o (Nat.ne_of_lt (Heap.lt_size e)) e
  exact h pins _ σ H xs _ Q I1 (by simpa using rv) hw
/-- o[i] = .. -/
def gSub (to ti : TE) (t : TSet) : TG := fun v σ H Q => to σ H fun o H1 => ti σ H1 fun i H2 => t o i v H2 fun H3 => Q σ H3
theorem pg_sub {o i : Expr} {to ti : TE} {t : TSet} (ho : PE X o to) (hi : PE X i ti) (hs : PSet X t)
    (ha : ∀ v, assign (.Subscript o i pos) X.env v = (do
      let ov ← holding [v] (eval o X.env)
      let iv ← holding [v, ov] (eval i X.env)
      standAt pos
      holding [v, ov, iv] (setItem ov iv v)
      release [v, ov, iv] []) := by intro _; rfl) : PG X (.Subscript o i pos) (gSub to ti t) := by
  intro pins s σ H v u Q I r h
  rw [ha]
  refine wpAny_bind (wpAny_holding (thn (ho pins s σ H _ I h) fun ov s1 ⟨x, H1, I1, r1, q1⟩ => ?_))
  refine wpAny_bind (wpAny_holding (thn (hi pins s1 σ H1 _ I1 q1) fun iv s2 ⟨y, H2, I2, r2, q2⟩ => ?_))
  refine wpAny_bind (wpAny_standAt (wpAny_bind (wpAny_holding (thn (hs pins s2 σ H2 x y v ov iv u _ I2 r1 r2 r q2) fun _ s3 ⟨H3, I3, q3⟩ => ?_))))
  exact wpAny_release ⟨σ, H3, I3, q3⟩
/-- target = value -/
def tAsg (te : TE) (g : TG) : TS := fun D σ H => te σ H fun x H1 => g x σ H1 D.nx
theorem ps_asg {tg e : Expr} {te : TE} {g : TG} (he : PE X e te) (hg : PG X tg g) (hs : swapsWithSole [tg] e pos.line X.env = pure false := by rfl) (hw : swappedStores [tg] e X.env = pure none := by rfl)
    (h1 : (assignEach [tg] X.env).map (·.2) = [assign tg X.env] := by rfl) : PS X (.Assign [tg] e pos) (tAsg te g) := by
  intro pins s σ H D I h
  refine wpAny_Assign_stores (thn (he pins s σ H _ I h) fun v s1 ⟨x, H1, I1, r1, q1⟩ => ?_) hs hw
  rw [h1]
  exact thn (hg pins s1 σ H1 x v _ I1 r1 q1) fun _ s2 q => q
/-- name = value -/
theorem ps_set {i : Nat} {x : Str} {e : Expr} {te : TE} {pos' : Pos} (hN : X.N.Nodup) (hi : X.N[i]? = some x) (hx : Loc X.env.scope x) (he : PE X e te) (hs : swapsWith e (some (.Name x pos')) pos.line X.env = pure false := by rfl) (hf : X.fn x = true ∨ X.env.scope.names.lookup x = some .local := by first | exact .inl rfl | exact .inr rfl | assumption) :
    PS X (.Assign [.Name x pos'] e pos) (tAsg te (gName i)) := by
  intro pins s σ H D I h
  refine wpAny_Assign_Name (thn (he pins s σ H _ I h) fun v s1 ⟨y, H1, I1, r1, q1⟩ => ?_) hs
  exact store_ok I1 hN hi hx r1 (fun s2 I2 => ⟨_, H1, I2, q1⟩) hf
/-- a, b = x, y with plain local names: stored from the right; the pair itself is not tracked (the opening rows as in PyProof/Rows/TupAssign.lean:23) -/
def tPar (i j : Nat) (ta : TA) : TS := fun D σ H => ta σ H fun vs H1 => ∃ v w, vs = [v, w] ∧ D.nx ((σ.set i (some v)).set j (some w)) H1
theorem ps_par {i j : Nat} {x y : Str} {a b : Expr} {ta : TA} {px py pt : Pos} {kt k2 pt2} (hc : X.calm = true) (hN : X.N.Nodup) (hi : X.N[i]? = some x) (hj : X.N[j]? = some y) (hij : i ≠ j)
    (hx : X.env.scope.names.lookup x = some .local) (hy : X.env.scope.names.lookup y = some .local) (ha : PA X [a, b] ta)
    (hw : swappedStores [.Tuple [.Name x px, .Name y py] kt pt] (.Tuple [a, b] k2 pt2) X.env = pure (some [x, y]))
    (hs : swapsWithSole [.Tuple [.Name x px, .Name y py] kt pt] (.Tuple [a, b] k2 pt2) pos.line X.env = pure false := by rfl) :
    PS X (.Assign [.Tuple [.Name x px, .Name y py] kt pt] (.Tuple [a, b] k2 pt2) pos) (tPar i j ta) := by
  intro pins s σ H D I h
  rw [exec_Assign_arm]
  refine wpAny_bind (wpAny_standAt ?_)
  rw [hs]
  refine wpAny_bind (wpAny_pure ?_)
  rw [if_neg (by decide)]
  refine wpAny_bind (Tuple_ (thn (ha _ pins s σ H _ I h) fun us s1 ⟨vs, H1, I1, r1, q1⟩ => ?_))
  obtain ⟨v, w, e1, q1⟩ := q1
  subst e1
  obtain ⟨u1, u2, rfl, rv, rw'⟩ : ∃ u1 u2, us = [u1, u2] ∧ RelV v u1 ∧ RelV w u2 := by
    cases r1 with
    | cons p q =>
      cases q with
      | cons p' q' =>
        cases q'
        exact ⟨_, _, rfl, p, p'⟩
  refine wpAny_newObj_type ?_ (by show 2 ≤ sizeLine; decide)
  have I2 : Inv X pins σ H1 { s1 with heap := s1.heap.push { cls := .type "tuple", data := .seq [u1, u2].toArray } } := I1.kept (t' := s1.toks) fun b o e => Heap.get?_push_of_some _ e
  rw [hw]
  refine wpAny_bind (wpAny_pure ?_)
  show wpAny (model X.prog X.w) X.A (do rule "assign.swapped-stores"; let items ← unpackItems (.ref s1.heap.objs.size) 2 none; assignInOrder [fun v => bindName X.env y v, fun v => bindName X.env x v] items.reverse; pure Flow.next) _ _ _
  refine wpAny_bind (wpAny_rule (wpAny_bind (unpackItems_tuple (items := #[u1, u2]) (I.ok.hd hc) (IsTup.new s1.heap _) fun h' hx' => ?_)))
  have I3 := I2.kept (h' := h') (t' := s1.toks) fun b o e => hx' b o (Nat.ne_of_lt (Heap.lt_size e)) e
  show wpAny _ _ (assignInOrder [fun v => bindName X.env y v, fun v => bindName X.env x v] [u2, u1] >>= fun _ => pure Flow.next) _ _ _
  refine wpAny_bind (assignInOrder_cons (wpAny_bindName (store_ok I3 hN hj (.inl hy) rw' (fun s2 I4 => ?_) (.inr hy))))
  refine assignInOrder_cons (wpAny_bindName (store_ok I4 hN hi (.inl hx) rv (fun s3 I5 => assignInOrder_nil (wpAny_pure ?_)) (.inr hx)))
  rw [List.set_comm _ _ (Ne.symm hij)] at I5
  exact ⟨_, H1, I5, q1⟩
end

/-! ### while -/
section
variable {X : Cx} {pos : Pos}
/-- the invariant W with its measure -/
def tWhile (c : TT) (tb : TS) : TS := fun D σ H => ∃ W : Nat → St → Hp → Prop, (∃ m, W m σ H) ∧ ∀ m σ H, W m σ H →
  c σ H fun b H1 => if b = true then ∃ N : St → Hp → Prop, (∀ σ' H', N σ' H' → ∃ m', m' < m ∧ W m' σ' H') ∧ tb { D with nx := N, ct := N, bk := D.nx } σ H1 else D.nx σ H1
theorem ps_while {c : Expr} {body : List Stmt} {tc : TT} {tb : TS} (hp : PassesOwn (model X.prog X.w) X.A X.env X.xe) (hc : PT X c tc) (hb : PSs X body tb) : PS X (.While c body [] pos) (tWhile tc tb) := by
  intro pins s σ H D I h
  obtain ⟨W, ⟨m0, w0⟩, turn⟩ := h
  refine wpAny_While (codeAny_whileLoop (fun n s' => ∃ σ' H', Inv X pins σ' H' s' ∧ W n σ' H') ?_ m0 ⟨σ, H, I, w0⟩)
  rintro n s1 ⟨σ1, H1, I1, w1⟩
  refine wpAny_passesOwn hp (thn (hc pins s1 σ1 H1 _ I1 (turn n σ1 H1 w1)) fun b s2 ⟨H2, I2, q2⟩ => ?_)
  cases b with
  | true =>
    obtain ⟨N, hN, q2⟩ := q2
    rw [if_pos rfl]
    refine wpAny_passesOwn hp (thn (hb pins s2 σ1 H2 _ I2 q2) fun f s3 q3 => ?_)
    cases f with
    | next =>
      obtain ⟨σ3, H3, I3, n3⟩ := q3
      obtain ⟨m', hm, w3⟩ := hN σ3 H3 n3
      exact ⟨m', hm, σ3, H3, I3, w3⟩
    | cont =>
      obtain ⟨σ3, H3, I3, n3⟩ := q3
      obtain ⟨m', hm, w3⟩ := hN σ3 H3 n3
      exact ⟨m', hm, σ3, H3, I3, w3⟩
    | brk => exact q3
    | ret v => exact q3
  | false =>
    rw [if_neg Bool.false_ne_true]
    exact wpAny_execs_nil ⟨σ1, H2, I2, q2⟩
end

/-! ### what a loop or a comprehension walks -/
/-- at turn i: it yields x (the heap may grow), or it stops -/
structure It where
  go : Nat → Hp → Prop
  yld : Nat → Hp → V → Hp → Prop
  stop : Nat → Hp → Prop
/-- the iterator's own objects may turn: they are not the frame's, not pinned, younger than the entry (or a comprehension's own) -/
def FpOk (X : Cx) (pins : List (Addr × Obj)) (H : Hp) (b : Addr) : Prop :=
  H b = none ∧ b ≠ X.env.locals ∧ b ∉ X.fs ∧ (b ∈ X.ex ∨ X.s₀.heap.objs.size ≤ b) ∧ (∀ x c, X.env.cells.lookup x = some c → c ≠ b) ∧ ∀ p ∈ X.pn ++ pins, p.1 ≠ b
theorem Inv.fpOk {X : Cx} {pins : List (Addr × Obj)} {σ : St} {H H' : Hp} {s : Shared} {b : Addr} (I : Inv X pins σ H s) (hb : s.heap.objs.size ≤ b) (hn : H' b = none) : FpOk X pins H' b := by
  refine ⟨hn, Nat.ne_of_gt (Nat.lt_of_lt_of_le I.lt hb), I.nofs hb, .inr (Nat.le_trans I.sz hb), fun x c e z => ?_, fun p hp z => ?_⟩
  · obtain ⟨v, q⟩ := I.cell x c e
    exact absurd (Nat.lt_of_lt_of_le q.lt (by rw [z]; exact hb)) (Nat.lt_irrefl _)
  · exact absurd (Nat.lt_of_lt_of_le (Heap.lt_size (I.pin p hp).1) (by rw [z]; exact hb)) (Nat.lt_irrefl _)
structure Turn (P : Program) (w : World) (K : PySem.W.Frag) (tg : Expr) (J : It) (fp : List Addr) (it : Addr) (tn : Nat → Heap → Prop) : Prop where
  mem : it ∈ fp
  obj : ∀ i h, tn i h → ∀ b ∈ fp, ∃ o, h.get? b = some o ∧ ∀ v, o.data ≠ .cell v
  keep : ∀ i h h', tn i h → (∀ b ∈ fp, ∀ o, h.get? b = some o → h'.get? b = some o) → tn i h'
  item : ∀ (X : Cx), X.prog = P → X.w = w → X.K = K → X.calm = true → ∀ (i : Nat) (pins : List (Addr × Obj)) (s : Shared) (σ : St) (H : Hp) (E : Value → Shared → Prop), Inv X pins σ H s → (∀ b ∈ fp, FpOk X pins H b) → tn i s.heap → J.go i H →
    wpAny (model P w) X.A (pyNext (.ref it)) (fun r s1 => ∃ u, r = some u ∧
      wpAny (model P w) X.A (letOwnedTupleGo tg (.ref it) u) (fun _ s2 => ∃ x H', Inv X pins σ H' s2 ∧ RelV x u ∧ J.yld i H x H' ∧ tn (i + 1) s2.heap ∧ ∀ b ∈ fp, H' b = none) E s1) E s
  done : ∀ (X : Cx), X.prog = P → X.w = w → X.K = K → X.calm = true → ∀ (i : Nat) (pins : List (Addr × Obj)) (s : Shared) (σ : St) (H : Hp) (E : Value → Shared → Prop), Inv X pins σ H s → (∀ b ∈ fp, FpOk X pins H b) → tn i s.heap → J.stop i H →
    wpAny (model P w) X.A (pyNext (.ref it)) (fun r s1 => r = none ∧ Inv X pins σ H s1) E s
  self : ∀ (A : Around) (i : Nat) (s : Shared) (Q : Value → Shared → Prop) (E : Value → Shared → Prop), tn i s.heap → Q (.ref it) s → wpAny (model P w) A (pyIter (.ref it)) Q E s
abbrev TI := St → Hp → (It → Hp → Prop) → Prop
/-- an iterator has come -/
def PIE (X : Cx) (pins : List (Addr × Obj)) (σ : St) (tg : Expr) (R : It → Hp → Prop) (itv : Value) (s2 : Shared) : Prop :=
  ∃ (it : Addr) (fp : List Addr) (tn : Nat → Heap → Prop) (J : It) (H' : Hp), itv = .ref it ∧ Inv X pins σ H' s2 ∧ Turn X.prog X.w X.K tg J fp it tn ∧ tn 0 s2.heap ∧ (∀ b ∈ fp, FpOk X pins H' b) ∧ R J H'
def PI (X : Cx) (tg iter : Expr) (wi : TI) : Prop :=
  ∀ (pins : List (Addr × Obj)) (s : Shared) (σ : St) (H : Hp) (R : It → Hp → Prop), Inv X pins σ H s → wi σ H R →
    wpAny (model X.prog X.w) X.A (eval iter X.env) (fun v s1 => wpAny (model X.prog X.w) X.A (pyIter v) (PIE X pins σ tg R) X.xe s1) X.xe s

/-- the step ahead of the store is nothing for an iterator that keeps no tuple -/
theorem go_of {M : Model} {A : Around} {E : Value → Shared → Prop} {s : Shared} {tg : Expr} {it : Addr} {u : Value} {o : Obj} {n : String} {vs : Array Value} {Q : Unit → Shared → Prop} (ho : s.heap.get? it = some o) (hc : o.cls = .type n) (hd : o.data = .fields vs)
    (hn : ["enumerate", "zip", "dict_itemiterator", "dict_reverseitemiterator", "odict_iterator", "itertools.zip_longest", "itertools.pairwise"].contains n = false) (hQ : Q () s) : wpAny M A (letOwnedTupleGo tg (.ref it) u) Q E s := by
  unfold letOwnedTupleGo
  cases tg <;> first
    | exact wpAny_pure hQ
    | (cases u <;> first
        | exact wpAny_pure hQ
        | (refine wpAny_bind (wpAny_load ho ?_)
           rw [hc, hd]
           show wpAny M A (if (["enumerate", "zip", "dict_itemiterator", "dict_reverseitemiterator", "odict_iterator", "itertools.zip_longest", "itertools.pairwise"].contains n && vs[0]? == some (rawInt _)) = true then _ else _) Q E s
           rw [if_neg (by intro h; rw [hn, Bool.false_and] at h; cases h)]
           exact wpAny_pure hQ))

/-- the list at a, as it stands at each turn (a loop may append to it) -/
def Itl (K : PySem.W.Frag) (a : Addr) : It :=
  ⟨fun i H => ∃ xs x, SqL K H a xs ∧ xs[i]? = some x, fun i H x H' => H' = H ∧ ∀ xs, SqL K H a xs → xs[i]? = some x, fun i H => ∃ xs, SqL K H a xs ∧ xs.length ≤ i⟩
def Itt (K : PySem.W.Frag) (a : Addr) : It :=
  ⟨fun i H => ∃ xs x, SqT K H a xs ∧ xs[i]? = some x, fun i H x H' => H' = H ∧ ∀ xs, SqT K H a xs → xs[i]? = some x, fun i H => ∃ xs, SqT K H a xs ∧ xs.length ≤ i⟩
/-- lo, lo + 1, .. (n of them) -/
def Itr (lo : Int) (n : Nat) : It := ⟨fun i _ => i < n, fun i H x H' => H' = H ∧ x = .int (lo + i), fun i _ => n ≤ i⟩
theorem turn_list {P : Program} {w : World} {K : PySem.W.Frag} {tg : Expr} (a it : Addr) : Turn P w K tg (Itl K a) [it] it (fun i h => h.IsListIter it a i) where
  mem := by simp
  obj := fun i h st b hb => by
    have e : b = it := by simpa using hb
    subst e
    obtain ⟨o, e, c, d⟩ := st
    exact ⟨o, e, fun v z => by rw [d] at z; cases z⟩
  keep := fun i h h' st k => st.at fun o e => k it (by simp) o e
  item := by
    intro X hP hw hK hc i pins s σ H E I hf st hg
    subst hP hw hK
    obtain ⟨xs, x, hq, hx⟩ := hg
    obtain ⟨its, rv, p, hz⟩ := I.list hq
    obtain ⟨u, hu, ru⟩ := rv.get hx
    obtain ⟨f0, f1, f2, f3, f4, f5⟩ := hf it (by simp)
    refine wpAny_pyNext_list_item st p.isList (x := u) (by simpa using hu) fun h' st' sb => ?_
    have I1 : Inv X pins σ H { s with heap := h' } := I.turned (t' := s.toks) (fun b o hb e => (sb.2 b hb).trans e) f0 f1 f3 f4 f5
    obtain ⟨o, e, c, d⟩ := id st'
    exact ⟨u, rfl, go_of (s := { s with heap := h' }) e c d (by decide) ⟨x, H, I1, ru, ⟨rfl, fun ys hy => by rw [I.list_inj hy hq]; exact hx⟩, st', fun b hb => (hf b hb).1⟩⟩
  done := by
    intro X hP hw hK hc i pins s σ H E I hf st hg
    subst hP hw hK
    obtain ⟨xs, hq, hx⟩ := hg
    obtain ⟨its, rv, p, hz⟩ := I.list hq
    obtain ⟨f0, f1, f2, f3, f4, f5⟩ := hf it (by simp)
    have hl := rv.length
    exact wpAny_pyNext_list_end (I.ok.hd hc) st p.isList (by simp; omega) fun h' eb => ⟨rfl, I.turned (t' := s.toks) (fun b o hb e => eb b o hb e) f0 f1 f3 f4 f5⟩
  self := fun _ _ _ _ _ st h => wpAny_pyIter_listiter st h
theorem turn_tuple {P : Program} {w : World} {K : PySem.W.Frag} {tg : Expr} (a it : Addr) : Turn P w K tg (Itt K a) [it] it (fun i h => h.IsTupleIter it a i) where
  mem := by simp
  obj := fun i h st b hb => by
    have e : b = it := by simpa using hb
    subst e
    obtain ⟨o, e, c, d⟩ := st
    exact ⟨o, e, fun v z => by rw [d] at z; cases z⟩
  keep := fun i h h' st k => st.at fun o e => k it (by simp) o e
  item := by
    intro X hP hw hK hc i pins s σ H E I hf st hg
    subst hP hw hK
    obtain ⟨xs, x, hq, hx⟩ := hg
    obtain ⟨its, rv, p, hz⟩ := I.tuple hq
    obtain ⟨u, hu, ru⟩ := rv.get hx
    obtain ⟨f0, f1, f2, f3, f4, f5⟩ := hf it (by simp)
    refine wpAny_pyNext_tuple_item st (show s.heap.IsTuple a its.toArray from p) (x := u) (by simpa using hu) fun h' st' sb => ?_
    have I1 : Inv X pins σ H { s with heap := h' } := I.turned (t' := s.toks) (fun b o hb e => (sb.2 b hb).trans e) f0 f1 f3 f4 f5
    obtain ⟨o, e, c, d⟩ := id st'
    exact ⟨u, rfl, go_of (s := { s with heap := h' }) e c d (by decide) ⟨x, H, I1, ru, ⟨rfl, fun ys hy => by rw [I.tuple_inj hy hq]; exact hx⟩, st', fun b hb => (hf b hb).1⟩⟩
  done := by
    intro X hP hw hK hc i pins s σ H E I hf st hg
    subst hP hw hK
    obtain ⟨xs, hq, hx⟩ := hg
    obtain ⟨its, rv, p, hz⟩ := I.tuple hq
    obtain ⟨f0, f1, f2, f3, f4, f5⟩ := hf it (by simp)
    have hl := rv.length
    exact wpAny_pyNext_tuple_end (I.ok.hd hc) st (show s.heap.IsTuple a its.toArray from p) (by simp; omega) fun h' eb => ⟨rfl, I.turned (t' := s.toks) (fun b o hb e => eb b o hb e) f0 f1 f3 f4 f5⟩
  self := fun _ _ _ _ _ st h => wpAny_pyIter_tupleiter st h
theorem turn_range {P : Program} {w : World} {K : PySem.W.Frag} {tg : Expr} (it : Addr) (lo : Int) (n : Nat) : Turn P w K tg (Itr lo n) [it] it (fun i h => IsRangeIter h it (lo + (i : Nat) * 1) ((n : Int) - (i : Nat)) 1) where
  mem := by simp
  obj := fun i h st b hb => by
    have e : b = it := by simpa using hb
    subst e
    exact ⟨_, st, fun v z => by
      have z' : Data.fields _ = Data.cell v := z
      cases z'⟩
  keep := fun i h h' st k => k it (by simp) _ st
  item := by
    intro X hP hw hK hc i pins s σ H E I hf st hg
    subst hP hw hK
    obtain ⟨f0, f1, f2, f3, f4, f5⟩ := hf it (by simp)
    have W := Walks.range (prog := X.prog) (w := X.w) (I.ok.hd hc) it lo 1 n
    refine W.item i s _ _ hg st fun v h' tk hv st' kk => ?_
    obtain ⟨t, rfl⟩ := hv
    have I1 : Inv X pins σ H { s with heap := h', toks := tk } := I.turned (fun b o hb e => kk b o (by simpa using hb) e) f0 f1 f3 f4 f5
    refine ⟨_, rfl, go_of (s := { s with heap := h', toks := tk }) (n := "range_iterator") st' rfl rfl (by decide) ⟨.int (lo + i), H, I1, ⟨t, ?_⟩, ⟨rfl, rfl⟩, st', fun b hb => (hf b hb).1⟩⟩
    rw [Int.mul_one]
  done := by
    intro X hP hw hK hc i pins s σ H E I hf st hg
    subst hP hw hK
    obtain ⟨f0, f1, f2, f3, f4, f5⟩ := hf it (by simp)
    exact wpAny_pyNext_range_end (I.ok.hd hc) st (by have : n ≤ i := hg; omega) fun h' eb => ⟨rfl, I.turned (t' := s.toks) (fun b o hb e => eb b o hb e) f0 f1 f3 f4 f5⟩
  self := fun _ _ _ _ _ st h => wpAny_pyIter_rangeiter st h
end L2

namespace L2
open PySem PySem.Spec PyProof.Rows
section
variable {X : Cx} {tg : Expr}
def iList (K : PySem.W.Frag) (tl : TE) : TI := fun σ H R => tl σ H fun x H1 => ∃ a, x = .ref a ∧ (∃ xs, SqL K H1 a xs) ∧ R (Itl K a) H1
def iTup (K : PySem.W.Frag) (tl : TE) : TI := fun σ H R => tl σ H fun x H1 => ∃ a, x = .ref a ∧ (∃ xs, SqT K H1 a xs) ∧ R (Itt K a) H1
theorem pi_list {l : Expr} {tl : TE} (hl : PE X l tl) : PI X tg l (iList X.K tl) := by
  intro pins s σ H R I h
  refine thn (hl pins s σ H _ I h) fun v s1 ⟨x, H1, I1, r1, q1⟩ => ?_
  obtain ⟨a, e, ⟨xs, hq⟩, q⟩ := q1
  subst e
  cases r1
  obtain ⟨its, rv, p, hz⟩ := I1.list hq
  refine wpAny_pyIter_list p.isList ?_
  refine ⟨s1.heap.objs.size, [s1.heap.objs.size], _, _, H1, rfl, I1.kept (t' := s1.toks) fun b o e => Heap.get?_push_of_some _ e, turn_list a _, ⟨_, Heap.get?_push_size _ rfl, rfl, rfl⟩, fun b hb => ?_, q⟩
  have e : b = s1.heap.objs.size := by simpa using hb
  subst e
  exact I1.fpOk (Nat.le_refl _) (I1.hok.fresh (Nat.le_refl _))
theorem pi_tup {l : Expr} {tl : TE} (hl : PE X l tl) : PI X tg l (iTup X.K tl) := by
  intro pins s σ H R I h
  refine thn (hl pins s σ H _ I h) fun v s1 ⟨x, H1, I1, r1, q1⟩ => ?_
  obtain ⟨a, e, ⟨xs, hq⟩, q⟩ := q1
  subst e
  cases r1
  obtain ⟨its, rv, p, hz⟩ := I1.tuple hq
  refine wpAny_pyIter_tuple (show s1.heap.IsTuple a its.toArray from p) ?_
  refine ⟨s1.heap.objs.size, [s1.heap.objs.size], _, _, H1, rfl, I1.kept (t' := s1.toks) fun b o e => Heap.get?_push_of_some _ e, turn_tuple a _, ⟨_, Heap.get?_push_size _ rfl, rfl, rfl⟩, fun b hb => ?_, q⟩
  have e : b = s1.heap.objs.size := by simpa using hb
  subst e
  exact I1.fpOk (Nat.le_refl _) (I1.hok.fresh (Nat.le_refl _))
/-- a range object just made, walked -/
theorem range_it {pins : List (Addr × Obj)} {σ : St} {H : Hp} {s : Shared} {R : It → Hp → Prop} {E : Value → Shared → Prop} {lo hi : Int} {t u v : Tok} {tk : Nat} (I : Inv X pins σ H s) (h1 : -(2 ^ 62) ≤ lo) (h2 : lo < 2 ^ 62) (h3 : -(2 ^ 62) ≤ hi) (h4 : hi < 2 ^ 62)
    (q : R (Itr lo (hi - lo).toNat) H) : wpAny (model X.prog X.w) X.A (pyIter (.ref s.heap.objs.size)) (PIE X pins σ tg R) E { s with heap := s.heap.push { cls := .type "range", data := .fields #[.int lo t, .int hi u, .int 1 v] }, toks := tk } := by
  refine wpAny_pyIter_range (IsRange.new ..) (small_one h1 h2 h3 h4) ?_
  have I1 : Inv X pins σ H { s with heap := s.heap.push { cls := .type "range", data := .fields #[.int lo t, .int hi u, .int 1 v] }, toks := tk } := I.kept fun b o e => Heap.get?_push_of_some _ e
  refine ⟨(s.heap.push { cls := .type "range", data := .fields #[.int lo t, .int hi u, .int 1 v] }).objs.size, [(s.heap.push { cls := .type "range", data := .fields #[.int lo t, .int hi u, .int 1 v] }).objs.size], _, _, H, rfl,
    I1.kept (t' := tk) fun b o e => Heap.get?_push_of_some _ e, turn_range _ lo (hi - lo).toNat, ?_, fun b hb => ?_, q⟩
  · have e1 : lo + ((0 : Nat) : Int) * 1 = lo := by simp
    have e2 : (((hi - lo).toNat : Nat) : Int) - ((0 : Nat) : Int) = Builtin.Range.rangeSize lo hi 1 := by rw [rangeSize_one]; split <;> omega
    show IsRangeIter _ _ (lo + ((0 : Nat) : Int) * 1) ((((hi - lo).toNat : Nat) : Int) - ((0 : Nat) : Int)) 1
    rw [e1, e2]
    exact Heap.get?_push_size _ rfl
  · have e : b = (s.heap.push { cls := .type "range", data := .fields #[.int lo t, .int hi u, .int 1 v] }).objs.size := by simpa using hb
    subst e
    exact I1.fpOk (Nat.le_refl _) (I1.hok.fresh (Nat.le_refl _))
def iRng1 (ta : TA) : TI := fun σ H R => ta σ H fun vs H1 => ∃ j : Int, vs = [.int j] ∧ -(2 ^ 62) ≤ j ∧ j < 2 ^ 62 ∧ R (Itr 0 j.toNat) H1
theorem pi_range1 {a : Expr} {ta : TA} {p pos : Pos} (hg : Gl X "range") (hm : X.mg "range" = none) (ha : PA X [a] ta) (hs : starEach [a] X.env = [(false, eval a X.env)] := by rfl) : PI X tg (.Call (.Name "range" p) [a] [] pos) (iRng1 ta) := by
  intro pins s σ H R I h
  refine Call_ (ld_blt I hg hm boot_range (PyProof.Rows.callWith_type1 (thn (ha pos pins s σ H _ I h) fun us s1 ⟨vs, H1, I1, r1, q1⟩ => ?_) hs rfl))
  obtain ⟨j, e, q1, q2, q⟩ := q1
  subst e
  cases r1 with
  | cons r rr =>
    cases rr
    obtain ⟨t, rfl⟩ := r
    exact call_range_1 (range_it I1 (by omega) (by omega) q1 q2 (by simpa using q))
/-! ### for -/
/-- W: the invariant by the turn and a measure; N: what the body is to reach -/
def tFor (wi : TI) (g : TG) (tb : TS) : TS := fun D σ H => wi σ H fun J H1 => ∃ W : Nat → Nat → St → Hp → Prop, (∃ m, W 0 m σ H1) ∧ ∀ i m σ H, W i m σ H →
  (J.stop i H ∧ D.nx σ H) ∨ (J.go i H ∧ ∃ N : St → Hp → Prop, (∀ σ' H', N σ' H' → ∃ m', m' < m ∧ W (i + 1) m' σ' H') ∧ ∀ x H', J.yld i H x H' → g x σ H' fun σ2 H2 => tb { D with nx := N, ct := N, bk := D.nx } σ2 H2)
/-- the records at fp as they stand -/
def pinsAt (fp : List Addr) (h : Heap) : List (Addr × Obj) := fp.filterMap fun b => (h.get? b).map fun o => (b, o)
theorem mem_pinsAt {fp : List Addr} {h : Heap} {b : Addr} {o : Obj} (hb : b ∈ fp) (e : h.get? b = some o) : (b, o) ∈ pinsAt fp h := List.mem_filterMap.mpr ⟨b, hb, by rw [e]; rfl⟩
theorem of_pinsAt {fp : List Addr} {h : Heap} {p : Addr × Obj} (hp : p ∈ pinsAt fp h) : p.1 ∈ fp ∧ h.get? p.1 = some p.2 := by
  obtain ⟨b, hb, e⟩ := List.mem_filterMap.mp hp
  cases q : h.get? b with
  | none => rw [q] at e; cases e
  | some o =>
    rw [q] at e
    have e' : (b, o) = p := Option.some.inj e
    subst e'
    exact ⟨hb, q⟩
theorem Inv.pinned {pins : List (Addr × Obj)} {σ : St} {H : Hp} {s : Shared} {fp : List Addr} (I : Inv X pins σ H s) (hf : ∀ b ∈ fp, FpOk X pins H b) (ho : ∀ b ∈ fp, ∃ o, s.heap.get? b = some o ∧ ∀ v, o.data ≠ .cell v) : Inv X (pins ++ pinsAt fp s.heap) σ H s :=
  I.pins_of fun p hp => (List.mem_append.mp hp).elim (fun z => I.pin p (List.mem_append_right _ z)) fun z => by
    obtain ⟨hb, e⟩ := of_pinsAt z
    obtain ⟨f0, f1, f2, _⟩ := hf p.1 hb
    obtain ⟨o, e', d⟩ := ho p.1 hb
    rw [e] at e'; cases e'
    exact ⟨e, f0, f1, f2, d⟩
theorem Inv.unpinned {pins pl : List (Addr × Obj)} {σ : St} {H : Hp} {s : Shared} (I : Inv X (pins ++ pl) σ H s) : Inv X pins σ H s := I.pins_of fun p hp => I.pin p (List.mem_append_right _ (List.mem_append_left _ hp))
theorem ps_for {iter : Expr} {body : List Stmt} {wi : TI} {g : TG} {tb : TS} {pos : Pos} (hp : PassesOwn (model X.prog X.w) X.A X.env X.xe) (hc : X.calm = true) (hi : PI X tg iter wi) (hg : PG X tg g) (hb : PSs X body tb)
    (hs : ∀ x, foldedSetIterable iter X.env x = pure x := by intro _; rfl) : PS X (.For tg iter body [] pos) (tFor wi g tb) := by
  intro pins s σ H D I h
  refine wpAny_For (thn (hi pins s σ H _ I h) fun v s1 h1 => thn h1 fun itv s2 h2 => ?_) hs
  obtain ⟨it, fp, tn, J, H2, e, I2, T, st2, f2, W, ⟨m0, w0⟩, turn⟩ := h2
  subst e
  -- what stays true of the iterator's objects through the loop
  have stat : ∀ {H' : Hp}, (∀ b ∈ fp, H' b = none) → ∀ b ∈ fp, FpOk X pins H' b := fun hn b hb => ⟨hn b hb, (f2 b hb).2⟩
  refine codeAny_forLoop_any (fun n s' => ∃ i σ' H', Inv X pins σ' H' s' ∧ tn i s'.heap ∧ (∀ b ∈ fp, H' b = none) ∧ W i n σ' H') ?_ m0 ⟨0, σ, H2, I2, st2, fun b hb => (f2 b hb).1, w0⟩
  rintro n s3 ⟨i, σ3, H3, I3, st3, fr3, w3⟩
  rcases turn i n σ3 H3 w3 with ⟨stop, qn⟩ | ⟨go, N, hN, step⟩
  · refine wpAny_passesOwn hp (thn (T.done X rfl rfl rfl hc i pins s3 σ3 H3 X.xe I3 (stat fr3) st3 stop) fun r s4 ⟨hr, I4⟩ => ?_)
    subst hr
    exact wpAny_execs_nil ⟨σ3, H3, I4, qn⟩
  · refine wpAny_passesOwn hp (thn (T.item X rfl rfl rfl hc i pins s3 σ3 H3 X.xe I3 (stat fr3) st3 go) fun r s4 ⟨u, hr, h4⟩ => ?_)
    subst hr
    refine wpAny_passesOwn hp (thn h4 fun _ s5 ⟨x, H5, I5, r5, y5, st5, fr5⟩ => ?_)
    have I5' := I5.pinned (stat fr5) (T.obj _ _ st5)
    refine wpAny_passesOwn hp (thn (hg _ s5 σ3 H5 x u _ I5' r5 (step x H5 y5)) fun _ s6 ⟨σ6, H6, I6, q6⟩ => ?_)
    refine wpAny_passesOwn hp (thn (hb _ s6 σ6 H6 _ I6 q6) fun f s7 q7 => ?_)
    have again : ∀ {σ7 : St} {H7 : Hp}, Inv X (pins ++ pinsAt fp s5.heap) σ7 H7 s7 → N σ7 H7 → ∃ m, m < n ∧ ∃ i σ' H', Inv X pins σ' H' s7 ∧ tn i s7.heap ∧ (∀ b ∈ fp, H' b = none) ∧ W i m σ' H' := fun {σ7 H7} I7 n7 => by
      obtain ⟨m', hm, w7⟩ := hN σ7 H7 n7
      refine ⟨m', hm, i + 1, σ7, H7, I7.unpinned, T.keep _ _ _ st5 fun b hb o e => (I7.pin (b, o) (List.mem_append_right _ (List.mem_append_right _ (mem_pinsAt hb e)))).1, fun b hb => ?_, w7⟩
      obtain ⟨o, e, d⟩ := T.obj _ _ st5 b hb
      exact (I7.pin (b, o) (List.mem_append_right _ (List.mem_append_right _ (mem_pinsAt hb e)))).2.1
    cases f with
    | next => obtain ⟨σ7, H7, I7, n7⟩ := q7; exact again I7 n7
    | cont => obtain ⟨σ7, H7, I7, n7⟩ := q7; exact again I7 n7
    | brk => obtain ⟨σ7, H7, I7, q7⟩ := q7; exact ⟨σ7, H7, I7.unpinned, q7⟩
    | ret v => obtain ⟨x7, σ7, H7, I7, r7, q7⟩ := q7; exact ⟨x7, σ7, H7, I7.unpinned, r7, q7⟩
end

/-! ### the forms one uses -/
/-- over a list that the body leaves as it is -/
theorem for_list {K : PySem.W.Frag} {a : Addr} {xs : List V} {g : TG} {tb : TS} {D : Ends} {σ : St} {H : Hp} (Pv : Nat → St → Hp → Prop) (h0 : Pv 0 σ H) (hl : ∀ i σ H, i ≤ xs.length → Pv i σ H → SqL K H a xs)
    (hs : ∀ i x σ H, xs[i]? = some x → Pv i σ H → g x σ H fun σ2 H2 => tb { D with nx := Pv (i + 1), ct := Pv (i + 1), bk := D.nx } σ2 H2) (hd : ∀ σ H, Pv xs.length σ H → D.nx σ H) :
    ∃ W : Nat → Nat → St → Hp → Prop, (∃ m, W 0 m σ H) ∧ ∀ i m σ H, W i m σ H →
      ((Itl K a).stop i H ∧ D.nx σ H) ∨ ((Itl K a).go i H ∧ ∃ N : St → Hp → Prop, (∀ σ' H', N σ' H' → ∃ m', m' < m ∧ W (i + 1) m' σ' H') ∧ ∀ x H', (Itl K a).yld i H x H' → g x σ H' fun σ2 H2 => tb { D with nx := N, ct := N, bk := D.nx } σ2 H2) := by
  refine ⟨fun i m σ H => m = xs.length - i ∧ i ≤ xs.length ∧ Pv i σ H, ⟨xs.length, by simp, Nat.zero_le _, h0⟩, ?_⟩
  rintro i m σ H ⟨rfl, hi, p⟩
  have q := hl i σ H hi p
  by_cases hlt : i < xs.length
  · refine .inr ⟨⟨xs, xs[i], q, by simp [hlt]⟩, Pv (i + 1), fun σ' H' p' => ⟨xs.length - (i + 1), by omega, rfl, hlt, p'⟩, fun x H' y => ?_⟩
    obtain ⟨e, y⟩ := y
    subst e
    exact hs i x σ _ (y xs q) p
  · have e : i = xs.length := by omega
    subst e
    exact .inl ⟨⟨xs, q, Nat.le_refl _⟩, hd σ H p⟩
theorem for_tup {K : PySem.W.Frag} {a : Addr} {xs : List V} {g : TG} {tb : TS} {D : Ends} {σ : St} {H : Hp} (Pv : Nat → St → Hp → Prop) (h0 : Pv 0 σ H) (hl : ∀ i σ H, i ≤ xs.length → Pv i σ H → SqT K H a xs)
    (hs : ∀ i x σ H, xs[i]? = some x → Pv i σ H → g x σ H fun σ2 H2 => tb { D with nx := Pv (i + 1), ct := Pv (i + 1), bk := D.nx } σ2 H2) (hd : ∀ σ H, Pv xs.length σ H → D.nx σ H) :
    ∃ W : Nat → Nat → St → Hp → Prop, (∃ m, W 0 m σ H) ∧ ∀ i m σ H, W i m σ H →
      ((Itt K a).stop i H ∧ D.nx σ H) ∨ ((Itt K a).go i H ∧ ∃ N : St → Hp → Prop, (∀ σ' H', N σ' H' → ∃ m', m' < m ∧ W (i + 1) m' σ' H') ∧ ∀ x H', (Itt K a).yld i H x H' → g x σ H' fun σ2 H2 => tb { D with nx := N, ct := N, bk := D.nx } σ2 H2) := by
  refine ⟨fun i m σ H => m = xs.length - i ∧ i ≤ xs.length ∧ Pv i σ H, ⟨xs.length, by simp, Nat.zero_le _, h0⟩, ?_⟩
  rintro i m σ H ⟨rfl, hi, p⟩
  have q := hl i σ H hi p
  by_cases hlt : i < xs.length
  · refine .inr ⟨⟨xs, xs[i], q, by simp [hlt]⟩, Pv (i + 1), fun σ' H' p' => ⟨xs.length - (i + 1), by omega, rfl, hlt, p'⟩, fun x H' y => ?_⟩
    obtain ⟨e, y⟩ := y
    subst e
    exact hs i x σ _ (y xs q) p
  · have e : i = xs.length := by omega
    subst e
    exact .inl ⟨⟨xs, q, Nat.le_refl _⟩, hd σ H p⟩
theorem for_range {lo : Int} {n : Nat} {g : TG} {tb : TS} {D : Ends} {σ : St} {H : Hp} (Pv : Nat → St → Hp → Prop) (h0 : Pv 0 σ H)
    (hs : ∀ i σ H, i < n → Pv i σ H → g (.int (lo + i)) σ H fun σ2 H2 => tb { D with nx := Pv (i + 1), ct := Pv (i + 1), bk := D.nx } σ2 H2) (hd : ∀ σ H, Pv n σ H → D.nx σ H) :
    ∃ W : Nat → Nat → St → Hp → Prop, (∃ m, W 0 m σ H) ∧ ∀ i m σ H, W i m σ H →
      ((Itr lo n).stop i H ∧ D.nx σ H) ∨ ((Itr lo n).go i H ∧ ∃ N : St → Hp → Prop, (∀ σ' H', N σ' H' → ∃ m', m' < m ∧ W (i + 1) m' σ' H') ∧ ∀ x H', (Itr lo n).yld i H x H' → g x σ H' fun σ2 H2 => tb { D with nx := N, ct := N, bk := D.nx } σ2 H2) := by
  refine ⟨fun i m σ H => m = n - i ∧ i ≤ n ∧ Pv i σ H, ⟨n, by simp, Nat.zero_le _, h0⟩, ?_⟩
  rintro i m σ H ⟨rfl, hi, p⟩
  by_cases hlt : i < n
  · refine .inr ⟨hlt, Pv (i + 1), fun σ' H' p' => ⟨n - (i + 1), by omega, rfl, hlt, p'⟩, fun x H' y => ?_⟩
    obtain ⟨e, y⟩ := y
    subst e y
    exact hs i σ _ hlt p
  · have e : i = n := by omega
    subst e
    exact .inl ⟨Nat.le_refl _, hd σ H p⟩
/-- while, by a word and a measure of the state -/
theorem while_by {c : TT} {tb : TS} {D : Ends} {σ : St} {H : Hp} (Pv : St → Hp → Prop) (μ : St → Hp → Nat) (h0 : Pv σ H)
    (hs : ∀ σ H, Pv σ H → c σ H fun b H1 => if b = true then tb { D with nx := fun σ' H' => Pv σ' H' ∧ μ σ' H' < μ σ H, ct := fun σ' H' => Pv σ' H' ∧ μ σ' H' < μ σ H, bk := D.nx } σ H1 else D.nx σ H1)
    (mono : ∀ σ H Q Q', (∀ b H1, Q b H1 → Q' b H1) → c σ H Q → c σ H Q') : tWhile c tb D σ H := by
  refine ⟨fun m σ H => m = μ σ H ∧ Pv σ H, ⟨_, rfl, h0⟩, ?_⟩
  rintro m σ H ⟨rfl, p⟩
  refine mono σ H _ _ (fun b H1 q => ?_) (hs σ H p)
  cases b with
  | true => exact ⟨_, fun σ' H' ⟨p', l⟩ => ⟨_, l, rfl, p'⟩, q⟩
  | false => exact q
end L2

namespace L2
open PySem PySem.Spec PyProof.Rows

abbrev R2 := V → V → Hp → VK → Prop
/-- a two-place operation on values: f is binaryOp op, inplaceOp op or compareOp op -/
def OpR (X : Cx) (f : Value → Value → Sem Value) (r : R2) : Prop :=
  ∀ (pins : List (Addr × Obj)) (s : Shared) (σ : St) (H : Hp) (x y : V) (v u : Value) (Q : VK), Inv X pins σ H s → RelV x v → RelV y u → r x y H Q →
    wpAny (model X.prog X.w) X.A (f v u) (EP X pins σ Q) X.xe s
/-- a one-place operation -/
def UnR (X : Cx) (f : Value → Sem Value) (r : V → Hp → VK → Prop) : Prop :=
  ∀ (pins : List (Addr × Obj)) (s : Shared) (σ : St) (H : Hp) (x : V) (v : Value) (Q : VK), Inv X pins σ H s → RelV x v → r x H Q →
    wpAny (model X.prog X.w) X.A (f v) (EP X pins σ Q) X.xe s
/-- a call of a value that is known (a builtin, a type) with values -/
def CallR (X : Cx) (f : Value) (r : List V → Hp → VK → Prop) : Prop :=
  ∀ (pins : List (Addr × Obj)) (s : Shared) (σ : St) (H : Hp) (xs : List V) (us : List Value) (Q : VK), Inv X pins σ H s → Vals xs us → r xs H Q →
    wpAny (model X.prog X.w) X.A (call f us) (EP X pins σ Q) X.xe s
def tOp (r : R2) (ta tb : TE) : TE := fun σ H Q => ta σ H fun x H1 => tb σ H1 fun y H2 => r x y H2 Q
def tUn (r : V → Hp → VK → Prop) (ta : TE) : TE := fun σ H Q => ta σ H fun x H1 => r x H1 Q
/-- ints in, under C, and a value out -/
def rI (C : Int → Int → Prop) (g : Int → Int → V) : R2 := fun x y H Q => ∃ i j, x = .int i ∧ y = .int j ∧ C i j ∧ Q (g i j) H
def rI0 (g : Int → Int → V) : R2 := fun x y H Q => ∃ i j, x = .int i ∧ y = .int j ∧ Q (g i j) H
def rU (g : Int → V) : V → Hp → VK → Prop := fun x H Q => ∃ i, x = .int i ∧ Q (g i) H

section
variable {X : Cx} {a b c : Expr} {ta tb tc : TE} {pos : Pos}

theorem binT (ha : PE X a ta) (hb : PE X b tb) {pins : List (Addr × Obj)} {s : Shared} {σ : St} {H : Hp} {R : V → V → Hp → Prop} (I : Inv X pins σ H s)
    (h : ta σ H fun x H1 => tb σ H1 fun y H2 => R x y H2) {Q : Value → Shared → Prop} {f : Value → Value → Sem Value}
    (hf : ∀ v u s2 x y H2, Inv X pins σ H2 s2 → RelV x v → RelV y u → R x y H2 → wpAny (model X.prog X.w) X.A (f v u) Q X.xe s2) :
    wpAny (model X.prog X.w) X.A (eval a X.env) (fun v s₁ => wpAny (model X.prog X.w) X.A (eval b X.env) (fun u s₂ => wpAny (model X.prog X.w) X.A (f v u) Q X.xe s₂) X.xe s₁) X.xe s := by
  refine thn (ha pins s σ H _ I h) fun v s1 ⟨x, H1, I1, r1, q1⟩ => ?_
  refine thn (hb pins s1 σ H1 _ I1 q1) fun u s2 ⟨y, H2, I2, r2, q2⟩ => ?_
  exact hf v u s2 x y H2 I2 r1 r2 q2

theorem pe_op {op : Operator} {r : R2} (ho : OpR X (binaryOp op) r) (ha : PE X a ta) (hb : PE X b tb) : PE X (.BinOp a op b pos) (tOp r ta tb) := by
  intro pins s σ H Q I h
  exact wpAny_BinOp (binT ha hb I h fun v u s2 x y H2 I2 rx ry q => ho pins s2 σ H2 x y v u Q I2 rx ry q)
theorem pe_un {op : UnaryOp} {r : V → Hp → VK → Prop} (ho : UnR X (unaryOp op) r) (ha : PE X a ta) : PE X (.UnaryOp op a pos) (tUn r ta) := by
  intro pins s σ H Q I h
  exact UnaryOp_ (thn (ha pins s σ H _ I h) fun v s1 ⟨x, H1, I1, r1, q1⟩ => ho pins s1 σ H1 x v Q I1 r1 q1)
/-! ### ints -/
theorem opI {f : Value → Value → Sem Value} {C : Int → Int → Prop} {g : Int → Int → Int}
    (rule : ∀ (i j : Int) (t u : Tok) (s : Shared) (Q : Value → Shared → Prop) (E : Value → Shared → Prop), C i j → Q (.int (g i j) s.toks) { s with toks := s.toks + 1 } → wpAny (model X.prog X.w) X.A (f (.int i t) (.int j u)) Q E s) :
    OpR X f (rI C fun i j => .int (g i j)) := by
  intro pins s σ H x y v u Q I rx ry h
  obtain ⟨i, j, rfl, rfl, hc, q⟩ := h
  obtain ⟨t, rfl⟩ := rx
  obtain ⟨t', rfl⟩ := ry
  exact rule i j t t' s _ _ hc ⟨.int (g i j), H, I.tok _, ⟨_, rfl⟩, q⟩
theorem opI0 {f : Value → Value → Sem Value} {g : Int → Int → Int}
    (rule : ∀ (i j : Int) (t u : Tok) (s : Shared) (Q : Value → Shared → Prop) (E : Value → Shared → Prop), Q (.int (g i j) s.toks) { s with toks := s.toks + 1 } → wpAny (model X.prog X.w) X.A (f (.int i t) (.int j u)) Q E s) :
    OpR X f (rI0 fun i j => .int (g i j)) := by
  intro pins s σ H x y v u Q I rx ry h
  obtain ⟨i, j, rfl, rfl, q⟩ := h
  obtain ⟨t, rfl⟩ := rx
  obtain ⟨t', rfl⟩ := ry
  exact rule i j t t' s _ _ ⟨.int (g i j), H, I.tok _, ⟨_, rfl⟩, q⟩
theorem opB0 {f : Value → Value → Sem Value} {g : Int → Int → Bool}
    (rule : ∀ (i j : Int) (t u : Tok) (s : Shared) (Q : Value → Shared → Prop) (E : Value → Shared → Prop), Q (.bool (g i j)) s → wpAny (model X.prog X.w) X.A (f (.int i t) (.int j u)) Q E s) :
    OpR X f (rI0 fun i j => .bl (g i j)) := by
  intro pins s σ H x y v u Q I rx ry h
  obtain ⟨i, j, rfl, rfl, q⟩ := h
  obtain ⟨t, rfl⟩ := rx
  obtain ⟨t', rfl⟩ := ry
  exact rule i j t t' s _ _ ⟨.bl (g i j), H, I, rfl, q⟩

def CDiv (i j : Int) : Prop := 0 < j ∧ j < 1073741824
def CPow (i j : Int) : Prop := 0 ≤ j ∧ j ≤ 1000000 ∧ i.natAbs < 2 ^ 64
def CMul (i j : Int) : Prop := (-(2 ^ 64) < i ∧ i < 2 ^ 64) ∨ (-(2 ^ 64) < j ∧ j < 2 ^ 64)
theorem CMul.ok {i j : Int} (h : CMul i j) : IntMulOk i j := by
  rcases h with ⟨h1, h2⟩ | ⟨h1, h2⟩
  · exact .of_left (intBits_le_64 h1 h2)
  · exact .of_right (intBits_le_64 h1 h2)
theorem op_add : OpR X (binaryOp .Add) (rI0 fun i j => .int (i + j)) := opI0 fun _ _ _ _ _ _ _ q => add_int q
theorem op_sub : OpR X (binaryOp .Sub) (rI0 fun i j => .int (i - j)) := opI0 fun _ _ _ _ _ _ _ q => sub_int q
theorem op_mul : OpR X (binaryOp .Mult) (rI CMul fun i j => .int (i * j)) := opI fun _ _ _ _ _ _ _ hc q => mul_int q hc.ok
/-- // by a positive divisor -/
theorem op_fdiv : OpR X (binaryOp .FloorDiv) (rI CDiv fun i j => .int (i / j)) := opI fun i j _ _ _ _ _ hc q => by
  have h1 : (0 : Int) < j := hc.1
  have h2 : j < 1073741824 := hc.2
  exact floordiv_int (by omega) (by rw [Int.fdiv_eq_ediv_of_nonneg i (by omega)]; exact q) (.inl (PyProof.noPylong_small (by omega)))
/-- % by a positive divisor of any size -/
theorem op_mod : OpR X (binaryOp .Mod) (rI (fun _ j => 0 < j) fun i j => .int (i % j)) := opI fun i j _ _ _ _ _ hc q => by
  have h1 : (0 : Int) < j := hc
  exact mod_int' (by omega) (by rw [Int.fmod_eq_emod_of_nonneg i (by omega)]; exact q)
theorem op_pow : OpR X (binaryOp .Pow) (rI CPow fun i j => .int (i ^ j.toNat)) := opI fun _ _ _ _ _ _ _ hc q => pow_int_small hc.1 hc.2.1 hc.2.2 q
theorem unI {f : Value → Sem Value} {g : Int → Int}
    (rule : ∀ (i : Int) (t : Tok) (s : Shared) (Q : Value → Shared → Prop) (E : Value → Shared → Prop), Q (.int (g i) s.toks) { s with toks := s.toks + 1 } → wpAny (model X.prog X.w) X.A (f (.int i t)) Q E s) :
    UnR X f (rU fun i => .int (g i)) := by
  intro pins s σ H x v Q I rx h
  obtain ⟨i, rfl, q⟩ := h
  obtain ⟨t, rfl⟩ := rx
  exact rule i t s _ _ ⟨.int (g i), H, I.tok _, ⟨_, rfl⟩, q⟩
theorem un_neg : UnR X (unaryOp .USub) (rU fun i => .int (-i)) := unI fun _ _ _ _ _ q => neg_int q
/-! ### bools among ints: n += (a < b) -/
end

/-! ### comparisons -/
/-- the scalars that == tells apart as data does -/
def scal : V → V → Bool
  | .non, .non => true | .non, .int _ => true | .int _, .non => true | .non, .bl _ => true | .bl _, .non => true | .non, .str _ => true | .str _, .non => true
  | .int _, .int _ => true | .bl _, .bl _ => true | .str _, .str _ => true | .byt _, .byt _ => true
  | .int _, .str _ => true | .str _, .int _ => true | .bl _, .str _ => true | .str _, .bl _ => true
  | _, _ => false
def rEq : R2 := fun x y H Q => scal x y = true ∧ Q (.bl (decide (x = y))) H
def rNe : R2 := fun x y H Q => scal x y = true ∧ Q (.bl (!decide (x = y))) H

theorem dec_int {i j : Int} : decide (V.int i = V.int j) = (i == j) := by
  rw [Bool.eq_iff_iff]
  simp
theorem dec_bl {i j : Bool} : decide (V.bl i = V.bl j) = (i == j) := by
  rw [Bool.eq_iff_iff]
  simp
theorem dec_str {i j : Str} : decide (V.str i = V.str j) = (i == j) := by
  rw [Bool.eq_iff_iff]
  simp
theorem dec_byt {i j : Array UInt8} : decide (V.byt i = V.byt j) = (i.toList == j.toList) := by
  rw [Bool.eq_iff_iff]
  cases i
  cases j
  simp

section
variable {X : Cx} {a b c : Expr} {ta tb tc : TE} {pos : Pos}
theorem fin_bl {pins : List (Addr × Obj)} {σ : St} {H : Hp} {s : Shared} {Q : VK} {k k' : Bool} (I : Inv X pins σ H s) (q : Q (.bl k) H) (e : k = k') : EP X pins σ Q (.bool k') s := by
  subst e
  exact ⟨.bl k, H, I, rfl, q⟩
theorem op_eq : OpR X (compareOp .Eq) rEq := by
  intro pins s σ H x y v u Q I rx ry h
  obtain ⟨hs, q⟩ := h
  cases x with
  | non =>
    cases rx
    cases y with
    | non => cases ry; exact PySem.EqNone.eq_none_none (fin_bl I q (by simp))
    | bl j => cases ry; exact PySem.EqNone.eq_none_bool (fin_bl I q (by simp))
    | int j => obtain ⟨t', rfl⟩ := ry; exact PySem.EqNone.eq_none_int (fin_bl I q (by simp))
    | str j => obtain ⟨t', rfl⟩ := ry; exact PySem.EqNone.eq_none_str (fin_bl I q (by simp))
    | _ => exact absurd (show false = true from hs) Bool.false_ne_true
  | bl i =>
    cases rx
    cases y with
    | non => cases ry; exact PySem.EqNone.eq_bool_none (fin_bl I q (by simp))
    | bl j => cases ry; exact eq_bool (fin_bl I q dec_bl)
    | str j => obtain ⟨t', rfl⟩ := ry; exact PySem.EqMixed.eq_bool_str (fin_bl I q (by simp))
    | _ => exact absurd (show false = true from hs) Bool.false_ne_true
  | int i =>
    obtain ⟨t, rfl⟩ := rx
    cases y with
    | non => cases ry; exact PySem.EqNone.eq_int_none (fin_bl I q (by simp))
    | int j => obtain ⟨t', rfl⟩ := ry; exact eq_int (fin_bl I q dec_int)
    | str j => obtain ⟨t', rfl⟩ := ry; exact PySem.EqMixed.eq_int_str (fin_bl I q (by simp))
    | _ => exact absurd (show false = true from hs) Bool.false_ne_true
  | str i =>
    obtain ⟨t, rfl⟩ := rx
    cases y with
    | non => cases ry; exact PySem.EqNone.eq_str_none (fin_bl I q (by simp))
    | bl j => cases ry; exact PySem.EqMixed.eq_str_bool (fin_bl I q (by simp))
    | int j => obtain ⟨t', rfl⟩ := ry; exact PySem.EqMixed.eq_str_int (fin_bl I q (by simp))
    | str j => obtain ⟨t', rfl⟩ := ry; exact eq_str (fin_bl I q dec_str)
    | _ => exact absurd (show false = true from hs) Bool.false_ne_true
  | byt i =>
    obtain ⟨t, rfl⟩ := rx
    cases y with
    | byt j => obtain ⟨t', rfl⟩ := ry; exact PySem.W.eq_bytes (fin_bl I q dec_byt)
    | _ => exact absurd (show false = true from hs) Bool.false_ne_true
  | _ => cases y <;> exact absurd (show false = true from hs) Bool.false_ne_true
theorem op_ne : OpR X (compareOp .NotEq) rNe := by
  intro pins s σ H x y v u Q I rx ry h
  obtain ⟨hs, q⟩ := h
  cases x with
  | non =>
    cases rx
    cases y with
    | non => cases ry; exact PySem.EqNone.ne_none_none (fin_bl I q (by simp))
    | bl j => cases ry; exact PySem.EqNone.ne_none_bool (fin_bl I q (by simp))
    | int j => obtain ⟨t', rfl⟩ := ry; exact PySem.EqNone.ne_none_int (fin_bl I q (by simp))
    | str j => obtain ⟨t', rfl⟩ := ry; exact PySem.EqNone.ne_none_str (fin_bl I q (by simp))
    | _ => exact absurd (show false = true from hs) Bool.false_ne_true
  | bl i =>
    cases rx
    cases y with
    | non => cases ry; exact PySem.EqNone.ne_bool_none (fin_bl I q (by simp))
    | bl j => cases ry; exact ne_bool (fin_bl I q (congrArg not dec_bl))
    | str j => obtain ⟨t', rfl⟩ := ry; exact PySem.EqMixed.ne_bool_str (fin_bl I q (by simp))
    | _ => exact absurd (show false = true from hs) Bool.false_ne_true
  | int i =>
    obtain ⟨t, rfl⟩ := rx
    cases y with
    | non => cases ry; exact PySem.EqNone.ne_int_none (fin_bl I q (by simp))
    | int j => obtain ⟨t', rfl⟩ := ry; exact ne_int (fin_bl I q (congrArg not dec_int))
    | str j => obtain ⟨t', rfl⟩ := ry; exact PySem.EqMixed.ne_int_str (fin_bl I q (by simp))
    | _ => exact absurd (show false = true from hs) Bool.false_ne_true
  | str i =>
    obtain ⟨t, rfl⟩ := rx
    cases y with
    | non => cases ry; exact PySem.EqNone.ne_str_none (fin_bl I q (by simp))
    | bl j => cases ry; exact PySem.EqMixed.ne_str_bool (fin_bl I q (by simp))
    | int j => obtain ⟨t', rfl⟩ := ry; exact PySem.EqMixed.ne_str_int (fin_bl I q (by simp))
    | str j => obtain ⟨t', rfl⟩ := ry; exact ne_str (fin_bl I q (congrArg not dec_str))
    | _ => exact absurd (show false = true from hs) Bool.false_ne_true
  | byt i =>
    obtain ⟨t, rfl⟩ := rx
    cases y with
    | byt j => obtain ⟨t', rfl⟩ := ry; exact PySem.W.ne_bytes (fin_bl I q (congrArg not dec_byt))
    | _ => exact absurd (show false = true from hs) Bool.false_ne_true
  | _ => cases y <;> exact absurd (show false = true from hs) Bool.false_ne_true

theorem op_lt : OpR X (compareOp .Lt) (rI0 fun i j => .bl (decide (i < j))) := opB0 fun _ _ _ _ _ _ _ q => lt_int q
theorem op_le : OpR X (compareOp .LtE) (rI0 fun i j => .bl (decide (i ≤ j))) := opB0 fun _ _ _ _ _ _ _ q => le_int q
theorem op_gt : OpR X (compareOp .Gt) (rI0 fun i j => .bl (decide (j < i))) := opB0 fun _ _ _ _ _ _ _ q => gt_int q
theorem op_ge : OpR X (compareOp .GtE) (rI0 fun i j => .bl (decide (j ≤ i))) := opB0 fun _ _ _ _ _ _ _ q => ge_int q
/-- is None, is not None: the right side a value none -/
theorem op_isN : OpR X (compareOp .Is) (fun x y H Q => y = .non ∧ Q (.bl (decide (x = .non))) H) := by
  intro pins s σ H x y v u Q I rx ry h
  obtain ⟨rfl, q⟩ := h
  cases ry
  refine is_none_gen (fin_bl I q ?_)
  cases x <;> first
    | (cases rx; rfl)
    | (obtain ⟨t, rfl⟩ := rx; rfl)
theorem nomark (b : Expr) {op : CmpOp} (h : op ≠ .In := by decide) (h2 : op ≠ .NotIn := by decide) : behindInMarks op b = false := by
  have e1 : (op == CmpOp.In) = false := by cases op <;> first | rfl | exact absurd rfl h
  have e2 : (op == CmpOp.NotIn) = false := by cases op <;> first | rfl | exact absurd rfl h2
  cases b <;> simp [behindInMarks, e1, e2]
/-- a comparison as a value; hm: nomark b, or (for in, not in) by with_unfolding_all rfl -/
theorem pe_cmpR {op : CmpOp} {r : R2} (ho : OpR X (compareOp op) r) (ha : PE X a ta) (hb : PE X b tb) (hm : behindInMarks op b = false) : PE X (.Compare a [op] [b] pos) (tOp r ta tb) := by
  intro pins s σ H Q I h
  exact wpAny_Compare1 (binT ha hb I h fun v u s2 x y H2 I2 rx ry q => ho pins s2 σ H2 x y v u Q I2 rx ry q) hm
/-- a reading of a value as a test -/
def tTest (t : TE) : TT := fun σ H Q => t σ H fun x H' => ∃ k, x = .bl k ∧ Q k H'
theorem pt_cmpR {op : CmpOp} {r : R2} (ho : OpR X (compareOp op) r) (ha : PE X a ta) (hb : PE X b tb) (hm : behindInMarks op b = false) : PT X (.Compare a [op] [b] pos) (tTest (tOp r ta tb)) := by
  intro pins s σ H Q I h
  refine wpAny_isTrue_Compare1 (thn (ha pins s σ H _ I h) fun v s1 ⟨x, H1, I1, r1, q1⟩ => thn (hb pins s1 σ H1 _ I1 q1) fun u s2 ⟨y, H2, I2, r2, q2⟩ =>
    thn (ho pins s2 σ H2 x y v u _ I2 r1 r2 q2) fun c s3 ⟨z, H3, I3, r3, k, e, q3⟩ => ?_) hm
  subst e
  cases r3
  exact wpAny_truthy_bool ⟨H3, I3, q3⟩
/-! ### truth -/
theorem line63 : (sizeLine : Nat) < 2 ^ 63 := by rw [sizeLine_eq]; decide
/-! ### strs and bytes -/
/-! ### scalar builtins, by CallR -/
theorem vals1 {x : V} {us : List Value} (r : Vals [x] us) : ∃ u, us = [u] ∧ RelV x u := by
  cases r with
  | cons r1 r2 => cases r2; exact ⟨_, rfl, r1⟩
theorem vals2 {x y : V} {us : List Value} (r : Vals [x, y] us) : ∃ u w', us = [u, w'] ∧ RelV x u ∧ RelV y w' := by
  cases r with
  | cons r1 r2 =>
    cases r2 with
    | cons r3 r4 => cases r4; exact ⟨_, _, rfl, r1, r3⟩
theorem call_abs : CallR X (.builtin "abs") (fun xs H Q => ∃ i, xs = [.int i] ∧ Q (.int (if i < 0 then -i else i)) H) := by
  intro pins s σ H xs us Q I r h
  obtain ⟨i, rfl, q⟩ := h
  obtain ⟨u, rfl, t, rfl⟩ := vals1 r
  exact call_abs_int fun u tk => ⟨.int (if i < 0 then -i else i), H, I.tok _, ⟨_, rfl⟩, q⟩
theorem call_int1 : CallR X (.type "int") (fun xs H Q => (∃ i, xs = [.int i] ∧ Q (.int i) H) ∨ ∃ k, xs = [.bl k] ∧ Q (.int (if k then 1 else 0)) H) := by
  intro pins s σ H xs us Q I r h
  rcases h with ⟨i, rfl, q⟩ | ⟨k, rfl, q⟩
  · obtain ⟨u, rfl, t, rfl⟩ := vals1 r
    exact call_int_int ⟨.int i, H, I, ⟨_, rfl⟩, q⟩
  · obtain ⟨u, rfl, r1⟩ := vals1 r
    cases r1
    exact call_int_bool ⟨.int (if k then 1 else 0), H, I.tok _, ⟨_, rfl⟩, q⟩
theorem call_str_int : CallR X (.type "str") (fun xs H Q => ∃ i, xs = [.int i] ∧ i.natAbs.log2 < 1920 ∧ Q (.str (toString i)) H) := by
  intro pins s σ H xs us Q I r h
  obtain ⟨i, rfl, hz, q⟩ := h
  obtain ⟨u, rfl, t, rfl⟩ := vals1 r
  exact PySem.P.str_of_int hz ⟨.str _, H, I.tok _, ⟨_, rfl⟩, q⟩
end
end L2

namespace L2
open PySem PySem.Spec PyProof.Rows

/-! ### an instance, its attributes a map -/
structure ObjM (h : Heap) (x dx C : Addr) (mA : Str → Option Value) : Prop where
  obj : h.get? x = some (PySem.W.instObj C dx)
  ns : h.Ns1 dx mA
  ne : dx ≠ x

theorem lookIn_ns {h : Heap} {dx : Addr} {mA : Str → Option Value} (n : h.Ns1 dx mA) : ∃ od, h.get? dx = some od ∧ ∀ name, PySem.W.lookIn name od = some (mA name) := by
  obtain ⟨o, es, ep, ho, hd, hk, _, hm⟩ := n
  refine ⟨o, ho, fun name => ?_⟩
  have e := hm name
  unfold nsFind findBy at e
  rw [← Array.find?_toList] at e
  unfold PySem.W.lookIn
  rw [hd]
  dsimp only
  split
  · rename_i y q
    rw [q] at e
    exact congrArg some e
  · rename_i q
    rw [q] at e
    have a : es.toList.any (·.refKey) = false := by
      rw [List.any_eq_false]
      intro y hy
      obtain ⟨z, t, hkey⟩ := hk y (Array.mem_toList_iff.mp hy)
      simp [DictEntry.refKey, hkey]
    have a' : ¬ es.toList.any (·.refKey) = true := by rw [a]; exact Bool.false_ne_true
    rw [if_neg a']
    exact congrArg some e

theorem ObjM.look {h : Heap} {x dx C : Addr} {mA : Str → Option Value} (I : ObjM h x dx C mA) : ∃ od, PySem.W.InstAt h x (PySem.W.instObj C dx) C (some od) ∧ ∀ name, PySem.W.lookIn name od = some (mA name) :=
  let ⟨od, ho, hl⟩ := lookIn_ns I.ns
  ⟨od, ⟨I.obj, rfl, rfl, ho⟩, hl⟩


/-! ### the attributes as a list of pairs -/
section
variable {P : Program} {w : World} {H H' : Hp} {h h' : Heap} {a C dx : Addr} {fs fs' : List (Str × V)}
theorem ins_get (hok : HOk P w H h) (e : H a = some (.ins C dx fs)) : ∃ mA, ObjM h a dx C mA ∧ (∀ f, RelO (fs.lookup f) (mA f)) ∧ PySem.Within mA (fs.map (·.1)) ∧ fs.length ≤ 1000 ∧ H dx = some (.own a) := by
  obtain ⟨d, z, ne, ob, mA, n, r, q⟩ := (show ObjOk P w H h a (.ins C dx fs) from hok a _ e)
  exact ⟨mA, ⟨ob, n, ne⟩, r, q, z, d⟩
end

/-! ### what of the text a class must have -/
structure Cls (K : PySem.W.Frag) (C : Addr) : Prop where
  pg : PySem.W.plainGet K C Str.empty = true
  hd : PySem.W.hasDictIn K C = true
  po : PySem.W.plainOver K C = true
  sa : PySem.W.findIn K (.ref C) "__setattr__" = some (some (.builtin "object.__setattr__"))
theorem Cls.get {K : PySem.W.Frag} {C : Addr} (c : Cls K C) (f : Str) : PySem.W.plainGet K C f = true := c.pg

/-! ### readings and rules -/

/-! ### isinstance -/
section
variable {X : Cx} {pins : List (Addr × Obj)} {σ : St} {H : Hp} {s : Shared} {A : Around} {E : Value → Shared → Prop} {Q : Value → Shared → Prop} {c : Value} {b : Bool}
/-- the type of a value, as the fragment's deciders take it; for an instance its class -/
inductive TyOf (K : PySem.W.Frag) (H : Hp) : V → Value → Prop where
  | non : TyOf K H .non (.type "NoneType")
  | bl (x : Bool) : TyOf K H (.bl x) (.type "bool")
  | int (i : Int) : TyOf K H (.int i) (.type "int")
  | str (x : Str) : TyOf K H (.str x) (.type "str")
  | flt (x : UInt64) : TyOf K H (.flt x) (.type "float")
  | lst {a : Addr} {xs : List V} (e : H a = some (.lst xs)) : TyOf K H (.ref a) (.type "list")
  | frz {a : Addr} {o : Obj} {xs : List V} (e : H a = some (.frz o (.lst xs))) : TyOf K H (.ref a) (.type "list")
  | tup {a : Addr} {xs : List V} (e : H a = some (.tup xs)) : TyOf K H (.ref a) (.type "tuple")
  | dK {a : Addr} {kvs : List (Key × V)} (e : H a = some (.dK kvs)) : TyOf K H (.ref a) (.type "dict")
  | dT {a : Addr} {kvs : List (List Key × V)} (e : H a = some (.dT kvs)) : TyOf K H (.ref a) (.type "dict")
  | ins {a C dx : Addr} {fs : List (Str × V)} (e : H a = some (.ins C dx fs)) (cl : Cls K C) (ha : PySem.W.findIn K (.ref C) "__class__" = some (some (.builtin "object.__class__")))
      (hn : PySem.W.specialIn K (.builtin "object.__class__") "__get__" = some (some (.builtin "getset_descriptor.__get__"))) (htk : PySem.W.takesIn K (.builtin "object.__class__") = some true)
      (hm : PySem.W.mroIn K C (.type "object") = some true) : TyOf K H (.ref a) (.ref C)
/-- isinstance(x, c) for one class c, a built-in or an own one: kitOne's answer -/
theorem isinst_ok {x : V} {u t : Value} (I : Inv X pins σ H s) (rx : RelV x u) (ty : TyOf X.K H x t) (e : PySem.W.kitOne X.K t c = some b) (h : ∀ tk, Q (.bool b) { s with toks := tk }) :
    wpAny (model X.prog X.w) A (call (.builtin "isinstance") [u, c]) Q E s := by
  cases ty with
  | non => cases (show u = Value.none from rx); exact PySem.W.kia_one PySem.W.kitx_none I.kIn True.intro e (fun z => nomatch z) h
  | bl y => cases (show u = Value.bool y from rx); exact PySem.W.kia_one PySem.W.kitx_bool I.kIn True.intro e (fun z => nomatch z) h
  | int i => obtain ⟨t, q⟩ := (show ∃ t, u = Value.int i t from rx); cases q; exact PySem.W.kia_one PySem.W.kitx_int I.kIn True.intro e (fun z => nomatch z) h
  | str y => obtain ⟨t, q⟩ := (show ∃ t, u = Value.str y t from rx); cases q; exact PySem.W.kia_one PySem.W.kitx_str I.kIn True.intro e (fun z => nomatch z) h
  | flt y => obtain ⟨t, q⟩ := (show ∃ t, u = Value.float y t from rx); cases q; exact PySem.W.kia_one PySem.W.kitx_float I.kIn True.intro e (fun z => nomatch z) h
  | @lst a xs ea =>
    cases (show u = Value.ref a from rx)
    obtain ⟨_, _, n, _, h1⟩ := (show ObjOk X.prog X.w H s.heap a (.lst xs) from I.hok a _ ea)
    exact PySem.W.kia_one PySem.W.kitx_list I.kIn ⟨_, h1, rfl⟩ e (fun z => nomatch z) h
  | @frz a ob xs ea =>
    cases (show u = Value.ref a from rx)
    obtain ⟨_, _, _, n, _, h1⟩ := (show ObjOk X.prog X.w H s.heap a (.frz ob (.lst xs)) from I.hok a _ ea)
    exact PySem.W.kia_one PySem.W.kitx_list I.kIn ⟨_, h1, rfl⟩ e (fun z => nomatch z) h
  | @tup a xs ea =>
    cases (show u = Value.ref a from rx)
    obtain ⟨_, _, _, p⟩ := (show ObjOk X.prog X.w H s.heap a (.tup xs) from I.hok a _ ea)
    obtain ⟨o, h1, h2, _⟩ := p
    exact PySem.W.kia_one PySem.W.kitx_tuple I.kIn ⟨o, h1, h2⟩ e (fun z => nomatch z) h
  | @dK a kvs ea =>
    cases (show u = Value.ref a from rx)
    obtain ⟨_, _, vs, _, p⟩ := (show ObjOk X.prog X.w H s.heap a (.dK kvs) from I.hok a _ ea)
    obtain ⟨o, es, ep, h1, h2, _⟩ := p
    exact PySem.W.kia_one PySem.W.kitx_dict I.kIn ⟨o, h1, h2.1⟩ e (fun z => nomatch z) h
  | @dT a kvs ea =>
    cases (show u = Value.ref a from rx)
    obtain ⟨_, _, xs, _, o, es, ep, h1, h2, _⟩ := (show ObjOk X.prog X.w H s.heap a (.dT kvs) from I.hok a _ ea)
    exact PySem.W.kia_one PySem.W.kitx_dict I.kIn ⟨o, h1, h2.1⟩ e (fun z => nomatch z) h
  | @ins a C dx fs ea cl ha hn htk hm =>
    cases (show u = Value.ref a from rx)
    obtain ⟨mA, O, _⟩ := ins_get I.hok ea
    obtain ⟨od, J, _⟩ := O.look
    exact PySem.W.kia_one (PySem.W.kitx_own (cl.get _) cl.hd ha hn htk hm) I.kIn J e (fun z => nomatch z) h
end
end L2

namespace L2
open PySem PySem.Spec PyProof.Rows

/-! ### room -/
structure Room (k : Nat) (A : Around) : Prop where
  hd : A.handled = none
  dp : A.depth + 3 * k + 5 < recursionLimit
  un : A.units + 16 * k + 200 < cLine
  gd : A.guards = some []
theorem Room.mono {j k : Nat} {A : Around} (r : Room k A) (h : j ≤ k) : Room j A := ⟨r.hd, by have := r.dp; omega, by have := r.un; omega, r.gd⟩
theorem Room.deeper {k : Nat} {A : Around} (r : Room (k + 1) A) (env : Env) : Room k (A.deeper env) :=
  ⟨r.hd, by have := r.dp; show A.depth + 1 + 3 * k + 5 < _; omega, by have := r.un; show A.units + 3 + 16 * k + 200 < _; omega, r.gd⟩
theorem Room.depth {k : Nat} {A : Around} (r : Room k A) : A.depth < recursionLimit := by have := r.dp; omega
/-! ### argument lists and displays -/
def tNil : TA := fun _ H Q => Q [] H
def tCons (ta : TE) (tr : TA) : TA := fun σ H Q => ta σ H fun x H1 => tr σ H1 fun xs H2 => Q (x :: xs) H2
section
variable {X : Cx} {e : Expr} {es : List Expr} {te : TE} {t : TA} {pos : Pos}
theorem pa_nil : PA X [] tNil := fun _ _ _ _ H Q I h => Calls.spliced_nil ⟨[], H, I, .nil, h⟩
theorem pa_cons (ha : PE X e te) (hr : PA X es t) (hs : starEach (e :: es) X.env = (false, eval e X.env) :: starEach es X.env := by rfl) : PA X (e :: es) (tCons te t) := by
  intro pos pins s σ H Q I h
  rw [hs]
  show wpAny _ _ (spliced ((false, eval e X.env) :: backTo pos (starEach es X.env))) _ _ s
  refine Calls.spliced_cons (thn (ha pins s σ H _ I h) fun u s1 ⟨x, H1, I1, r1, q1⟩ => ?_)
  exact thn (hr pos pins s1 σ H1 _ I1 q1) fun us s2 ⟨xs, H2, I2, r2, q2⟩ => ⟨x :: xs, H2, I2, .cons r1 r2, q2⟩

/-- a tuple, a list of written items -/
def tTup (t : TA) : TE := fun σ H Q => t σ H fun xs H1 => xs.length ≤ sizeLine ∧ ∀ p, H1 p = none → Q (.ref p) (upd H1 p (.tup xs))
def tLst (t : TA) : TE := fun σ H Q => t σ H fun xs H1 => xs.length ≤ sizeLine ∧ ∀ p, H1 p = none → Q (.ref p) (upd H1 p (.lst xs))
theorem pe_tup {x1} (h : PA X es t) : PE X (.Tuple es x1 pos) (tTup t) := by
  intro pins s σ H Q I hq
  refine wpAny_Tuple_spliced (thn (h pos pins s σ H _ I hq) fun us s1 ⟨xs, H1, I1, r, z, q⟩ => ⟨by rw [← r.length]; exact z, ?_⟩)
  have hf : H1 s1.heap.objs.size = none := I1.hok.fresh (Nat.le_refl _)
  refine ⟨.ref s1.heap.objs.size, upd H1 s1.heap.objs.size (.tup xs), I1.laid (t' := s1.toks) (fun b u e => Heap.get?_push_of_some _ e) (Nat.le_refl _) ?_, rfl, q _ hf⟩
  exact ⟨z, us, r, ⟨_, Heap.get?_push_size _ rfl, rfl, _, rfl, rfl⟩⟩
theorem pe_lst (h : PA X es t) : PE X (.List es pos) (tLst t) := by
  intro pins s σ H Q I hq
  refine wpAny_List_spliced (thn (h pos pins s σ H _ I hq) fun us s1 ⟨xs, H1, I1, r, z, q⟩ => ⟨by rw [← r.length]; exact z, ?_⟩)
  have hf : H1 s1.heap.objs.size = none := I1.hok.fresh (Nat.le_refl _)
  refine ⟨.ref s1.heap.objs.size, upd H1 s1.heap.objs.size (.lst xs), I1.laid (t' := s1.toks) (fun b u e => Heap.get?_push_of_some _ e) (Nat.le_refl _) ?_, rfl, q _ hf⟩
  exact ⟨z, us, 0, r, Heap.get?_push_size _ rfl⟩
end

/-! ### what a def promises -/
/-- a def's promise: the bound arguments in the parameters' order, the heap, the wanted end, the wanted exception -/
abbrev Sp := List V → Hp → VK → XK → Prop
/-- how an exception lies behind a call (file 08 gives it): the callers' frames, abstract heap and state ahead of the call, the wish, the exception, the state -/
abbrev CXT := List Env → Hp → Shared → XK → Value → Shared → Prop

/-- the state at a call -/
structure Env0 (P : Program) (w : World) (K : PySem.W.Frag) (mg : Str → Option Value) (base : Heap) (A : Around) (outer : List Env) (s : Shared) (H : Hp) : Prop where
  frames : A.frames = some outer
  mod : Mod K mg base
  bs : ∀ b o, base.get? b = some o → s.heap.get? b = some o ∧ H b = none
  bsz : base.objs.size ≤ s.heap.objs.size
  funs : s.heap.FunFrames base outer
  frf : ∀ b ∈ frs outer, H b = none
  hok : HOk P w H s.heap
  bare : AllBare s.gens
/-- a call's end -/
def CE (outer : List Env) (P : Program) (w : World) (H : Hp) (s : Shared) (Q : VK) (u : Value) (s' : Shared) : Prop :=
  ∃ v H', s'.os = s.os ∧ AllBare s'.gens ∧ Un (frs outer) [] H H' s.heap s'.heap ∧ HOk P w H' s'.heap ∧ RelV v u ∧ Q v H'
def CR (CX : CXT) (outer : List Env) (P : Program) (w : World) (H : Hp) (s : Shared) (Q : VK) (E : XK) (r : Result) (s' : Shared) : Prop :=
  match r with
  | .ok (.ret u) => CE outer P w H s Q u s'
  | .ok _ => False
  | .error e => CX outer H s E e s'
structure FnOk (P : Program) (w : World) (K : PySem.W.Frag) (mg : Str → Option Value) (base : Heap) (CX : CXT) (k : Nat) (f : Addr) (fd : FuncData) (ps : List Str) (sp : Sp) : Prop where
  len : ∀ vs H Q E, sp vs H Q E → vs.length = ps.length
  run : ∀ (A : Around) (outer : List Env) (s : Shared) (H : Hp) (args : Args) (us : List Value) (vs : List V) (Q : VK) (E : XK), Room k A → Env0 P w K mg base A outer s H → BindsTo s fd args (ps.zip us) → Vals vs us → sp vs H Q E →
    codeAny (model P w) A (.call (.ref f) args) (CR CX outer P w H s Q E) s
section
variable {X : Cx} {pins : List (Addr × Obj)} {σ : St} {H : Hp} {s s' : Shared}
/-- from a body: what a callee wants -/
theorem Inv.env0 (I : Inv X pins σ H s) : Env0 X.prog X.w X.K X.mg X.base X.A X.stack s H :=
  ⟨I.ok.frames, I.ok.mod, I.bs, Nat.le_trans I.ok.bsz I.sz, I.stack, I.stkFree, I.hok, I.bare⟩
/-- behind a call -/
theorem Inv.after {Q : VK} {u : Value} (I : Inv X pins σ H s) (h : CE X.stack X.prog X.w H s Q u s') : EP X pins σ Q u s' := by
  obtain ⟨v, H', os, bare, un, hok, r, q⟩ := h
  obtain ⟨hh, g, d, t, os'⟩ := s'
  obtain rfl : os' = s.os := os
  exact ⟨v, H', I.call (h' := hh) (g' := g) (d' := d) (t' := t) (ch := []) un hok bare (fun b z => absurd z (by simp)), r, q⟩
end

/-! ### calls -/
/-- f(..): the written arguments, then the defaults dvs; E: what is wanted of an exception -/
def tCall (sp : Sp) (dvs : List V) (E : XK) (t : TA) : TE := fun σ H Q => t σ H fun vs H1 => sp (vs ++ dvs) H1 Q E
/-- how the parameters are bound: us the positional arguments, kw the keywords' values by name, ds the defaults that fill up -/
def Binds (K : PySem.W.Frag) (fd : FuncData) (ps : List Str) (ds : List Value) : Prop :=
  ∀ (s : Shared) (us : List Value), K.In s.heap → (us ++ ds).length = ps.length → BindsTo s fd ⟨us, []⟩ (ps.zip (us ++ ds))
/-- every parameter is given -/
theorem Binds.all {K : PySem.W.Frag} {fd : FuncData} {ps : List Str} (h : ∀ us : List Value, us.length = ps.length → bindArgs fd ⟨us, []⟩ = pure (ps.zip us)) : Binds K fd ps [] := fun s us _ hl => by
  rw [List.append_nil] at hl ⊢
  exact .of_eq (h us hl)

/-- an exception of a callee reaches what this body wants of exceptions -/
def Passes (CX : CXT) (X : Cx) (E : XK) : Prop := ∀ (pins : List (Addr × Obj)) (σ : St) (H : Hp) (s : Shared) (e : Value) (s' : Shared), Inv X pins σ H s → CX X.stack H s E e s' → X.xe e s'

section
variable {X : Cx} {CX : CXT} {k : Nat} {f C : Addr} {fd : FuncData} {ps : List Str} {sp : Sp} {dvs : List V} {ds : List Value} {E : XK} {x m : Str} {p pos apos : Pos} {e o : Expr} {es : List Expr} {ta : TE} {t : TA}

/-- the callee runs -/
theorem run_fn {pins : List (Addr × Obj)} {σ : St} {H : Hp} {s : Shared} {Q : VK} {us : List Value} {vs : List V} (F : FnOk X.prog X.w X.K X.mg X.base CX k f fd ps sp) (hr : Room k X.A) (hb : Binds X.K fd ps ds) (hd : Vals dvs ds) (hx : Passes CX X E)
    (I : Inv X pins σ H s) (r : Vals vs us) (h : sp (vs ++ dvs) H Q E) : wpAny (model X.prog X.w) X.A (call (.ref f) us) (EP X pins σ Q) X.xe s := by
  have r2 : Vals (vs ++ dvs) (us ++ ds) := r.append hd
  have hl : (us ++ ds).length = ps.length := by rw [← r2.length]; exact F.len _ _ _ _ h
  refine wpAny_call (codeAny_mono (F.run X.A X.stack s H ⟨us, []⟩ (us ++ ds) (vs ++ dvs) Q E hr I.env0 (hb s us I.kIn hl) r2 h) fun r s' hq => ?_)
  cases r with
  | error e => exact hx pins σ H s e s' I hq
  | ok fl =>
    cases fl with
    | ret u => exact I.after hq
    | next => exact False.elim hq
    | brk => exact False.elim hq
    | cont => exact False.elim hq

theorem pe_call (F : FnOk X.prog X.w X.K X.mg X.base CX k f fd ps sp) (hr : Room k X.A) (hg : Gl X x) (hm : X.mg x = some (.ref f)) (hk : PySem.W.keepIn X.K (.ref f) = true) (hb : Binds X.K fd ps ds) (hd : Vals dvs ds) (hx : Passes CX X E)
    (ha : PA X (e :: es) t) (hdb : (x == ("__debug__" : Str)) = false := by decide) (he : starEach (e :: es) X.env = (false, eval e X.env) :: starEach es X.env := by rfl) (hpl : (backTo pos (starEach es X.env)).any (·.1) = false := by rfl) :
    PE X (.Call (.Name x p) (e :: es) [] pos) (tCall sp dvs E t) := by
  intro pins s σ H Q I h
  refine wpAny_Call_Name_kw (ld_glob I hg hm ?_ hdb)
  refine PySem.W.callWith_K (h₀ := X.base) I.ok.mod.kin hk (thn (ha pos pins s σ H _ I h) fun us s1 ⟨vs, H1, I1, r, q⟩ => ⟨I1.kIn, ?_⟩) he hpl
  exact run_fn F hr hb hd hx I1 r q
end

/-! ### keywords -/

/-! ### a def's body keeps its promise -/
/-- names: the parameters first -/
structure FnScope (N P : List Str) (sc : Scope) : Prop where
  kind : sc.kind = .function
  co : sc.isCoroutine = false
  gen : sc.isGenerator = false
  nd : N.Nodup
  pre : N.take P.length = P
  par : ∀ x ∈ P, sc.names.lookup x = some .local ∨ sc.names.lookup x = some .cell
  nofree : ∀ y ∈ sc.names, y.2 ≠ .free

theorem bindL_out {kindOf : Str → Option NameKind} {x : Str} : ∀ {binds : List (Str × Value)} {m : Str → Option Value}, (∀ v, (x, v) ∉ binds) → bindL kindOf binds m x = m x
  | [], _, _ => rfl
  | (n, v) :: r, m, h => by
    unfold bindL
    rw [bindL_out fun w hw => h w (List.mem_cons_of_mem _ hw)]
    split
    · have : x ≠ n := by rintro rfl; exact h v List.mem_cons_self
      simp [this]
    · rfl
theorem bindC_out {kindOf : Str → Option NameKind} {x : Str} : ∀ {binds : List (Str × Value)} {m : Str → Option Value}, (∀ v, (x, v) ∉ binds) → bindC kindOf binds m x = m x
  | [], _, _ => rfl
  | (n, v) :: r, m, h => by
    unfold bindC
    rw [bindC_out fun w hw => h w (List.mem_cons_of_mem _ hw)]
    split
    · rfl
    · have : x ≠ n := by rintro rfl; exact h v List.mem_cons_self
      simp [this]
theorem bindL_get {kindOf : Str → Option NameKind} {x : Str} {v : Value} : ∀ {P : List Str} {vs : List Value} {i : Nat} {m : Str → Option Value}, P.Nodup → P[i]? = some x → vs[i]? = some v → kindOf x = some .local →
    bindL kindOf (P.zip vs) m x = some v
  | [], _, _, _, _, h, _, _ => by simp at h
  | _ :: _, [], _, _, _, _, h, _ => by simp at h
  | p :: P, w :: vs, 0, m, nd, h1, h2, hk => by
    simp at h1 h2; subst h1; subst h2
    show bindL kindOf ((p, w) :: P.zip vs) m p = _
    unfold bindL
    rw [bindL_out fun v hv => (List.nodup_cons.mp nd).1 (List.of_mem_zip hv).1, if_pos hk]
    simp
  | p :: P, w :: vs, i + 1, m, nd, h1, h2, hk => by
    show bindL kindOf ((p, w) :: P.zip vs) m x = _
    unfold bindL
    exact bindL_get (i := i) (List.nodup_cons.mp nd).2 (by simpa using h1) (by simpa using h2) hk
theorem bindC_get {kindOf : Str → Option NameKind} {x : Str} {v : Value} : ∀ {P : List Str} {vs : List Value} {i : Nat} {m : Str → Option Value}, P.Nodup → P[i]? = some x → vs[i]? = some v → kindOf x ≠ some .local →
    bindC kindOf (P.zip vs) m x = some v
  | [], _, _, _, _, h, _, _ => by simp at h
  | _ :: _, [], _, _, _, _, h, _ => by simp at h
  | p :: P, w :: vs, 0, m, nd, h1, h2, hk => by
    simp at h1 h2; subst h1; subst h2
    show bindC kindOf ((p, w) :: P.zip vs) m p = _
    unfold bindC
    rw [bindC_out fun v hv => (List.nodup_cons.mp nd).1 (List.of_mem_zip hv).1, if_neg hk]
    simp
  | p :: P, w :: vs, i + 1, m, nd, h1, h2, hk => by
    show bindC kindOf ((p, w) :: P.zip vs) m x = _
    unfold bindC
    exact bindC_get (i := i) (List.nodup_cons.mp nd).2 (by simpa using h1) (by simpa using h2) hk

/-- the names' values at the entry -/
def start (N : List Str) (vs : List V) : St := vs.map some ++ List.replicate (N.length - vs.length) none

/-- the context of a def's body, at its entry; an exception leaves the frame, then lies as CX says -/
def cxOf (CX : CXT) (P : Program) (w : World) (K : PySem.W.Frag) (mg : Str → Option Value) (base : Heap) (N : List Str) (qual : Str) (scope : Scope) (f : Addr) (cd : Value) (A : Around) (outer : List Env) (s : Shared) (H : Hp) (E : XK) : Cx where
  prog := P
  w := w
  K := K
  mg := mg
  base := base
  A := A.deeper (envOfC qual scope s.heap.objs.size f cd)
  N := N
  s₀ := s
  H₀ := H
  env := envOfC qual scope s.heap.objs.size f cd
  outer := outer
  stack := envOfC qual scope s.heap.objs.size f cd :: outer
  ex := []
  calm := true
  fn := fun _ => true
  pn := []
  xe := fun e s' => wpAny (model P w) (A.deeper (envOfC qual scope s.heap.objs.size f cd)) (leaving (envOfC qual scope s.heap.objs.size f cd) e) (fun _ s'' => CX outer H s E e s'') (fun e' s'' => CX outer H s E e' s'') s'

theorem cell_has {sc : Scope} {n : Nat} {x : Str} (h : sc.names.lookup x = some .cell) : ∃ c, (cellsFrom n sc.names []).lookup x = some c := by
  have q := PySem.W.cellsFrom_some sc.names n [] (.inl h)
  exact Option.isSome_iff_exists.mp q

theorem inv_start {CX : CXT} {P : Program} {w : World} {K : PySem.W.Frag} {mg : Str → Option Value} {base : Heap} {N ps : List Str} {qual : Str} {scope : Scope} {f : Addr} {cd : Value} {A : Around} {outer : List Env} {s s1 : Shared} {H : Hp} {E : XK} {us : List Value} {vs : List V}
    (S : FnScope N ps scope) (hd : A.handled = none) (e0 : Env0 P w K mg base A outer s H) (hl : vs.length = ps.length) (r : Vals vs us)
    (x : InCallC s s.heap.objs.size (bindL (envOfC qual scope s.heap.objs.size f cd).kindOf (ps.zip us) fun _ => none) (cellsFrom (s.heap.objs.size + 1) scope.names []) (bindC (envOfC qual scope s.heap.objs.size f cd).kindOf (ps.zip us) fun _ => none) s1) :
    Inv (cxOf CX P w K mg base N qual scope f cd A outer s H E) [] (start N vs) H s1 := by
  have hpl : ps.length ≤ N.length := by have := congrArg List.length S.pre; rw [List.length_take] at this; omega
  obtain ⟨h1, tk, rfl, hk⟩ := x.done
  have noA : ∀ b : Addr, b ∉ (cxOf CX P w K mg base N qual scope f cd A outer s H E).ex := fun b z => absurd (show b ∈ ([] : List Addr) from z) (by simp)
  refine ⟨⟨e0.mod, S.kind, rfl, rfl, Nat.le_refl _, fun y z c h1 h2 => ?_, fun y hy => ?_, fun y c _ h => ?_, fun _ => hd, Around.frames_deeper e0.frames, .inr ⟨rfl, rfl⟩, fun b z => absurd z (noA b), e0.bs, e0.bsz, fun b _ _ => noA b, fun b z => absurd z (noA b), e0.funs, e0.frf⟩,
    rfl, e0.bare, Un.kept hk, ⟨_, x.toInCall.ns, fun i y v h1 h2 h3 => ?_⟩, fun y c h => ⟨_, x.cell y c h⟩, e0.hok.fresh (Nat.le_refl _), fun y c h => ?_, fun p hp => absurd (show p ∈ ([] : List (Addr × Obj)) from hp) (by simp), e0.hok.kept hk, ?_⟩
  · exact name_of_addr x.apart (PySem.mem_of_lookup h1) (PySem.mem_of_lookup h2)
  · have hy : scope.names.lookup y = some .cell ∨ scope.names.lookup y = some .free := hy
    rcases hy with hy | hy
    · exact cell_has hy
    · exact absurd rfl (S.nofree _ (PySem.mem_of_lookup hy))
  · exact Nat.le_of_lt (x.above y c (PySem.mem_of_lookup h))
  · have hi : i < vs.length := by
      unfold start at h2
      by_cases hi : i < vs.length
      · exact hi
      · rw [List.getElem?_append_right (by simpa using hi)] at h2
        rw [List.getElem?_replicate] at h2
        split at h2 <;> cases h2
    have ha : vs[i]? = some v := by
      unfold start at h2
      rw [List.getElem?_append_left (by simpa using hi), List.getElem?_map] at h2
      cases e : vs[i]? with
      | none => rw [e] at h2; cases h2
      | some a => rw [e] at h2; cases h2; rfl
    obtain ⟨u, hu, rv⟩ := r.get ha
    have hp : ps[i]? = some y := by
      rw [← S.pre, List.getElem?_take_of_lt (by omega)]; exact h1
    have ndP : ps.Nodup := by rw [← S.pre]; exact S.nd.sublist (List.take_sublist _ _)
    refine ⟨u, rv, ?_⟩
    rcases S.par y (List.mem_of_getElem? hp) with k | k
    · exact .inl ⟨k, bindL_get ndP hp hu k⟩
    · obtain ⟨c, e⟩ := cell_has (n := s.heap.objs.size + 1) k
      refine .inr ⟨.inl k, c, e, ?_⟩
      have q := x.cell y c e
      rw [bindC_get ndP hp hu (by show scope.names.lookup y ≠ _; rw [k]; decide)] at q
      exact q
  · exact e0.hok.fresh (Nat.le_of_lt (x.above y c (PySem.mem_of_lookup h)))
  · unfold start
    show _ = N.length
    rw [List.length_append, List.length_map, List.length_replicate]
    omega

/-- THE RULE: a def (or a method) of the text, by its body. The body's reading t is chosen for each entry; it is run at the parameters' values -/
theorem fn_of {CX : CXT} {P : Program} {w : World} {K : PySem.W.Frag} {mg : Str → Option Value} {base : Heap} {k : Nat} {f : Addr} {name qual : Str} {params : Arguments} {body : List Stmt} {scope : Scope} {dV kV doc pm cdv ct oc : Value} {an od : Option Addr}
    {osl : Array (Option Value)} {N ps : List Str} {sp : Sp} (lk : K.lookup f = some ⟨oc, od, .func (PySem.W.fnOf name qual params body scope dV kV doc pm an cdv ct), osl⟩) (hcd : PySem.W.codeIn K cdv qual = true) (S : FnScope N ps scope)
    (len : ∀ vs H Q E, sp vs H Q E → vs.length = ps.length)
    (hbody : ∀ (A : Around) (outer : List Env) (s : Shared) (H : Hp) (vs : List V) (Q : VK) (E : XK), Room k (A.deeper (envOfC qual scope s.heap.objs.size f cdv)) → sp vs H Q E →
      ∃ t, PSs (cxOf CX P w K mg base N qual scope f cdv A outer s H E) body t ∧ t { nx := fun _ H' => Q .non H', rt := Q } (start N vs) H) :
    FnOk P w K mg base CX (k + 1) f (PySem.W.fnOf name qual params body scope dV kV doc pm an cdv ct) ps sp := by
  refine ⟨len, fun A outer s H args us vs Q E hr e0 hb r hsp => ?_⟩
  have hl := len _ _ _ _ hsp
  have KX : K.In s.heap := e0.mod.kin.keeps fun b o e => (e0.bs b o e).1
  have lim : s.heap.NoLimit := e0.mod.nolimit.keeps fun b o e => (e0.bs b o e).1
  have hkind : ∀ y ∈ ps.zip us, scope.names.lookup y.1 = some .local ∨ (scope.names.lookup y.1 = some .cell ∧ ((cellsFrom (s.heap.objs.size + 1) scope.names []).lookup y.1).isSome = true) := fun ⟨n, v⟩ hy => by
    rcases S.par n (List.of_mem_zip hy).1 with q | q
    · exact .inl q
    · exact .inr ⟨q, PySem.W.cellsFrom_some _ _ _ (.inl q)⟩
  refine codeAny_call_function hr.depth (KX _ _ lk) rfl S.co S.gen rfl (PySem.W.codeRec_of KX hcd) (hb _ _ _ _ ?_)
  refine wpAny_newFunctionEnv_cells S.kind hkind fun env he s1 x => ?_
  subst he
  refine ⟨lim.keeps x.toInCall.keep, codeAny_func ?_⟩
  obtain ⟨t, ht, hq⟩ := hbody A outer s H vs Q E (hr.deeper _) hsp
  have I : Inv (cxOf CX P w K mg base N qual scope f cdv A outer s H E) [] (start N vs) H s1 := inv_start S hr.hd e0 hl r x
  refine wpAny_mono (ht [] s1 (start N vs) H _ I hq) (fun fl s' hs => ?_) fun e s' hs => hs
  have fin : ∀ {σ' : St} {H' : Hp} {v : V} {u : Value}, Inv (cxOf CX P w K mg base N qual scope f cdv A outer s H E) [] σ' H' s' → RelV v u → Q v H' → CE outer P w H s Q u s' :=
    fun {σ' H' v u} J rv q => ⟨v, H', J.os, J.bare, J.base, J.hok, rv, q⟩
  cases fl with
  | ret u =>
    obtain ⟨v, σ', H', J, rv, q⟩ := hs
    exact fin J rv q
  | next =>
    obtain ⟨σ', H', J, q⟩ := hs
    exact fin (v := V.non) (u := Value.none) J rfl q
  | brk =>
    obtain ⟨_, _, _, q⟩ := hs
    exact False.elim q
  | cont =>
    obtain ⟨_, _, _, q⟩ := hs
    exact False.elim q
end L2

namespace L2
open PySem PySem.Spec PyProof.Rows
section
variable {X : Cx} {x : Str} {p pos : Pos} {e : Expr} {es : List Expr} {t : TA} {id T : String} {r : List V → Hp → VK → Prop}

def tCB (r : List V → Hp → VK → Prop) (t : TA) : TE := fun σ H Q => t σ H fun vs H1 => r vs H1 Q
/-- f(e, ..), f a built-in function -/
theorem pe_callB (hc : CallR X (.builtin id) r) (hg : Gl X x) (hm : X.mg x = none) (hv : bootBuiltins x = some (.builtin id)) (ha : PA X (e :: es) t) (hn : x ≠ "__name__" := by decide) (hdb : (x == ("__debug__" : Str)) = false := by decide)
    (he : starEach (e :: es) X.env = (false, eval e X.env) :: starEach es X.env := by rfl) (hpl : (backTo pos (starEach es X.env)).any (·.1) = false := by rfl) : PE X (.Call (.Name x p) (e :: es) [] pos) (tCB r t) := by
  intro pins s σ H Q I h
  refine wpAny_Call_Name_kw (ld_blt I hg hm hv ?_ hn hdb)
  exact PyProof.Rows.callWith_builtin1 (thn (ha pos pins s σ H _ I h) fun us s1 ⟨vs, H1, I1, r1, q1⟩ => hc pins s1 σ H1 vs us Q I1 r1 q1) he hpl
/-- T(e, ..), T a built-in type -/
theorem pe_callTy (hc : CallR X (.type T) r) (hg : Gl X x) (hm : X.mg x = none) (hv : bootBuiltins x = some (.type T)) (ha : PA X (e :: es) t) (hn : x ≠ "__name__" := by decide) (hdb : (x == ("__debug__" : Str)) = false := by decide)
    (he : starEach (e :: es) X.env = (false, eval e X.env) :: starEach es X.env := by rfl) (hpl : (backTo pos (starEach es X.env)).any (·.1) = false := by rfl) : PE X (.Call (.Name x p) (e :: es) [] pos) (tCB r t) := by
  intro pins s σ H Q I h
  refine wpAny_Call_Name_kw (ld_blt I hg hm hv ?_ hn hdb)
  exact PyProof.Rows.callWith_type1 (thn (ha pos pins s σ H _ I h) fun us s1 ⟨vs, H1, I1, r1, q1⟩ => hc pins s1 σ H1 vs us Q I1 r1 q1) he hpl
end
end L2

namespace HT
open PySem PyProof.Rows


section
variable {prog : Program} {w : World} {A : Around} {E : Value → Shared → Prop} {s : Shared}

/-- t + u, t not empty -/
theorem cat_tup {t b : Addr} {vs ws : List Value} {Q : Value → Shared → Prop} (ht : IsTup s.heap t vs.toArray) (hb : IsTup s.heap b ws.toArray) (hv : vs ≠ [])
    (h1 : ws = [] → Q (.ref t) s) (h2 : ws ≠ [] → Q (.ref s.heap.objs.size) { s with heap := s.heap.push { cls := .type "tuple", data := .seq (vs ++ ws).toArray } })
    (hsz : vs.length + ws.length ≤ sizeLine) : wpAny (model prog w) A (binaryOp .Add (.ref t) (.ref b)) Q E s := by
  obtain ⟨⟨cls, dd, data, sl⟩, ho, hc, n, hd⟩ := id ht
  obtain ⟨⟨cls2, dd2, data2, sl2⟩, ho2, hc2, n2, hd2⟩ := id hb
  simp only at hc hd hc2 hd2
  subst hc hd hc2 hd2
  have e : vs.toArray ++ ws.toArray = (vs ++ ws).toArray := by simp
  by_cases hw : ws = []
  · exact concat_meets ⟨_, ho, rfl⟩ ⟨_, ho2, rfl⟩ noFill_tuple_add seq_tuple_add PySem.F.slot_tuple_add PySem.F.entry_tuple_add (PySem.F.args_tuple_add_2 _ _)
      (tuple_addW1 t b vs.toArray ws.toArray n n2 dd dd2 sl sl2 (by simpa using hv) (by simp [hw])) ⟨ho, ho2, h1 hw⟩
  · refine concat_meets ⟨_, ho, rfl⟩ ⟨_, ho2, rfl⟩ noFill_tuple_add seq_tuple_add PySem.F.slot_tuple_add PySem.F.entry_tuple_add (PySem.F.args_tuple_add_2 _ _)
      (tuple_addW2 t b vs.toArray ws.toArray n n2 dd dd2 sl sl2 (by simpa using hv) (by simpa using hw) (by rw [List.size_toArray, List.size_toArray]; exact hsz)) ⟨ho, ho2, ?_⟩
    rw [e]
    exact h2 hw

/-! ### t[a:b], not the whole -/
/-- a slice's bound as a place among n (d where it is left out) -/
def sIx (n d : Nat) : Option Int → Nat
  | none => d
  | some v => if v < 0 then (v + (n : Int)).toNat else min v.toNat n
theorem sIx_none (n d : Nat) : sIx n d none = d := rfl
theorem sIx_nat (n d k : Nat) : sIx n d (some (k : Int)) = min k n := by
  show (if (k : Int) < 0 then ((k : Int) + (n : Int)).toNat else min (k : Int).toNat n) = min k n
  rw [if_neg (by omega), Int.toNat_natCast]
theorem sIx_le (n d : Nat) (hd : d ≤ n) (o : Option Int) : sIx n d o ≤ n := by
  cases o with
  | none => exact hd
  | some v =>
    show (if v < 0 then (v + (n : Int)).toNat else min v.toNat n) ≤ n
    by_cases hv : v < 0
    · rw [if_pos hv]; omega
    · rw [if_neg hv]; exact Nat.min_le_right _ _
theorem clip_eq (v : Int) (n d : Nat) : (if v < 0 then max (v + (n : Int)) 0 else min v (n : Int)) = ((sIx n d (some v) : Nat) : Int) := by
  show (if v < 0 then max (v + (n : Int)) 0 else min v (n : Int)) = (((if v < 0 then (v + (n : Int)).toNat else min v.toNat n) : Nat) : Int)
  by_cases hv : v < 0
  · simp only [if_pos hv]; omega
  · simp only [if_neg hv]; omega
theorem adjust_gen (lo hi : Option Int) (n : Nat) : Builtin.Slice.sliceAdjust lo hi 1 (n : Int) = (((sIx n 0 lo : Nat) : Int), ((sIx n n hi : Nat) : Int)) := by
  have h1 : ¬ ((1 : Int) < 0) := by omega
  unfold Builtin.Slice.sliceAdjust
  simp only [h1, if_false]
  refine Prod.ext ?_ ?_
  · cases lo with
    | none => rfl
    | some v => exact clip_eq v n 0
  · cases hi with
    | none => rfl
    | some v => exact clip_eq v n n
theorem places_gen (i j : Nat) : Builtin.Slice.slicePlaces (i : Int) (j : Int) 1 = j - i := by
  unfold Builtin.Slice.slicePlaces
  have h1 : (1 : Int) > 0 := by omega
  simp only [h1, if_true, Int.ediv_one]
  split <;> omega
theorem slicePart_ {v : Value} {o : Option Int} {Q : Option Int → Shared → Prop} (p : IsPart v o) (h : Q o s) : wpAny (model prog w) A (Builtin.Slice.slicePartIndex v) Q E s := by
  cases p with
  | none => exact slicePart_none h
  | int i t => exact slicePart_int h
theorem sliceApplied_gen {sl : Addr} {vl vu : Value} {lo hi : Option Int} {n : Nat} {Q : Int × Int × Nat → Shared → Prop} (hs : s.heap.IsSliceOf sl vl vu .none) (pl : IsPart vl lo) (pu : IsPart vu hi)
    (h : Q (((sIx n 0 lo : Nat) : Int), 1, sIx n n hi - sIx n 0 lo) s) : wpAny (model prog w) A (Builtin.Slice.sliceApplied (.ref sl) (pure (n : Int))) Q E s := by
  obtain ⟨os, hos, hcs, hds⟩ := id hs
  unfold Builtin.Slice.sliceApplied Builtin.Slice.sliceFields
  refine wpAny_bind (wpAny_bind (wpAny_field hos hds (x := vl) rfl (wpAny_bind (wpAny_field hos hds (x := vu) rfl (wpAny_bind (wpAny_field hos hds (x := .none) rfl (wpAny_pure ?_)))))))
  refine wpAny_bind (slicePart_none ?_)
  show wpAny _ _ (if ((1 : Int) == 0) = true then _ else _) _ _ s
  rw [if_neg (by decide)]
  refine wpAny_bind (slicePart_ pl (wpAny_bind (slicePart_ pu (wpAny_bind (wpAny_pure ?_)))))
  show wpAny _ _ (match Builtin.Slice.sliceAdjust lo hi 1 (n : Int) with | (lo, hi) => pure (lo, (1 : Int), Builtin.Slice.slicePlaces lo hi 1)) _ _ s
  rw [adjust_gen lo hi n]
  show wpAny _ _ (pure (((sIx n 0 lo : Nat) : Int), (1 : Int), Builtin.Slice.slicePlaces ((sIx n 0 lo : Nat) : Int) ((sIx n n hi : Nat) : Int) 1)) _ _ s
  rw [places_gen]
  exact wpAny_pure h
theorem pick_gen (xs : Array Value) (i k : Nat) : ((List.range k).filterMap fun (m : Nat) => xs[((i : Int) + (m : Int) * 1).toNat]?).toArray = ((xs.toList.drop i).take k).toArray := by
  have e : (fun (m : Nat) => xs[((i : Int) + (m : Int) * 1).toNat]?) = fun m => xs[i + m]? := by
    funext m
    have : ((i : Int) + (m : Int) * 1).toNat = i + m := by omega
    rw [this]
  rw [e]
  have := pick_run xs i k
  rw [List.filterMap_map] at this
  have e2 : ((fun x => xs[x]?) ∘ fun x => i + x) = fun m => xs[i + m]? := rfl
  rw [e2] at this
  rw [this]

theorem getItem_tuple_cut {t sl : Addr} {items : Array Value} {vl vu : Value} {lo hi : Option Int} {Q : Value → Shared → Prop} (ht : IsTup s.heap t items) (hs : s.heap.IsSliceOf sl vl vu .none) (pl : IsPart vl lo) (pu : IsPart vu hi)
    (hw : ¬ (sIx items.size 0 lo = 0 ∧ sIx items.size items.size hi = items.size))
    (h : Q (.ref s.heap.objs.size) { s with heap := s.heap.push { cls := .type "tuple", data := .seq ((items.toList.drop (sIx items.size 0 lo)).take (sIx items.size items.size hi - sIx items.size 0 lo)).toArray } })
    (hsz : items.size ≤ sizeLine) : wpAny (model prog w) A (getItem (.ref t) (.ref sl)) Q E s := by
  have htake : sizeOk (.seq ((items.toList.drop (sIx items.size 0 lo)).take (sIx items.size items.size hi - sIx items.size 0 lo)).toArray) := by
    show ((items.toList.drop (sIx items.size 0 lo)).take (sIx items.size items.size hi - sIx items.size 0 lo)).toArray.size ≤ sizeLine
    rw [List.size_toArray, List.length_take, List.length_drop, Array.length_toList]
    omega
  have hj : sIx items.size items.size hi ≤ items.size := sIx_le _ _ (Nat.le_refl _) hi
  obtain ⟨os, hos, hcs, hds⟩ := id hs
  have hTs : s.TypeIs (.ref sl) "slice" := ⟨os, hos, hcs⟩
  unfold getItem
  try with_reducible refine wpAny_holding ?_
  first | refine wpAny_bind (wpAny_pure ?_) | skip
  refine wpAny_bind (wpAny_sequenceKey ht.typeIs (by decide) ?_)
  refine wpAny_bind (wpAny_callSpecial?_slot (name := Str.ofString "__getitem__") ht.typeIs PyProof.Rows.slot_tuple_getitem
    (wpAny_call_entry PyProof.Rows.slot_tuple_getitem ht.typeIs entry_tuple_getitem ?_ (args_tuple_getitem _ _)))
  show wpAny _ _ (Builtin.Tuple.tupleItemsOf (.ref t) >>= _) _ _ s
  refine wpAny_bind (tupleItemsOf_ ht ?_)
  refine wpAny_bind (wpAny_typeOf hTs ?_)
  rw [if_pos (by decide)]
  refine wpAny_bind (sliceApplied_gen hs pl pu ?_)
  have hno : ¬ ((((sIx items.size 0 lo : Nat) : Int) == 0 && (1 : Int) == 1 && (sIx items.size items.size hi - sIx items.size 0 lo) == items.size) = true) := by
    intro q
    rw [Bool.and_eq_true, Bool.and_eq_true] at q
    have q1 : ((sIx items.size 0 lo : Nat) : Int) = 0 := eq_of_beq q.1.1
    have q2 : sIx items.size items.size hi - sIx items.size 0 lo = items.size := eq_of_beq q.2
    exact hw ⟨by omega, by omega⟩
  show wpAny _ _ (if (((sIx items.size 0 lo : Nat) : Int) == 0 && (1 : Int) == 1 && (sIx items.size items.size hi - sIx items.size 0 lo) == items.size) = true then _ else _) _ _ s
  rw [if_neg hno, pick_gen]
  first
    | exact wpAny_bind (m := Builtin.Tuple.tupleExact _) (wpAny_newObj_type (wpAny_pure ⟨_, rfl, wpAny_pure h⟩) htake)
    | exact wpAny_bind (m := Builtin.Tuple.tupleExact _) (wpAny_newObj_type (wpAny_bind (wpAny_pure (wpAny_pure ⟨_, rfl, wpAny_pure h⟩))) htake)
    | exact wpAny_bind (wpAny_bind (m := Builtin.Tuple.tupleExact _) (wpAny_newObj_type (wpAny_pure (wpAny_pure ⟨_, rfl, wpAny_pure h⟩)) htake))
    | exact wpAny_bind (wpAny_bind (m := Builtin.Tuple.tupleExact _) (wpAny_newObj_type (wpAny_pure ⟨_, rfl, wpAny_pure h⟩) htake))
end
end HT

namespace L2
open PySem PySem.Spec PyProof.Rows

/-! ### the parts of a slice -/
abbrev TO := St → Hp → (Option Int → Hp → Prop) → Prop
/-- a slice's part (left out, or an int) -/
def PO (X : Cx) (e : Option Expr) (t : TO) : Prop :=
  ∀ (pins : List (Addr × Obj)) (s : Shared) (σ : St) (H : Hp) (Q : Option Int → Hp → Prop), Inv X pins σ H s → t σ H Q →
    wpAny (model X.prog X.w) X.A (evalPart e X.env) (fun u s' => ∃ o H', Inv X pins σ H' s' ∧ IsPart u o ∧ Q o H') X.xe s
def tNoPart : TO := fun _ H Q => Q none H
def tPart (t : TE) : TO := fun σ H Q => t σ H fun x H1 => ∃ i, x = .int i ∧ Q (some i) H1

theorem intsAre_of {ns : List Int} : ∀ {us : List Value}, Vals (ns.map V.int) us → IntsAre us ns := by
  induction ns with
  | nil => intro us r; rw [List.map_nil] at r; cases r; exact .nil
  | cons n ns ih =>
    intro us r
    rw [List.map_cons] at r
    cases r with
    | cons r1 r2 =>
      obtain ⟨t, e⟩ := r1
      subst e
      exact .cons n t (ih r2)

section
variable {X : Cx} {e : Expr} {te : TE} {lo hi : Option Expr} {tl th : TO} {pos p2 : Pos}

theorem po_none : PO X none tNoPart := by
  intro pins s σ H Q I h
  rw [evalPart_none]
  exact wpAny_pure ⟨none, H, I, .none, h⟩
theorem po_some (h : PE X e te) : PO X (some e) (tPart te) := by
  intro pins s σ H Q I hw
  rw [evalPart_some]
  refine thn (h pins s σ H _ I hw) fun u s1 ⟨x, H1, I1, r1, q1⟩ => ?_
  obtain ⟨i, rfl, q⟩ := q1
  obtain ⟨t, rfl⟩ := r1
  exact ⟨some i, H1, I1, .int i t, q⟩

/-- what a slice of a value is, by values: the slice object stands at sl -/
def SlR (X : Cx) (r : V → Option Int → Option Int → Hp → VK → Prop) : Prop :=
  ∀ (pins : List (Addr × Obj)) (s : Shared) (σ : St) (H : Hp) (x : V) (v vl vu : Value) (lo hi : Option Int) (sl : Addr) (Q : VK), Inv X pins σ H s → RelV x v → s.heap.IsSliceOf sl vl vu .none → IsPart vl lo → IsPart vu hi → r x lo hi H Q →
    ∃ T id, typeLookup (.type T) "__getitem__" = pure (some (.builtin id)) ∧ s.TypeIs v T ∧ wpAny (model X.prog X.w) X.A (getItem v (.ref sl)) (EP X pins σ Q) X.xe s
def tSl (r : V → Option Int → Option Int → Hp → VK → Prop) (te : TE) (tl th : TO) : TE := fun σ H Q => te σ H fun x H1 => tl σ H1 fun l H2 => th σ H2 fun u H3 => r x l u H3 Q
/-- a[lo:hi], any a -/
theorem pe_slice {r : V → Option Int → Option Int → Hp → VK → Prop} (hr : SlR X r) (he : PE X e te) (hl : PO X lo tl) (hu : PO X hi th) : PE X (.Subscript e (.Slice lo hi none p2) pos) (tSl r te tl th) := by
  intro pins s σ H Q I h
  refine Subscript_ (thn (he pins s σ H _ I h) fun v s1 ⟨x, H1, I1, r1, q1⟩ => ?_)
  refine wpAny_Slice (thn (hl pins s1 σ H1 _ I1 q1) fun vl s2 ⟨l, H2, I2, pl, q2⟩ => thn (hu pins s2 σ H2 _ I2 q2) fun vu s3 ⟨u, H3, I3, pu, q3⟩ => ?_)
  rw [evalPart_none]
  refine wpAny_pure ?_
  have I4 : Inv X pins σ H3 { s3 with heap := s3.heap.push { cls := .type "slice", data := .fields #[vl, vu, .none] } } := I3.kept (t' := s3.toks) fun b ob q => Heap.get?_push_of_some _ q
  obtain ⟨T, id, hT, ht, hg⟩ := hr pins { s3 with heap := s3.heap.push { cls := .type "slice", data := .fields #[vl, vu, .none] } } σ H3 x v vl vu l u s3.heap.objs.size Q I4 r1 (Heap.IsSliceOf.new ..) pl pu q3
  show wpAny (model X.prog X.w) X.A (subscriptTail e (.Slice lo hi none p2) v (.ref s3.heap.objs.size)) (EP X pins σ Q) X.xe { s3 with heap := s3.heap.push { cls := .type "slice", data := .fields #[vl, vu, .none] } }
  exact tail_any (ops := [.ref s3.heap.objs.size, v]) ht hT hg (by with_unfolding_all rfl)

/-- the items of xs[lo:hi] -/
def cutV (xs : List V) (lo hi : Option Int) : List V := (xs.drop (HT.sIx xs.length 0 lo)).take (HT.sIx xs.length xs.length hi - HT.sIx xs.length 0 lo)
theorem cutV_length (xs : List V) (lo hi : Option Int) : (cutV xs lo hi).length ≤ xs.length := by
  unfold cutV
  rw [List.length_take, List.length_drop]
  omega
/-- t[lo:hi], not the whole of it (the whole would be t itself) -/
def rSlT (K : PySem.W.Frag) : V → Option Int → Option Int → Hp → VK → Prop := fun x lo hi H Q => ∃ a xs, x = .ref a ∧ SqT K H a xs ∧
  ¬ (HT.sIx xs.length 0 lo = 0 ∧ HT.sIx xs.length xs.length hi = xs.length) ∧ ∀ p, H p = none → Q (.ref p) (upd H p (.tup (cutV xs lo hi)))
theorem sl_tup : SlR X (rSlT X.K) := by
  intro pins s σ H x v vl vu lo hi sl Q I rx hs pl pu h
  obtain ⟨a, xs, rfl, hx, hw, q⟩ := h
  cases rx
  obtain ⟨its, r, ht, hz⟩ := I.tuple hx
  have hlen : its.toArray.size = xs.length := by rw [List.size_toArray]; exact r.length.symm
  refine ⟨"tuple", _, PyProof.Rows.slot_tuple_getitem.lookup, ht.typeIs, ?_⟩
  refine HT.getItem_tuple_cut ht hs pl pu (by rw [hlen]; exact hw) ?_ (by rw [hlen]; exact hz)
  rw [hlen]
  refine ⟨.ref s.heap.objs.size, _, I.laid (t' := s.toks) (o := .tup (cutV xs lo hi)) (fun b ob q => Heap.get?_push_of_some _ q) (Nat.le_refl _) ?_, rfl, q _ (I.hok.fresh (Nat.le_refl _))⟩
  exact ⟨Nat.le_trans (cutV_length xs lo hi) hz, _, (r.drop (HT.sIx xs.length 0 lo)).take (HT.sIx xs.length xs.length hi - HT.sIx xs.length 0 lo), IsTupN.new _ _⟩

/-! ### t < u, t + u -/
/-- t + u, t not empty: u empty gives t itself -/
def rCatT (K : PySem.W.Frag) : R2 := fun x y H Q => ∃ a b xs ys, x = .ref a ∧ y = .ref b ∧ SqT K H a xs ∧ SqT K H b ys ∧ xs ≠ [] ∧ xs.length + ys.length ≤ sizeLine ∧
  (ys = [] → Q (.ref a) H) ∧ (ys ≠ [] → ∀ p, H p = none → Q (.ref p) (upd H p (.tup (xs ++ ys))))
theorem Vals.nil_iff {xs : List V} {us : List Value} (r : Vals xs us) : us = [] ↔ xs = [] := by
  cases r with
  | nil => simp
  | cons _ _ => simp
theorem op_catT : OpR X (binaryOp .Add) (rCatT X.K) := by
  intro pins s σ H x y v u Q I rx ry h
  obtain ⟨a, b, xs, ys, rfl, rfl, ha, hb, hx, hz, q1, q2⟩ := h
  cases rx
  cases ry
  obtain ⟨its, r1, p1, _⟩ := I.tuple ha
  obtain ⟨its2, r2, p2, _⟩ := I.tuple hb
  refine HT.cat_tup p1 p2 (fun z => hx (r1.nil_iff.mp z)) (fun z => ⟨.ref a, H, I, rfl, q1 (r2.nil_iff.mp z)⟩) (fun z => ?_) (by rw [← r1.length, ← r2.length]; exact hz)
  refine ⟨.ref s.heap.objs.size, _, I.laid (t' := s.toks) (o := .tup (xs ++ ys)) (fun b ob q => Heap.get?_push_of_some _ q) (Nat.le_refl _) ?_, rfl, q2 (fun w => z (r2.nil_iff.mpr w)) _ (I.hok.fresh (Nat.le_refl _))⟩
  exact ⟨by rw [List.length_append]; exact hz, _, r1.append r2, IsTupN.new _ _⟩
end
end L2

namespace L2
open PySem PySem.Spec PyProof.Rows

/-! ### places -/
/-- the place that an index of any sign means -/
def ixN (n : Nat) (i : Int) : Option Nat := if 0 ≤ i then (if i < n then some i.toNat else none) else if -(n : Int) ≤ i then some (i + n).toNat else none
def atI {α : Type} (xs : List α) (i : Int) : Option α := (ixN xs.length i).bind fun j => xs[j]?
theorem ixN_seq {n : Nat} {i : Int} {j : Nat} (h : ixN n i = some j) : seqIndex? i n = some j ∧ j < n ∧ -(n : Int) ≤ i ∧ i < n := by
  unfold ixN at h
  by_cases h0 : 0 ≤ i
  · rw [if_pos h0] at h
    by_cases h1 : i < n
    · rw [if_pos h1] at h
      have e : i.toNat = j := Option.some.inj h
      exact ⟨by rw [seqIndex_of h0 h1, e], by omega, by omega, h1⟩
    · rw [if_neg h1] at h; cases h
  · rw [if_neg h0] at h
    by_cases h1 : -(n : Int) ≤ i
    · rw [if_pos h1] at h
      have e : (i + n).toNat = j := Option.some.inj h
      exact ⟨by rw [seqIndex_neg (by omega) h1, e], by omega, h1, by omega⟩
    · rw [if_neg h1] at h; cases h
theorem atI_get {α : Type} {xs : List α} {i : Int} {v : α} (h : atI xs i = some v) : ∃ j, seqIndex? i xs.length = some j ∧ xs[j]? = some v ∧ j < xs.length ∧ -(xs.length : Int) ≤ i ∧ i < xs.length := by
  unfold atI at h
  cases e : ixN xs.length i with
  | none => rw [e] at h; cases h
  | some j =>
    rw [e] at h
    obtain ⟨h1, h2, h3, h4⟩ := ixN_seq e
    exact ⟨j, h1, h, h2, h3, h4⟩
theorem atI_nat {α : Type} {xs : List α} {j : Nat} {v : α} (h : xs[j]? = some v) : atI xs (j : Int) = some v := by
  have hj : j < xs.length := (List.getElem?_eq_some_iff.mp h).1
  have e : ixN xs.length (j : Int) = some j := by
    unfold ixN
    rw [if_pos (by omega), if_pos (by omega)]; simp
  unfold atI; rw [e]; exact h
/-! ### what may be subscripted -/
/-- what stands as an index of a plain subscript -/
def PlainIx (b : Expr) : Prop := ∀ o i, subscripted b false o i = operate [o, i] (getItem o i)
/-- a subscript by values -/
def IxR (X : Cx) (r : R2) : Prop :=
  ∀ (value slice : Expr) (pins : List (Addr × Obj)) (s : Shared) (σ : St) (H : Hp) (x y : V) (v u : Value) (Q : VK), Inv X pins σ H s → RelV x v → RelV y u → r x y H Q →
    subscripted slice false v u = operate [v, u] (getItem v u) → wpAny (model X.prog X.w) X.A (subscriptTail value slice v u) (EP X pins σ Q) X.xe s
/-- a call of a builtin's method by values: the receiver, the arguments -/
def MtR (X : Cx) (id : String) (r : V → List V → Hp → VK → Prop) : Prop :=
  ∀ (pins : List (Addr × Obj)) (s : Shared) (σ : St) (H : Hp) (x : V) (xs : List V) (v : Value) (us : List Value) (Q : VK), Inv X pins σ H s → RelV x v → Vals xs us → r x xs H Q →
    wpAny (model X.prog X.w) X.A (call (.builtin id) (v :: us)) (EP X pins σ Q) X.xe s
section
variable {X : Cx} {a b : Expr} {ta tb : TE} {pos : Pos}
/-- a[b] -/
theorem pe_ix {r : R2} (hr : IxR X r) (ha : PE X a ta) (hb : PE X b tb) (hs : PlainIx b) : PE X (.Subscript a b pos) (tOp r ta tb) := by
  intro pins s σ H Q I h
  exact Subscript_ (binT ha hb I h fun v u s2 x y H2 I2 rx ry q => hr a b pins s2 σ H2 x y v u Q I2 rx ry q (hs _ _))

def rIxL (K : PySem.W.Frag) : R2 := fun x y H Q => ∃ p xs i v, x = .ref p ∧ y = .int i ∧ SqL K H p xs ∧ atI xs i = some v ∧ Q v H
def rIxT (K : PySem.W.Frag) : R2 := fun x y H Q => ∃ p xs i v, x = .ref p ∧ y = .int i ∧ SqT K H p xs ∧ atI xs i = some v ∧ Q v H
theorem ix_list : IxR X (rIxL X.K) := by
  intro value slice pins s σ H x y v u Q I rx ry h hs
  obtain ⟨p, xs, i, z, rfl, rfl, hq, he, q⟩ := h
  cases rx
  obtain ⟨t, rfl⟩ := ry
  obtain ⟨its, r, pl, hz⟩ := I.list hq
  obtain ⟨j, h1, h2, h3, h4, h5⟩ := atI_get he
  obtain ⟨w, ew, rw'⟩ := r.get h2
  have hl := r.length
  have hn := line63
  have fin : EP X pins σ Q w s := ⟨z, H, I, rw', q⟩
  by_cases h0 : 0 ≤ i
  · have hj : i.toNat = j := by
      rw [seqIndex_of h0 h5] at h1
      exact Option.some.inj h1
    exact item_listR pl.isList h0 (by omega) (by rw [hj]; simpa using ew) fin hs
  · have hj : (i + (its.toArray.size : Int)).toNat = j := by
      rw [seqIndex_neg (by omega) h4] at h1
      rw [List.size_toArray, ← hl]
      exact Option.some.inj h1
    exact subscriptTail_builtinR (x := w) pl.isList.typeIs slot_list_getitem.lookup
      (wpAny_getItem_list_neg (Q := fun r s' => r = w ∧ EP X pins σ Q r s') pl.isList (by omega) (by rw [List.size_toArray] <;> omega) (by omega) (by rw [hj]; simpa using ew) ⟨rfl, fin⟩) hs
theorem ix_tup : IxR X (rIxT X.K) := by
  intro value slice pins s σ H x y v u Q I rx ry h hs
  obtain ⟨p, xs, i, z, rfl, rfl, hq, he, q⟩ := h
  cases rx
  obtain ⟨t, rfl⟩ := ry
  obtain ⟨its, r, pl, hz⟩ := I.tuple hq
  obtain ⟨j, h1, h2, h3, h4, h5⟩ := atI_get he
  obtain ⟨w, ew, rw'⟩ := r.get h2
  have hl := r.length
  have hn := line63
  have fin : EP X pins σ Q w s := ⟨z, H, I, rw', q⟩
  exact subscriptTail_builtinR (x := w) pl.typeIs slot_tuple_getitem.lookup
    (getItem_tuple (j := j) (Q := fun r s' => r = w ∧ EP X pins σ Q r s') pl (by omega) (by omega) (by rw [List.size_toArray, ← hl]; exact h1) (by simpa using ew) ⟨rfl, fin⟩) hs
/-! ### xs[i] = v, any sign -/
/-- the list's object behind a store -/
theorem mapSeq_set (its : List Value) (n j : Nat) (u : Value) : Obj.mapSeq (·.setIfInBounds j u) { cls := .type "list", data := .seq its.toArray n } = { cls := .type "list", data := .seq (its.set j u).toArray n } := by
  simp [Obj.mapSeq]
theorem Inv.lst {pins : List (Addr × Obj)} {σ : St} {H : Hp} {s : Shared} {p : Addr} {xs : List V} (I : Inv X pins σ H s) (h : H p = some (.lst xs)) :
    ∃ (its : List Value) (n : Nat), Vals xs its ∧ s.heap.get? p = some { cls := .type "list", data := .seq its.toArray n } ∧ xs.length ≤ sizeLine := by
  obtain ⟨z, its, n, r, e⟩ := I.hok p _ h
  exact ⟨its, n, r, e, z⟩
/-- the list at p is written by an update of its object -/
theorem Inv.lstUpd {pins : List (Addr × Obj)} {σ : St} {H : Hp} {s : Shared} {p : Addr} {xs ys : List V} {its its' : List Value} {n n' : Nat} {f : Obj → Obj} (I : Inv X pins σ H s) (h : H p = some (.lst xs))
    (ho : s.heap.get? p = some { cls := .type "list", data := .seq its.toArray n }) (hf : f { cls := .type "list", data := .seq its.toArray n } = { cls := .type "list", data := .seq its'.toArray n' }) (r : Vals ys its') (hz : ys.length ≤ sizeLine) (t : Nat) :
    Inv X pins σ (upd H p (.lst ys)) { s with heap := s.heap.update p f, toks := t } := by
  have e : (s.heap.update p f).get? p = some { cls := .type "list", data := .seq its'.toArray n' } := by
    rw [Heap.get?_update_self f ho (by rw [hf] <;> rfl), hf]
  refine I.write (x := p) (e := p) (by rw [h]; trivial) (.inl rfl) (fun b u hb q => (Heap.get?_update_other _ _ (Ne.symm hb)).trans q) ⟨_, e⟩ ?_
  exact ⟨hz, its', n', r, e⟩
def rSetL : V → V → V → Hp → (Hp → Prop) → Prop := fun o i v H Q => ∃ p xs k j, o = .ref p ∧ i = .int k ∧ H p = some (.lst xs) ∧ ixN xs.length k = some j ∧ Q (upd H p (.lst (xs.set j v)))
theorem set_list : PSet X rSetL := by
  intro pins s σ H o i v ov iv u Q I ro ri rv h
  obtain ⟨p, xs, k, j, rfl, rfl, hp, hj, q⟩ := h
  cases ro
  obtain ⟨t, rfl⟩ := ri
  obtain ⟨its, n, r, ho, hz⟩ := I.lst hp
  obtain ⟨h1, h2, h3, h4⟩ := ixN_seq hj
  have hl := r.length
  have hn := line63
  have I' : Inv X pins σ (upd H p (.lst (xs.set j v))) { s with heap := s.heap.update p (Obj.mapSeq (·.setIfInBounds j u)) } :=
    I.lstUpd hp ho (mapSeq_set its n j u) (r.set rv j) (by rw [List.length_set]; exact hz) s.toks
  by_cases h0 : 0 ≤ k
  · have hk : k.toNat = j := by
      rw [seqIndex_of h0 h4] at h1
      exact Option.some.inj h1
    exact PySem.W.ki_setAt ho h0 (by omega) (by rw [List.size_toArray, ← hl]; exact h4) (by rw [hk]; exact ⟨_, I', q⟩)
  · have hk : (k + (its.toArray.size : Int)).toNat = j := by
      rw [seqIndex_neg (by omega) h3] at h1
      rw [List.size_toArray, ← hl]
      exact Option.some.inj h1
    exact PySem.W.ki_setBack ho (by omega) (by rw [List.size_toArray, ← hl]; exact h3) (by omega) (by rw [hk]; exact ⟨_, I', q⟩)

/-! ### slices -/
/-! ### in, not in: flat items -/
def flatV : V → Bool
  | .non => true
  | .bl _ => true
  | .int _ => true
  | .str _ => true
  | _ => false
/-- == of flat values -/
def eqV : V → V → Bool
  | .non, .non => true
  | .bl a, .bl b => a == b
  | .bl a, .int b => (if a then 1 else 0) == b
  | .int a, .bl b => a == (if b then 1 else 0)
  | .int a, .int b => a == b
  | .str a, .str b => a == b
  | _, _ => false
theorem eqAt_V {A : Around} {s : Shared} {y x : V} {u v : Value} (ry : RelV y u) (rx : RelV x v) (fy : flatV y = true) (fx : flatV x = true) : SeqAt.EqAt A s u v (eqV y x) := by
  cases y with
  | non =>
    cases ry
    cases x with
    | non => cases rx; exact SeqAt.EqAt.same _
    | bl b => cases rx; exact SeqAt.EqAt.none_bool b
    | int b => obtain ⟨t, rfl⟩ := rx; exact SeqAt.EqAt.none_int b t
    | str b => obtain ⟨t, rfl⟩ := rx; exact SeqAt.EqAt.none_str b t
    | _ => exact absurd (show false = true from fx) Bool.false_ne_true
  | bl a =>
    cases ry
    cases x with
    | non => cases rx; exact SeqAt.EqAt.bool_none a
    | bl b => cases rx; exact SeqAt.EqAt.bool_bool a b
    | int b => obtain ⟨t, rfl⟩ := rx; exact SeqAt.EqAt.bool_int a b t
    | str b => obtain ⟨t, rfl⟩ := rx; exact SeqAt.EqAt.bool_str a b t
    | _ => exact absurd (show false = true from fx) Bool.false_ne_true
  | int a =>
    obtain ⟨t', rfl⟩ := ry
    cases x with
    | non => cases rx; exact SeqAt.EqAt.int_none a t'
    | bl b => cases rx; exact SeqAt.EqAt.int_bool a t' b
    | int b => obtain ⟨t, rfl⟩ := rx; exact SeqAt.EqAt.int_int a t' b t
    | str b => obtain ⟨t, rfl⟩ := rx; exact SeqAt.EqAt.int_str a t' b t
    | _ => exact absurd (show false = true from fx) Bool.false_ne_true
  | str a =>
    obtain ⟨t', rfl⟩ := ry
    cases x with
    | non => cases rx; exact SeqAt.EqAt.str_none a t'
    | bl b => cases rx; exact SeqAt.EqAt.str_bool a t' b
    | int b => obtain ⟨t, rfl⟩ := rx; exact SeqAt.EqAt.str_int a t' b t
    | str b => obtain ⟨t, rfl⟩ := rx; exact SeqAt.EqAt.str_str a t' b t
    | _ => exact absurd (show false = true from fx) Bool.false_ne_true
  | _ => exact absurd (show false = true from fy) Bool.false_ne_true
/-! ### len, list(x), tuple(x) of any list or tuple that is read -/
theorem call_len_seq : CallR X (.builtin "len") (fun xs H Q => ∃ p ys, xs = [.ref p] ∧ (SqL X.K H p ys ∨ SqT X.K H p ys) ∧ Q (.int ys.length) H) := by
  intro pins s σ H xs us Q I r h
  obtain ⟨p, ys, rfl, hq, q⟩ := h
  obtain ⟨u, rfl, rx⟩ := vals1 r
  cases rx
  have hn := line63
  rcases hq with hq | hq
  · obtain ⟨its, r', pl, hz⟩ := I.list hq
    have hlen := r'.length
    exact Calls.call_len_list pl.isList (by simp only [List.size_toArray] <;> omega) ⟨.int ys.length, H, I.tok _, ⟨s.toks + 1, by rw [List.size_toArray, hlen]⟩, q⟩
  · obtain ⟨its, r', pl, hz⟩ := I.tuple hq
    have hlen := r'.length
    exact len_tuple pl (by simp only [List.size_toArray] <;> omega) ⟨.int ys.length, H, I.tok _, ⟨s.toks + 1, by rw [List.size_toArray, hlen]⟩, q⟩
theorem call_list_of : CallR X (.type "list") (fun xs H Q => ∃ p ys, xs = [.ref p] ∧ (SqL X.K H p ys ∨ SqT X.K H p ys) ∧ ∀ l, H l = none → Q (.ref l) (upd H l (.lst ys))) := by
  intro pins s σ H xs us Q I r h
  obtain ⟨p, ys, rfl, hq, q⟩ := h
  obtain ⟨u, rfl, rx⟩ := vals1 r
  cases rx
  have fin : ∀ (its : List Value), Vals ys its → ys.length ≤ sizeLine → ∀ (h' : Heap) (c' : Nat), (∀ b o', s.heap.get? b = some o' → h'.get? b = some o') →
      h'.get? s.heap.objs.size = some { cls := .type "list", dict := none, data := .seq its.toArray c', slots := #[] } → EP X pins σ Q (.ref s.heap.objs.size) { s with heap := h' } := fun its r' hz h' c' kp e =>
    ⟨.ref s.heap.objs.size, _, I.laid (t' := s.toks) kp (Nat.le_refl _) (show ObjOk X.prog X.w _ h' _ (.lst ys) from ⟨hz, its, c', r', e⟩), rfl, q _ (I.hok.fresh (Nat.le_refl _))⟩
  rcases hq with hq | hq
  · obtain ⟨its, r', pl, hz⟩ := I.list hq
    have hlen := r'.length
    obtain ⟨o, ho, hc, n, hd⟩ := pl.isList
    exact call_list_seq p (.inl rfl) ho hc hd (fun h' c' kp e => fin its r' hz h' c' kp e) (by simp only [List.size_toArray] <;> omega)
  · obtain ⟨its, r', pl, hz⟩ := I.tuple hq
    have hlen := r'.length
    obtain ⟨o, ho, hc, n, hd⟩ := pl
    exact call_list_seq p (.inr rfl) ho hc hd (fun h' c' kp e => fin its r' hz h' c' kp e) (by simp only [List.size_toArray] <;> omega)
theorem call_tuple_of : CallR X (.type "tuple") (fun xs H Q => ∃ p ys, xs = [.ref p] ∧ ((SqL X.K H p ys ∧ ∀ l, H l = none → Q (.ref l) (upd H l (.tup ys))) ∨ (SqT X.K H p ys ∧ Q (.ref p) H))) := by
  intro pins s σ H xs us Q I r h
  obtain ⟨p, ys, rfl, h⟩ := h
  obtain ⟨u, rfl, rx⟩ := vals1 r
  cases rx
  rcases h with ⟨hq, q⟩ | ⟨hq, q⟩
  · obtain ⟨its, r', pl, hz⟩ := I.list hq
    have hlen := r'.length
    refine call_tuple_list pl.isList (fun h' kp => ?_) (by simp only [List.size_toArray] <;> omega)
    have I1 : Inv X pins σ H { s with heap := h' } := I.kept (t' := s.toks) kp
    have I2 : Inv X pins σ (upd H h'.objs.size (.tup ys)) { s with heap := h'.push { cls := .type "tuple", data := .seq its.toArray } } :=
      I1.laid (t' := s.toks) (fun b o e => Heap.get?_push_of_some _ e) (Nat.le_refl _) (show ObjOk X.prog X.w _ _ _ (.tup ys) from ⟨hz, its, r', IsTupN.new _ _⟩)
    exact ⟨.ref h'.objs.size, _, I2, rfl, q _ (I1.hok.fresh (Nat.le_refl _))⟩
  · obtain ⟨its, r', pl, hz⟩ := I.tuple hq
    exact call_tuple_same pl ⟨.ref p, H, I, rfl, q⟩

/-! ### the call of a builtin's method: o.m(..) -/
/-- the value is of that builtin type -/
def tyV (K : PySem.W.Frag) (T : String) (x : V) (H : Hp) : Prop := match x with
  | .str _ => T = "str"
  | .int _ => T = "int"
  | .ref p => (T = "list" ∧ ∃ xs, SqL K H p xs) ∨ (T = "tuple" ∧ ∃ o, K.lookup p = some o ∧ o.cls = .type "tuple" ∧ o.dict = none) ∨
      (T = "dict" ∧ ((∃ kvs, H p = some (.dK kvs)) ∨ ∃ kvs, H p = some (.dT kvs))) ∨ (T = "set" ∧ ∃ S n, H p = some (.set S n))
  | _ => False
theorem tyV_is {pins : List (Addr × Obj)} {σ : St} {H : Hp} {s : Shared} {T : String} {x : V} {v : Value} (I : Inv X pins σ H s) (r : RelV x v) (ty : tyV X.K T x H) :
    s.TypeIs v T ∧ ∀ a, v = .ref a → ∃ ob, s.heap.get? a = some ob ∧ ob.dict = none := by
  cases x with
  | str z =>
    obtain ⟨t, rfl⟩ := r
    cases (show T = "str" from ty)
    exact ⟨typeIs_str s z t, fun _ e => nomatch e⟩
  | int i =>
    obtain ⟨t, rfl⟩ := r
    cases (show T = "int" from ty)
    exact ⟨typeIs_int s i t, fun _ e => nomatch e⟩
  | ref p =>
    cases r
    rcases ty with ⟨rfl, xs, hq⟩ | ⟨rfl, o, hk, hc, hd⟩ | ⟨rfl, hk⟩ | ⟨rfl, S, n, hk⟩
    · obtain ⟨its, _, pl, _⟩ := I.list hq
      refine ⟨pl.isList.typeIs, fun a e => ?_⟩
      cases e
      obtain ⟨o, n, e, c, hd, _⟩ := pl
      exact ⟨o, e, hd⟩
    · refine ⟨⟨o, I.kIn p o hk, hc⟩, fun a e => ?_⟩
      cases e
      exact ⟨o, I.kIn _ o hk, hd⟩
    · have z : ∃ o, s.heap.get? p = some o ∧ o.ExactDict := by
        rcases hk with ⟨kvs, hk⟩ | ⟨kvs, hk⟩
        · obtain ⟨_, _, _, _, o, _, _, e, ex, _⟩ := I.hok p _ hk
          exact ⟨o, e, ex⟩
        · obtain ⟨_, _, _, _, o, _, _, e, ex, _⟩ := I.hok p _ hk
          exact ⟨o, e, ex⟩
      obtain ⟨o, e, ex⟩ := z
      refine ⟨⟨o, e, ex.1⟩, fun a e2 => ?_⟩
      cases e2
      exact ⟨o, e, ex.2.1⟩
    · obtain ⟨o, _, _, _, e, ex, _⟩ := I.hok p _ hk
      refine ⟨⟨o, e, ex.1⟩, fun a e2 => ?_⟩
      cases e2
      exact ⟨o, e, ex.2.1⟩
  | _ => exact False.elim ty
def tBM (K : PySem.W.Frag) (T : String) (r : V → List V → Hp → VK → Prop) (to : TE) (t : TA) : TE := fun σ H Q => to σ H fun x H1 => tyV K T x H1 ∧ t σ H1 fun xs H2 => r x xs H2 Q
variable {o e : Expr} {es : List Expr} {to : TE} {t : TA} {name : Str} {apos cpos : Pos} {T id : String} {r : V → List V → Hp → VK → Prop}
theorem pe_bm (pa : PlainAttrs T) (slot : Slot T name id) (hty : typeOf (.builtin id) = pure (.type "method_descriptor")) (hm : MtR X id r) (ho : PE X o to) (ha : PA X (e :: es) t)
    (hbase : attributeBase o name X.env (eval o X.env) = eval o X.env := by rfl)
    (hfew : ((backTo cpos (starEach (e :: es) X.env)).all (fun x => !x.1) && (backToKw cpos (keywordEach [] X.env)).all (fun x => x.1.isSome)
      && decide ((e :: es).length + ([] : List Keyword).length + (if ([] : List Keyword).isEmpty then 0 else 1) < 30)) = true := by rfl)
    (hline : (apos.endLine == cpos.line) = true := by rfl) (hs : starEach (e :: es) X.env = (false, eval e X.env) :: starEach es X.env := by rfl) (hplain : (backTo cpos (starEach es X.env)).any (·.1) = false := by rfl) :
    PE X (.Call (.Attribute o name apos) (e :: es) [] cpos) (tBM X.K T r to t) := by
  intro pins s σ H Q I h
  refine wpAny_Call_method_late hbase hfew hline rfl (thn (ho pins s σ H _ I h) fun v s1 ⟨x, H1, I1, r1, ty, q1⟩ => ?_)
  obtain ⟨h1, h2⟩ := tyV_is I1 r1 ty
  refine ⟨T, id, pa, slot, hty, h1, h2, ?_⟩
  have hA := ha cpos pins s1 σ H1 _ I1 q1
  rw [hs] at hA ⊢
  refine Calls.callWith_builtin (by show (false || (backTo cpos (starEach es X.env)).any (·.1)) = false; rw [hplain] <;> rfl) (Calls.evalArgs_plain ?_)
  exact thn hA fun us s2 ⟨vs, H2, I2, r2, q2⟩ => hm pins s2 σ H2 x vs v us Q I2 r1 r2 q2
/- xs.append(e), list.index on a module's tuple .. are MtR facts of 06m -/
end
end L2

namespace L2
open PySem PySem.Spec PyProof.Rows

def MtM (X : Cx) (id : String) (r : V → List V → Hp → VK → Prop) : Prop :=
  ∀ (pins : List (Addr × Obj)) (s : Shared) (σ : St) (H : Hp) (x : V) (xs : List V) (v : Value) (us : List Value) (Q : VK), Inv X pins σ H s → RelV x v → Vals xs us → r x xs H Q →
    wpAny (model X.prog X.w) X.A (call (.builtin id) (v :: us)) (EP X pins σ Q) X.xe s

/-! ### lists of values -/
theorem Vals.one : ∀ {x : V} {us : List Value}, Vals [x] us → ∃ u, us = [u] ∧ RelV x u
  | _, _, .cons r .nil => ⟨_, rfl, r⟩
theorem Vals.reverse {xs : List V} {us : List Value} (h : Vals xs us) : Vals xs.reverse us.reverse := by
  induction h with
  | nil => exact .nil
  | cons r t ih => rw [List.reverse_cons, List.reverse_cons]; exact Vals.append ih (.cons r .nil)
theorem Vals.rep {xs : List V} {us : List Value} (h : Vals xs us) : ∀ k : Nat, Vals (List.replicate k xs).flatten (List.replicate k us).flatten
  | 0 => .nil
  | k + 1 => by
    rw [List.replicate_succ, List.replicate_succ, List.flatten_cons, List.flatten_cons]
    exact Vals.append h (Vals.rep h k)
section
variable {X : Cx} {pins : List (Addr × Obj)} {σ : St} {H : Hp} {s : Shared} {l b : Addr} {xs ys zs : List V}

/-! ### the two steps: a tracked list is rewritten, a new list is laid -/
theorem Inv.lset {its its' : List Value} {n : Nat} {f : Array Value → Array Value} {t' : Nat} (I : Inv X pins σ H s) (hH : H l = some (.lst xs))
    (e : s.heap.get? l = some { cls := .type "list", data := .seq its.toArray n }) (hf : f its.toArray = its'.toArray) (hv : Vals ys its') (hz : ys.length ≤ sizeLine) :
    Inv X pins σ (upd H l (.lst ys)) { s with heap := s.heap.update l (Obj.mapSeq f), toks := t' } := by
  have q := PySem.IsL.update e f
  rw [hf] at q
  refine I.write (x := l) (e := l) (by rw [hH]; exact trivial) (.inl rfl) (fun b' u hb hu => (Heap.get?_update_other s.heap (Obj.mapSeq f) (Ne.symm hb)).trans hu) ⟨_, q⟩ ?_
  exact ⟨hz, its', _, hv, q⟩
theorem Inv.lnew {its : List Value} {t' : Nat} (I : Inv X pins σ H s) (hv : Vals ys its) (hz : ys.length ≤ sizeLine) :
    Inv X pins σ (upd H s.heap.objs.size (.lst ys)) { s with heap := s.heap.push { cls := .type "list", data := .seq its.toArray }, toks := t' } :=
  I.laid (fun _ _ q => Heap.get?_push_of_some _ q) (Nat.le_refl _) ⟨hz, its, 0, hv, Heap.get?_push_size _ rfl⟩
theorem Inv.fresh (I : Inv X pins σ H s) : H s.heap.objs.size = none := I.hok.fresh (Nat.le_refl _)
theorem Inv.lstM (I : Inv X pins σ H s) (hH : H l = some (.lst xs)) : xs.length ≤ sizeLine ∧ ∃ (its : List Value) (n : Nat), Vals xs its ∧ xs.length = its.length ∧ s.heap.get? l = some { cls := .type "list", data := .seq its.toArray n } := by
  obtain ⟨z, its, n, r, e⟩ := I.hok l _ hH
  exact ⟨z, its, n, r, r.length, e⟩

end

section
variable {X : Cx}

/-! ### methods -/
def rAppend : V → List V → Hp → VK → Prop := fun x vs H Q => ∃ l xs y, x = .ref l ∧ vs = [y] ∧ H l = some (.lst xs) ∧ xs.length < sizeLine ∧ Q .non (upd H l (.lst (xs ++ [y])))
theorem mt_append : MtM X "list.append" rAppend := by
  intro pins s σ H x vs v us Q I rx rv h
  obtain ⟨l, xs, y, rfl, rfl, hH, hz, q⟩ := h
  cases rx
  obtain ⟨u, rfl, ru⟩ := rv.one
  obtain ⟨z, its, n, r, hl, e⟩ := I.lstM hH
  refine call_meets F.slot_list_append ⟨_, e, rfl⟩ F.entry_list_append (F.args_list_append_2 _ _) (PySem.list_append l its.toArray n u (by rw [List.size_toArray]; omega)) ⟨e, ?_⟩
  refine ⟨.non, _, I.lset (its' := its ++ [u]) hH e (by simp) (r.append (.cons ru .nil)) ?_, rfl, q⟩
  rw [List.length_append, List.length_singleton]
  omega

/-! ### list + list, list += list, list * int -/
def rCat : R2 := fun x y H Q => ∃ l b xs zs, x = .ref l ∧ y = .ref b ∧ H l = some (.lst xs) ∧ H b = some (.lst zs) ∧ xs.length + zs.length ≤ sizeLine ∧ ∀ p, H p = none → Q (.ref p) (upd H p (.lst (xs ++ zs)))
theorem op_cat : OpR X (binaryOp .Add) rCat := by
  intro pins s σ H x y v u Q I rx ry h
  obtain ⟨l, b, xs, zs, rfl, rfl, hH, hB, hz, q⟩ := h
  cases rx
  cases ry
  obtain ⟨z, its, n, r, hl, e⟩ := I.lstM hH
  obtain ⟨z2, its2, n2, r2, hl2, e2⟩ := I.lstM hB
  refine PySem.P.add_list e e2 ?_ (by rw [List.size_toArray, List.size_toArray]; omega)
  have ea : its.toArray ++ its2.toArray = (its ++ its2).toArray := by simp
  rw [ea]
  exact ⟨.ref _, _, I.lnew (t' := s.toks) (r.append r2) (by rw [List.length_append]; omega), rfl, q _ I.fresh⟩
theorem len_rep {α : Type} (xs : List α) (k : Nat) : (List.replicate k xs).flatten.length = k * xs.length := by
  induction k with
  | zero => simp
  | succ k ih => rw [List.replicate_succ, List.flatten_cons, List.length_append, ih, Nat.succ_mul, Nat.add_comm]
/-! ### del xs[i] -/
end

/-! ### xs[a:b] = ys -/

end L2
namespace L2
open PySem PySem.Spec PyProof.Rows

/-! ### lists of pairs as tables -/
section
variable {κ : Type} [DecidableEq κ]
/-- in its place, or at the end -/
def putK (kvs : List (κ × V)) (k : κ) (v : V) : List (κ × V) :=
  if (kvs.any fun kv => decide (kv.1 = k)) = true then kvs.map (fun kv => if kv.1 = k then (kv.1, v) else kv) else kvs ++ [(k, v)]
theorem length_putK (kvs : List (κ × V)) (k : κ) (v : V) : (putK kvs k v).length ≤ kvs.length + 1 := by
  unfold putK
  split
  · rw [List.length_map]; omega
  · rw [List.length_append, List.length_cons, List.length_nil]; omega
theorem KV.any {kvs : List (κ × V)} {vs : List (κ × Value)} (r : KV kvs vs) (k : κ) : (kvs.any fun kv => decide (kv.1 = k)) = vs.any fun kv => decide (kv.1 = k) := by
  unfold KV at r
  induction r with
  | nil => rfl
  | cons h t ih => rw [List.any_cons, List.any_cons, ih, h.1]
theorem KV.repl {kvs : List (κ × V)} {vs : List (κ × Value)} (r : KV kvs vs) (k : κ) {y : V} {u : Value} (ry : RelV y u) :
    KV (kvs.map fun kv => if kv.1 = k then (kv.1, y) else kv) (vs.map fun kv => if kv.1 = k then (kv.1, u) else kv) := by
  unfold KV at r ⊢
  induction r with
  | nil => exact .nil
  | @cons p q ps qs h t ih =>
    rw [List.map_cons, List.map_cons]
    refine .cons ?_ ih
    obtain ⟨h1, h2⟩ := h
    by_cases e : p.1 = k
    · rw [if_pos e, if_pos (h1.symm.trans e)]; exact ⟨h1, ry⟩
    · rw [if_neg e, if_neg (fun z => e (h1.trans z))]; exact ⟨h1, h2⟩
theorem KV.put {kvs : List (κ × V)} {vs : List (κ × Value)} (r : KV kvs vs) (k : κ) {y : V} {u : Value} (ry : RelV y u) : KV (putK kvs k y) (stored vs k u) := by
  unfold putK stored
  rw [r.any k]
  by_cases e : (vs.any fun kv => decide (kv.1 = k)) = true
  · rw [if_pos e, if_pos e]; exact r.repl k ry
  · rw [if_neg e, if_neg e]; exact Paired.snoc r ⟨rfl, ry⟩
end


/-! ### a tracked dict, its keys ints and texts or tuples of these -/
theorem kV_is {P : Program} {w : World} {k : Key} {u : Value} (r : RelV (kV k) u) : (mixKind P w).is k u = true := by
  cases k with
  | inl i => obtain ⟨t, e⟩ := (show ∃ t, u = Value.int i t from r); subst e; exact mixKind_int P w i t
  | inr x => obtain ⟨t, e⟩ := (show ∃ t, u = Value.str x t from r); subst e; exact mixKind_str P w x t
section
variable {P : Program} {w : World} {H : Hp} {h : Heap} {a : Addr}
theorem rd_of {u : HO} (ok : HOk P w H h) (e : Rd H a u) : ObjOk P w H h a u := e.ok ok
theorem dk_rd {kvs : List (Key × V)} (ok : HOk P w H h) (e : Rd H a (.dK kvs)) : kvs.length ≤ sizeLine ∧ (a == sysModules) = false ∧ ∃ vs, KV kvs vs ∧ h.DictOf (mixKind P w) a vs :=
  show ObjOk P w H h a (.dK kvs) from rd_of ok e
theorem dk_of {kvs : List (Key × V)} (ok : HOk P w H h) (e : H a = some (.dK kvs)) : kvs.length ≤ sizeLine ∧ (a == sysModules) = false ∧ ∃ vs, KV kvs vs ∧ h.DictOf (mixKind P w) a vs := dk_rd ok (.inl e)
end

section
variable {X : Cx} {pins : List (Addr × Obj)} {σ : St} {H : Hp} {s : Shared} {a : Addr} {y v : V} {u r : Value} {o : Option V} {A : Around} {E : Value → Shared → Prop}

theorem Inv.big (I : Inv X pins σ H s) : sysModules < s.heap.objs.size := by
  have h : mainGlobals < s.heap.objs.size := (I.mod.glob.keeps I.bk).lt
  exact Nat.lt_trans (by decide) h

/-- a dict's object is replaced -/
theorem d_write {h' : Heap} {t' : Nat} {ob : HO} (I : Inv X pins σ H s) (mu : Mut (H a)) (hs : Heap.SameBut a s.heap h') (he : ∃ q, h'.get? a = some q) (new : ObjOk X.prog X.w (upd H a ob) h' a ob) :
    Inv X pins σ (upd H a ob) { s with heap := h', toks := t' } :=
  I.write (x := a) (e := a) mu (.inl rfl) (fun b q hb z => (hs.2 b hb).trans z) he new
theorem dk_new {P : Program} {w : World} {H' : Hp} {h' : Heap} {kvs : List (Key × V)} {vs : List (Key × Value)} (z : kvs.length ≤ sizeLine) (hd : (a == sysModules) = false) (rel : KV kvs vs) (dd : h'.DictOf (mixKind P w) a vs) :
    ObjOk P w H' h' a (.dK kvs) := ⟨z, hd, vs, rel, dd⟩
end



/-! ### readings and rules -/


/-! ### displays -/
theorem dk_empty {P : Program} {w : World} {H : Hp} (h : Heap) (hb : sysModules < h.objs.size) : ObjOk P w H (h.push { cls := .type "dict", data := .dict #[] }) h.objs.size (.dK []) :=
  ⟨Nat.zero_le _, beq_eq_false_iff_ne.mpr (Ne.symm (Nat.ne_of_lt hb)), [], .nil, Heap.DictOf.new h⟩
/-- {}, to be a dict of the kind that is wanted -/
def tDNewK : TE := fun _ H Q => ∀ p, H p = none → Q (.ref p) (upd H p (.dK []))
section
variable {X : Cx} {pos : Pos}
theorem pe_dnewK : PE X (.Dict [] [] pos) tDNewK := fun pins s σ H Q I h =>
  wpAny_Dict_empty ⟨.ref s.heap.objs.size, _, I.laid (a := s.heap.objs.size) (o := .dK []) (t' := s.toks) (fun _ _ q => Heap.get?_push_of_some _ q) (Nat.le_refl _) (dk_empty s.heap I.big), rfl, h _ (I.hok.fresh (Nat.le_refl _))⟩
end

/-- the pairs of a display, from the left -/
def tPairs : List (TE × TE) → St → Hp → (List (V × V) → Hp → Prop) → Prop
  | [], _, H, Q => Q [] H
  | (tk, tv) :: r, σ, H, Q => tk σ H fun x H1 => tv σ H1 fun y H2 => tPairs r σ H2 fun ps H3 => Q ((x, y) :: ps) H3
abbrev VV : List (V × V) → List (Value × Value) → Prop := Paired fun p q => RelV p.1 q.1 ∧ RelV p.2 q.2
def PPs (X : Cx) (pos : Pos) (keys : List (Option Expr)) (values : List Expr) (trs : List (TE × TE)) : Prop :=
  ∀ (pins : List (Addr × Obj)) (s : Shared) (σ : St) (H : Hp) (Q : List (V × V) → Hp → Prop), Inv X pins σ H s → tPairs trs σ H Q →
    wpAny (model X.prog X.w) X.A (evalPairs (pairTrees keys values X.env pos)) (fun vs s' => ∃ ps H', Inv X pins σ H' s' ∧ VV ps vs ∧ Q ps H') X.xe s
theorem pps_nil {X : Cx} {pos : Pos} : PPs X pos [] [] [] := fun pins s σ H Q I h => pairTrees_nil_walk ⟨[], H, I, .nil, h⟩
theorem pps_cons {X : Cx} {pos : Pos} {k v : Expr} {ks : List (Option Expr)} {vs : List Expr} {tk tv : TE} {trs : List (TE × TE)} (hk : PE X k tk) (hv : PE X v tv) (hr : PPs X pos ks vs trs) :
    PPs X pos (some k :: ks) (v :: vs) ((tk, tv) :: trs) := fun pins s σ H Q I h =>
  pairTrees_cons_walk (thn (hk pins s σ H _ I h) fun u s1 ⟨x, H1, I1, rx, q1⟩ => thn (hv pins s1 σ H1 _ I1 q1) fun w2 s2 ⟨y, H2, I2, ry, q2⟩ =>
    thn (hr pins s2 σ H2 _ I2 q2) fun ws s3 ⟨ps, H3, I3, rel, q3⟩ => ⟨(x, y) :: ps, H3, I3, .cons ⟨rx, ry⟩ rel, q3⟩)

def mergeK (kvs more : List (Key × V)) : List (Key × V) := more.foldl (fun acc kv => putK acc kv.1 kv.2) kvs
theorem KV.merge : ∀ {more : List (Key × V)} {rs : List (Key × Value)} {kvs : List (Key × V)} {vs : List (Key × Value)}, KV more rs → KV kvs vs → KV (mergeK kvs more) (merged vs rs) := by
  intro more rs kvs vs r
  unfold KV at r
  induction r generalizing kvs vs with
  | nil => intro q; exact q
  | @cons p q ps qs h t ih =>
    intro r0
    have e : KV (putK kvs p.1 p.2) (stored vs q.1 q.2) := by
      have := r0.put p.1 h.2
      rw [← h.1]; exact this
    exact ih e
theorem length_mergeK : ∀ (more kvs : List (Key × V)), (mergeK kvs more).length ≤ kvs.length + more.length
  | [], kvs => by show kvs.length ≤ kvs.length + 0; omega
  | p :: r, kvs => by
    have h1 := length_mergeK r (putK kvs p.1 p.2)
    have h2 := length_putK kvs p.1 p.2
    show (mergeK (putK kvs p.1 p.2) r).length ≤ _
    rw [List.length_cons]; omega
theorem carries_of {P : Program} {w : World} : ∀ {kvs : List (Key × V)} {ws : List (Value × Value)}, VV (kvs.map fun kv => (kV kv.1, kv.2)) ws → ∃ rs, Carries (mixKind P w) ws rs ∧ KV kvs rs
  | [], _, r => by rw [List.map_nil] at r; cases r; exact ⟨[], True.intro, .nil⟩
  | p :: kvs, _, r => by
    rw [List.map_cons] at r
    cases r with
    | @cons a b as bs h t =>
      obtain ⟨rs, c, q⟩ := carries_of (P := P) (w := w) t
      obtain ⟨b1, b2⟩ := b
      exact ⟨(p.1, b2) :: rs, ⟨kV_is h.1, rfl, c⟩, .cons ⟨rfl, h.2⟩ q⟩
/-- {k: v, ..} with keys ints and texts; the new dict stands empty while the pairs are made -/
def tDisp (trs : List (TE × TE)) : TE := fun σ H Q => ∀ p, H p = none → tPairs trs σ (upd H p (.dK [])) fun ps H2 => H2 p = some (.dK []) ∧ ∃ kvs : List (Key × V), ps = kvs.map (fun kv => (kV kv.1, kv.2)) ∧ kvs.length ≤ 15 ∧ Q (.ref p) (upd H2 p (.dK (mergeK [] kvs)))
theorem pe_disp {X : Cx} {pos : Pos} {keys : List (Option Expr)} {values : List Expr} {trs : List (TE × TE)} (h : PPs X pos keys values trs) (hall : keys.all (·.isSome) = true) (hl : keys.length = values.length) (h0 : keys ≠ [])
    (h15 : keys.length ≤ 15) : PE X (.Dict keys values pos) (tDisp trs) := by
  intro pins s σ H Q I q
  have hn := I.hok.fresh (Nat.le_refl s.heap.objs.size)
  have I1 := I.laid (a := s.heap.objs.size) (o := .dK []) (h' := s.heap.push { cls := .type "dict", data := .dict #[] }) (t' := s.toks) (fun _ _ q => Heap.get?_push_of_some _ q) (Nat.le_refl _) (dk_empty s.heap I.big)
  refine wpAny_Dict_walk (knd := mixKind X.prog X.w) hall hl h0 h15 (thn (h pins _ σ _ _ I1 (q _ hn)) fun ws s2 ⟨ps, H2, I2, rel, e, kvs, ep, lk, q2⟩ => ?_)
  subst ep
  obtain ⟨rs, c, rk⟩ := carries_of (P := X.prog) (w := X.w) rel
  obtain ⟨z, hd, vs0, r0, dd⟩ := dk_of I2.hok e
  cases r0
  refine ⟨rs, c, dd, fun h' dd' hs => ⟨.ref s.heap.objs.size, _, ?_, rfl, q2⟩⟩
  have hz : (mergeK [] kvs).length ≤ sizeLine := by
    have h1 := length_mergeK kvs []
    rw [List.length_nil] at h1
    rw [sizeLine_eq]; omega
  have he : ∃ q, h'.get? s.heap.objs.size = some q := let ⟨q, _, _, hq, _⟩ := dd'; ⟨q, hq⟩
  exact d_write I2 (by rw [e]; exact True.intro) hs he (dk_new hz hd (rk.merge .nil) dd')


/-! ### methods -/


/-! ### dict(d): a copy -/


end L2

namespace Att
open PySem PySem.W PySem.Calls PyProof.Rows

/-! ### the script -/
theorem ints_of_wellAll {P : Params} {h : Heap} : ∀ (ns : List Int) (vs : List Value), WellAll P h vs (ns.map WData.int) → IntsAre vs ns := by
  intro ns
  induction ns with
  | nil =>
    intro vs w
    rw [List.map_nil] at w
    cases w
    exact .nil
  | cons n ns ih =>
    intro vs w
    rw [List.map_cons] at w
    cases w with
    | cons a b =>
      cases a
      exact .cons _ _ (ih _ b)

theorem script_of {l : OpenLaw} {n : Nat} (hn : l.most = some n) {P : Params} {h : Heap} {args : List WData} {vals : List Value}
    (hpre : l.row.toRowW.claim.pre args = true) (hwl : WellAll P h vals args) :
    ∃ a vs ns, vals = [Value.ref a] ∧ args = [WData.list (ns.map WData.int)] ∧ h.get? a = some { cls := .type "list", data := .seq vs.toArray } ∧ IntsAre vs ns ∧ ns.length ≤ n := by
  have hsh : WShape.hasAll [] args [.list .int] = true := (pre_splitW hpre).1
  have hc : l.pre.holds [] { args := args } = true := (pre_splitW hpre).2
  obtain ⟨d, r, rfl, h1, h2⟩ := hasAllW_cons hsh
  obtain rfl := hasAllW_nil h2
  obtain ⟨xs, rfl, h3⟩ := hasW_list h1
  obtain ⟨ns, rfl⟩ := items_int h3
  have hlen : ns.length ≤ n := by
    unfold OpenLaw.pre at hc
    have h4 : (WTm.not (.lt (.lit (.int (n : Int))) (.len (.arg 0)))).holds [] { args := [.list (ns.map .int)] } = true := by
      have h4 := (holds_andW hc).1
      rw [hn] at h4
      exact h4
    have h5 := condW_of h4 (w_not (w_lt w_lit (w_len_list (w_arg rfl))))
    rw [List.length_map] at h5
    refine Nat.le_of_not_lt fun q => ?_
    have q' : (n : Int) < ((ns.length : Nat) : Int) := by omega
    first
      | (rw [decide_eq_true q'] at h5; exact absurd h5 (by decide))
      | (simp at h5; omega)
  cases hwl with
  | cons w1 w2 =>
    cases w2
    cases w1 with
    | list ho hall => exact ⟨_, _, ns, rfl, rfl, ho, ints_of_wellAll ns _ hall, hlen⟩

theorem post_true (l : OpenLaw) (args : List WData) : l.row.toRowW.claim.post args (.bool true) args = true :=
  postW_of (r := l.row.toRowW) (X := (true == true))
    (show WShape.has [] (.bool true) .bool = true by first | rfl | decide | simp [WShape.has, WShape.arms, WShape.armsAll])
    (show (WTm.eq .res (.lit (.bool true))).value [] { args := args, res := some (.bool true), after := args } = some (.bool (true == true)) from w_eq_bool (w_res rfl) w_lit) rfl

/-! ### the attachment: holds_open's last premise (the goal 'hc' behind k_head) from a wpAny of the law's body -/
/-- the same from a codeAny of the CALL (for a layer whose function contracts speak of calls) -/
theorem attach_call {l : OpenLaw} {n : Nat} {q : Program} {loose : List Str} {XP : (Str → Option Value) → Heap → Prop} {YP : World → Heap → Prop} {d : DefRec}
    (hn : l.most = some n) (hdf : d.params.defaults = [])
    (call : ∀ (w : World) (s₀ s₁ : Shared) (mg mb : Str → Option Value) (fa : Addr) (o : Obj) (pm cd doc : Value) (a : Addr) (vs : List Value) (ns : List Int),
      Ground q loose [] XP w s₀ mg mb s₁.heap → YP w s₁.heap →
      s₁.heap.get? fa = some o → o.data = .func (docDef d.name d.params d.body d.scope pm cd doc) → s₁.heap.CodeRec cd d.name → mg d.name = some (.ref fa) →
      s₁.heap.get? a = some { cls := .type "list", data := .seq vs.toArray } → IntsAre vs ns → ns.length ≤ n → s₁.gens = #[] →
      codeAny (model l.prog w) callerA (.call (.ref fa) ⟨[.ref a], []⟩) (fun r s' => r = .ok (.ret (.bool true)) ∧ OldK s₁.heap s'.heap ∧ s'.os = s₁.os ∧ AllBare s'.gens) s₁) :
    WalkO q loose XP YP l.row.toRowW d [] (fun f vs => PySem.call f vs) := by
  intro w s₀ s₁ mg mb G Y fa o pm cd doc dV kV ho hd hcd hD hmg hg args vals as hpre hlay hrd hwl hlo
  obtain rfl : dV = .none := Dflts.none hD hdf
  obtain rfl : kV = .none := Dflts.noKw hD
  obtain ⟨a, vs, ns, rfl, rfl, hobj, hints, hlen⟩ := script_of hn hpre hwl
  refine enter_call (codeAny_mono (call w s₀ s₁ mg mb fa o pm cd doc a vs ns G Y ho (fd_plain hd) hcd hmg hobj hints hlen hg) fun r s' hq => ?_)
  obtain ⟨rfl, h2, h3, h4⟩ := hq
  exact ⟨.inl ⟨.bool true, .bool true, [], rfl, fun _ => rfl, .bool true, post_true l _, fun _ => ⟨List.Pairwise.nil, fun _ hm => (nomatch hm)⟩⟩, h2, h3, h4⟩

/-! ### rules over ANY heap (no ledger) from facts about the written part K: the library's own take a ledger (News) for what they write -/
end Att

namespace L2
open PySem PySem.Spec PyProof.Rows

theorem vals_ints : ∀ {vs : List Value} {ns : List Int}, IntsAre vs ns → Vals (ns.map V.int) vs
  | _, _, .nil => .nil
  | _, _, .cons n t h => .cons ⟨t, rfl⟩ (vals_ints h)

/-- nothing is tracked but the script, known to the object (or it is an object of the module) -/
def Only (H : Hp) : Prop := ∀ b, H b = none ∨ ∃ o xs, H b = some (.frz o (.lst xs))

/-- THE HEAD: the law's promise, at the heap behind the top. F, the promise of the law's def, may use that base is part of the heap (so K.In base, base.Ns mainGlobals mg stand in Mod) -/
theorem law_call {P : Program} {w : World} {K : PySem.W.Frag} {mg mb : Str → Option Value} {CX : CXT} {k : Nat} {fa a : Addr} {fd : FuncData} {x : Str} {sp : Sp} {s₁ : Shared} {vs : List Value} {ns : List Int}
    (KX : K.In s₁.heap) (hns : s₁.heap.Ns mainGlobals mg) (hb : s₁.heap.Ns builtinsNs mb) (hbb : ∀ x : Str, x ≠ "__name__" → mb x = bootBuiltins x) (hlim : s₁.heap.NoLimit) (hg : s₁.gens = #[])
    (ha : s₁.heap.get? a = some { cls := .type "list", data := .seq vs.toArray }) (hi : IntsAre vs ns) (hl : ns.length ≤ sizeLine) (hr : Room k callerA)
    (F : ∀ base : Heap, K.In base → base.Ns mainGlobals mg → FnOk P w K mg base CX k fa fd [x] sp) (hbind : ∀ (s : Shared) (u : Value), BindsTo s fd ⟨[u], []⟩ [(x, u)])
    (hsp : ∀ H : Hp, Only H → SqL K H a (ns.map V.int) → sp [.ref a] H (fun v _ => v = .bl true) fun _ _ _ => False)
    (hCX : ∀ H e s', CX [] H s₁ (fun _ _ _ => False) e s' → False) :
    codeAny (model P w) callerA (.call (.ref fa) ⟨[.ref a], []⟩) (fun r s' => r = .ok (.ret (.bool true)) ∧ OldK s₁.heap s'.heap ∧ s'.os = s₁.os ∧ AllBare s'.gens) s₁ := by
  have rv := vals_ints hi
  have lenV := hi.length
  -- from an abstract heap in which nothing but the script may be tracked
  have core : ∀ H : Hp, Only H → SqL K H a (ns.map V.int) → HOk P w H s₁.heap → (∀ b, H b ≠ none → b = a) → (H a ≠ none → K.lookup a = none) →
      codeAny (model P w) callerA (.call (.ref fa) ⟨[.ref a], []⟩) (fun r s' => r = .ok (.ret (.bool true)) ∧ OldK s₁.heap s'.heap ∧ s'.os = s₁.os ∧ AllBare s'.gens) s₁ := by
    intro H hO hS hok hA hK
    have base_of : ∀ {b : Addr} {o : Obj}, s₁.heap.get? b = some o → H b = none → (hidT s₁.heap H).get? b = some o := fun e n => hidT_get e n
    have noA : ∀ {b : Addr} {o : Obj} {es : Array DictEntry} {ep : Nat}, s₁.heap.get? b = some o → o.data = .dict es ep → H b = none := fun {b o es ep} e d => by
      cases q : H b with
      | none => rfl
      | some u =>
        have e' : b = a := hA b (by rw [q]; simp)
        subst e'
        rw [ha] at e; cases e
        have d' : Data.seq vs.toArray _ = Data.dict es ep := d
        cases d'
    have nsK : ∀ {b : Addr} {m : Str → Option Value}, s₁.heap.Ns b m → (hidT s₁.heap H).Ns b m := fun {b m} ⟨o, es, ep, e, d, r⟩ => ⟨o, es, ep, base_of e (noA e d), d, r⟩
    have hKb : K.In (hidT s₁.heap H) := fun b o e => base_of (KX b o e) (by
      cases q : H b with
      | none => rfl
      | some u =>
        have e' : b = a := hA b (by rw [q]; simp)
        subst e'
        rw [hK (by rw [q]; simp)] at e; cases e)
    have hM : Mod K mg (hidT s₁.heap H) := ⟨hKb, nsK hns, ⟨mb, nsK hb, hbb⟩, let ⟨mc, h1, h2⟩ := hlim; ⟨mc, nsK h1, h2⟩⟩
    have e0 : Env0 P w K mg (hidT s₁.heap H) callerA [] s₁ H := ⟨rfl, hM, fun b o e => of_hidT e, Nat.le_of_eq (hidT_size _ _), trivial, fun b hb => absurd (show b ∈ ([] : List Addr) from hb) (by simp), hok, .of_eq hg⟩
    refine codeAny_mono ((F _ hKb (nsK hns)).run callerA [] s₁ H ⟨[.ref a], []⟩ [.ref a] [.ref a] _ _ hr e0 (hbind s₁ (.ref a)) (.cons rfl .nil) (hsp H hO hS)) fun r s' h => ?_
    cases r with
    | error e => exact (hCX H e s' h).elim
    | ok fl =>
      cases fl with
      | next => exact False.elim h
      | brk => exact False.elim h
      | cont => exact False.elim h
      | ret u =>
        obtain ⟨v, H', os, bare, un, hok', r', q⟩ := h
        have q' : v = .bl true := q
        subst q'
        obtain rfl : u = Value.bool true := r'
        refine ⟨rfl, OldK.of_keep fun b o e => ?_, os, bare⟩
        cases q : H b with
        | none => exact un.keep b o e q (by intro z; exact absurd (show b ∈ ([] : List Addr) from z) (by simp)) (by simp)
        | some u =>
          rcases hO b with z | ⟨ob, xs, z⟩
          · rw [q] at z; cases z
          · have z2 := un.frzs b ob _ z
            obtain ⟨e1, _⟩ := hok b _ z
            obtain ⟨e2, _⟩ := hok' b _ z2
            rw [e] at e1; cases e1
            exact e2
  cases hk : K.lookup a with
  | some o =>
    -- the script is one of the module's own objects
    have e := KX a o hk
    rw [ha] at e
    cases e
    refine core (fun _ => none) (fun _ => .inl rfl) (.inr ⟨_, vs.toArray, _, hk, rfl, rfl, rfl, by rw [List.size_toArray, lenV]; exact hl, by simpa using rv⟩) (fun b u z => by have z' : (none : Option HO) = some u := z; cases z') (fun b z => absurd rfl z) fun z => absurd rfl z
  | none =>
    refine core (fun b => if b = a then some (.frz { cls := .type "list", data := .seq vs.toArray } (.lst (ns.map V.int))) else none) (fun b => ?_) (.inl (.inr ⟨{ cls := .type "list", data := .seq vs.toArray }, if_pos rfl⟩)) (fun b u z => ?_) (fun b z => ?_) fun _ => hk
    · by_cases hb : b = a
      · exact .inr ⟨_, _, if_pos hb⟩
      · exact .inl (if_neg hb)
    · by_cases hb : b = a
      · have z' := (if_pos hb).symm.trans z
        cases z'
        subst hb
        exact ⟨ha, by rw [List.length_map]; exact hl, vs, _, rv, ha⟩
      · have z' := (if_neg hb).symm.trans z
        cases z'
    · by_cases hb : b = a
      · exact hb
      · exact absurd (if_neg hb) z
end L2

namespace L2
open PySem PySem.Spec PyProof.Rows

abbrev KOf {K : PySem.W.Frag} {h : Heap} (_ : K.In h) : PySem.W.Frag := K

/-- the goal that k_head leaves (case hc), from the law's promise. F gives the function object fd (K's own) once, then the promise over every base -/
theorem walk_of {l : PySem.W.OpenLaw} {n k : Nat} {q : Program} {loose : List Str} {XP : (Str → Option Value) → Heap → Prop} {YP : World → Heap → Prop} {d : DefRec} {K : Params → PySem.W.Frag} {CX : World → CXT} {sp : World → Sp} {x : Str}
    (hn : l.most = some n) (hn2 : n ≤ sizeLine) (hdf : d.params.defaults = []) (hr : Room k callerA)
    (hY : ∀ (w : World) (h : Heap), YP w h → (K w.params).In h)
    (F : ∀ (w : World) (mg : Str → Option Value) (fa : Addr) (h : Heap), (K w.params).In h → h.Ns mainGlobals mg → mg d.name = some (.ref fa) →
      ∃ fd : FuncData, (∀ (s : Shared) (u : Value), BindsTo s fd ⟨[u], []⟩ [(x, u)]) ∧
        ∀ base : Heap, (K w.params).In base → base.Ns mainGlobals mg → FnOk l.prog w (K w.params) mg base (CX w) k fa fd [x] (sp w))
    (hsp : ∀ (w : World) (H : Hp) (a : Addr) (ns : List Int), ns.length ≤ n → Only H → SqL (K w.params) H a (ns.map V.int) → sp w [.ref a] H (fun v _ => v = .bl true) fun _ _ _ => False)
    (hCX : ∀ (w : World) (H : Hp) (s : Shared) (e : Value) (s' : Shared), CX w [] H s (fun _ _ _ => False) e s' → False) :
    PySem.W.WalkO q loose XP YP l.row.toRowW d [] (fun f vs => PySem.call f vs) := by
  refine Att.attach_call hn hdf fun w s₀ s₁ mg mb fa o pm cd doc a vs ns G Y ho hd hcd hmg hobj hints hlen hg => ?_
  have KX := hY w _ Y
  obtain ⟨fd, hb, hF⟩ := F w mg fa _ KX G.T.g hmg
  exact law_call KX G.T.g G.T.b G.T.builtins G.T.nolimit hg hobj hints (Nat.le_trans hlen hn2) hr hF hb (fun H hO hS => hsp w H a ns hlen hO hS) fun H e s' => hCX w H s₁ e s'
end L2

/- THE LAST THEOREM (shape; LID, My.* are yours):
   My.Adr: a structure of the addresses that your layer names (classes, functions); My.Txt K t: a structure (Prop) of the equations over K;
   My.txt_mk : {K} {implicit addresses ..} (e1 : nsIn K mainGlobals "law" = some (some (.ref f))) (e2 : K.lookup f = some ⟨oc, od, .func (fnOf "law" "law" params body scope dV kV doc pm an cdv ct), sl⟩) (e3 : codeIn K cdv "law" = true) .. : ∃ t, My.Txt K t

(the tactic k_is has no namespace: write k_is) -/

/-! SHORT WORDS over the layer: a def of the text, its body, what a loop and a test want. -/
namespace L2
open PySem PySem.Spec PyProof.Rows

/-! ### the text by places -/
def defArgs (s : Stmt) : Arguments := match s with
  | .FunctionDef _ a _ _ _ _ _ _ _ _ => a
  | _ => { posonlyargs := [], args := [], vararg := none, kwonlyargs := [], kw_defaults := [], kwarg := none, defaults := [] }
def defBody (s : Stmt) : List Stmt := match s with
  | .FunctionDef _ _ b _ _ _ _ _ _ _ => b
  | _ => []
def defScope (s : Stmt) : Scope := match s with
  | .FunctionDef _ _ _ _ _ _ sc _ _ _ => sc
  | _ => { kind := .function, names := [], isGenerator := false, isCoroutine := false }

/-! ### no exception leaves a def -/
abbrev CX0 : CXT := fun _ _ _ _ _ _ => False
abbrev E0 : XK := fun _ _ _ => False
theorem pass0 {X : Cx} : Passes CX0 X E0 := fun _ _ _ _ _ _ _ h => h.elim

/-! ### a def (or method) of the text as it stands behind the top -/
structure Fun (K : PySem.W.Frag) (x qual : Str) (st : Stmt) (f : Addr) (fd : FuncData) : Prop where
  ex : ∃ (oc : Value) (od : Option Addr) (kV doc pm : Value) (an : Option Addr) (cdv ct : Value) (osl : Array (Option Value)),
    fd = PySem.W.fnOf x qual (defArgs st) (defBody st) (defScope st) .none kV doc pm an cdv ct ∧ K.lookup f = some ⟨oc, od, .func fd, osl⟩ ∧ PySem.W.codeIn K cdv qual = true
  kp : PySem.W.keepIn K (.ref f) = true
section
variable {P : Program} {w : World} {K : PySem.W.Frag} {mg : Str → Option Value} {base : Heap}
/-- THE RULE for a def: its body as a term of rules, and the reading of that term -/
theorem Fun.ok {x qual : Str} {st : Stmt} {f : Addr} {fd : FuncData} {N ps : List Str} {k : Nat} {sp : Sp} (F : Fun K x qual st f fd) (S : FnScope N ps (defScope st)) (len : ∀ vs H Q E, sp vs H Q E → vs.length = ps.length)
    (hbody : ∀ (cdv : Value) (A : Around) (outer : List Env) (s : Shared) (H : Hp) (vs : List V) (Q : VK) (E : XK), Room k (A.deeper (envOfC qual (defScope st) s.heap.objs.size f cdv)) → sp vs H Q E →
      ∃ t, PSs (cxOf CX0 P w K mg base N qual (defScope st) f cdv A outer s H E).nox (defBody st) t ∧ t { nx := fun _ H' => Q .non H', rt := Q } (start N vs) H) : FnOk P w K mg base CX0 (k + 1) f fd ps sp := by
  obtain ⟨oc, od, kV, doc, pm, an, cdv, ct, osl, rfl, lk, hcd⟩ := F.ex
  refine fn_of lk hcd S len fun A outer s H vs Q E hr hsp => ?_
  obtain ⟨t, h, q⟩ := hbody cdv A outer s H vs Q E hr hsp
  exact ⟨t, h.nox, q⟩
/-- how its arguments bind (no defaults): h is «fun _ _ _ _ _ _ us hl => match us, hl with | [_, _], _ => rfl», one _ a parameter -/
theorem Fun.binds {x qual : Str} {st : Stmt} {f : Addr} {fd : FuncData} {ps : List Str} (F : Fun K x qual st f fd)
    (h : ∀ (kV doc pm : Value) (an : Option Addr) (cdv ct : Value) (us : List Value), us.length = ps.length → bindArgs (PySem.W.fnOf x qual (defArgs st) (defBody st) (defScope st) .none kV doc pm an cdv ct) ⟨us, []⟩ = pure (ps.zip us)) : Binds K fd ps [] := by
  obtain ⟨oc, od, kV, doc, pm, an, cdv, ct, osl, rfl, lk, hcd⟩ := F.ex
  exact .all (h kV doc pm an cdv ct)
theorem fun_mk {x qual : Str} {st : Stmt} {f : Addr} {oc : Value} {od an : Option Addr} {osl : Array (Option Value)} {kV doc pm cdv ct : Value} (l : K.lookup f = some ⟨oc, od, .func (PySem.W.fnOf x qual (defArgs st) (defBody st) (defScope st) .none kV doc pm an cdv ct), osl⟩)
    (c : PySem.W.codeIn K cdv qual = true) (k : PySem.W.keepIn K (.ref f) = true) : Fun K x qual st f (PySem.W.fnOf x qual (defArgs st) (defBody st) (defScope st) .none kV doc pm an cdv ct) := ⟨⟨oc, od, kV, doc, pm, an, cdv, ct, osl, rfl, l, c⟩, k⟩
end
/-! ### expressions in short: the name that stands in the i-th slot -/
section
variable {X : Cx}
theorem pv (i : Nat) {x : Str} {pos : Pos} (hN : X.N[i]? = some x := by rfl) (hv : Vis X.env.scope x := by first | exact Or.inl rfl | exact Or.inr (Or.inl rfl) | exact Or.inr (Or.inr rfl)) (hd : (x == ("__debug__" : Str)) = false := by decide)
    (hcd : (x == ("__classdict__" : Str)) = false := by decide) : PE X (.Name x pos) (tVar i) := pe_var hN hv hd hcd
end

/-! ### tests -/
theorem iteF {A B : Prop} (h : B) : if false = true then A else B := by
  rw [if_neg Bool.false_ne_true]
  exact h
theorem iteT {A B : Prop} (h : A) : if true = true then A else B := by
  rw [if_pos rfl]
  exact h
theorem ite2 {c A B : Prop} [Decidable c] (h1 : c → A) (h2 : ¬ c → B) : if c then A else B := by
  by_cases h : c
  · rw [if_pos h]
    exact h1 h
  · rw [if_neg h]
    exact h2 h
theorem iteNS {c A B : Prop} [Decidable c] (hc : c) (h : B) : if (!decide c) = true then A else B := by
  rw [decide_eq_true hc]
  exact iteF h

/-! ### heaps -/
/-- all that was tracked is as it was -/
def Same (H H' : Hp) : Prop := ∀ b o, H b = some o → H' b = some o
theorem Same.refl (H : Hp) : Same H H := fun _ _ h => h
theorem Same.trans {H H1 H2 : Hp} (a : Same H H1) (b : Same H1 H2) : Same H H2 := fun c o h => b c o (a c o h)
theorem Same.seq {K : PySem.W.Frag} {H H' : Hp} {a : Addr} {xs : List V} (e : Same H H') (h : SqL K H a xs) : SqL K H' a xs := by
  rcases h with (h | ⟨o, h⟩) | h
  · exact .inl (.inl (e _ _ h))
  · exact .inl (.inr ⟨o, e _ _ h⟩)
  · exact .inr h

end L2

namespace L2
open PySem PySem.Spec PyProof.Rows
/-! ### a dict's pairs: keys that differ -/

end L2

set_option Elab.async false
set_option linter.all false
set_option maxRecDepth 100000
set_option maxHeartbeats 4000000
namespace L2
open PySem PySem.Spec PyProof.Rows
abbrev Bt (n : Nat) (i : Int) : Prop := Builtin.Int.intBits i ≤ n
theorem Bt.mono {m n : Nat} {i : Int} (h : Bt m i) (l : m ≤ n) : Bt n i := Nat.le_trans h l
theorem Bt.log {n : Nat} {i : Int} (h : Bt n i) (l : n ≤ 8999) : i.natAbs.log2 < 9000 := by
  have h1 := intBits_le_iff.mp h
  by_cases z : i.natAbs = 0
  · rw [z]; decide
  · exact Nat.lt_of_lt_of_le ((Nat.log2_lt z).mpr h1) (by omega)
theorem Bt.mul {m n : Nat} {i j : Int} (h : Bt m i) (h' : Bt n j) : Bt (m + n) (i * j) := intBits_mul_le h h'
theorem Bt.of_le {n : Nat} {i j : Int} (h : Bt n j) (l : i.natAbs ≤ j.natAbs) : Bt n i := intBits_le_of_natAbs l h
theorem Bt.of_lt {n : Nat} {i : Int} (l : i.natAbs < 2 ^ n) : Bt n i := intBits_le_iff.mpr l
section
variable {X : Cx}
def CMulB (i j : Int) : Prop := Bt 20000 i ∧ Bt 20000 j
theorem op_mulB : OpR X (binaryOp .Mult) (rI CMulB fun i j => .int (i * j)) := opI fun _ _ _ _ _ _ _ hc q => mul_int q (IntMulOk.of_le hc.1 hc.2 (by decide))
def CDivB (i j : Int) : Prop := 0 < j ∧ Bt 8000 j
theorem op_fdivB : OpR X (binaryOp .FloorDiv) (rI CDivB fun i j => .int (i / j)) := opI fun i j _ _ _ _ _ hc q => by
  refine floordiv_int (by have := hc.1; omega) ?_ (.inl (PyProof.noPylong_of_log2 (hc.2.log (by decide))))
  rw [Int.fdiv_eq_ediv_of_nonneg i (Int.le_of_lt hc.1)]
  exact q
/-- is True, is not True: two bools -/
theorem op_isB : OpR X (compareOp .Is) (fun x y H Q => ∃ b c, x = .bl b ∧ y = .bl c ∧ Q (.bl (b == c)) H) := by
  intro pins s σ H x y v u Q I rx ry h
  obtain ⟨b, c, rfl, rfl, q⟩ := h
  cases rx
  cases ry
  exact is_bool (fin_bl I q rfl)
/-- == of two tuples of flat values -/
def eqSeq (xs ys : List V) : Bool := (List.range (min xs.length ys.length)).all (fun j => eqV (xs.getD j .non) (ys.getD j .non)) && xs.length == ys.length
theorem getD_of {α : Type} {xs : List α} {d : α} {j : Nat} (h : j < xs.length) : xs.getD j d = xs[j] := by
  rw [List.getD_eq_getElem?_getD, List.getElem?_eq_getElem h]; rfl
theorem rel_at {xs : List V} {us : List Value} (r : Vals xs us) {j : Nat} (hj : j < us.toArray.size) : RelV (xs.getD j .non) (us.toArray[j]) := by
  have hl := r.length
  have hj' : j < us.length := by simpa using hj
  have hx : j < xs.length := by omega
  obtain ⟨u, h1, h2⟩ := r.get (i := j) (x := xs[j]) (List.getElem?_eq_getElem hx)
  rw [getD_of hx]
  have : us.toArray[j] = us[j] := by simp
  rw [this]
  rw [List.getElem?_eq_getElem hj'] at h1
  cases h1
  exact h2
end
end L2

set_option Elab.async false
set_option linter.all false
set_option maxRecDepth 100000
set_option maxHeartbeats 4000000
namespace L2
open PySem PySem.Spec PyProof.Rows
section
variable {X : Cx}
/-- isinstance(x, T), T a built-in -/
def rIsi (K : PySem.W.Frag) : List V → Hp → VK → Prop := fun xs H Q => ∃ x t T b, xs = [x, .ty T] ∧ TyOf K H x t ∧ PySem.W.kitOne K t (.type T) = some b ∧ Q (.bl b) H
theorem call_isi : CallR X (.builtin "isinstance") (rIsi X.K) := by
  intro pins s σ H xs us Q I r h
  obtain ⟨x, t, T, b, rfl, ty, e, q⟩ := h
  obtain ⟨u, w', rfl, rx, rt⟩ := vals2 r
  obtain rfl : w' = Value.type T := rt
  exact isinst_ok I rx ty e fun tk => ⟨.bl b, H, I.tok _, rfl, q⟩
example (K : PySem.W.Frag) : PySem.W.kitOne K (.type "int") (.type "bool") = some false := by rfl
example (K : PySem.W.Frag) : PySem.W.kitOne K (.type "tuple") (.type "tuple") = some true := by rfl
example (K : PySem.W.Frag) : PySem.W.kitOne K (.type "int") (.type "int") = some true := by rfl
end
/-- a def that may be called by its name -/
structure Cal (P : Program) (w : World) (K : PySem.W.Frag) (mg : Str → Option Value) (base : Heap) (x : Str) (ps : List Str) (k : Nat) (sp : Sp) : Prop where
  ex : ∃ f fd, FnOk P w K mg base CX0 k f fd ps sp ∧ mg x = some (.ref f) ∧ PySem.W.keepIn K (.ref f) = true ∧ Binds K fd ps []
structure FunAt (K : PySem.W.Frag) (mg : Str → Option Value) (x : Str) (ps : List Str) (st : Stmt) : Prop where
  ex : ∃ f fd, Fun K x x st f fd ∧ mg x = some (.ref f) ∧ Binds K fd ps []
theorem FunAt.cal {P : Program} {w : World} {K : PySem.W.Frag} {mg : Str → Option Value} {base : Heap} {x : Str} {ps N : List Str} {st : Stmt} {k : Nat} {sp : Sp} (F : FunAt K mg x ps st) (S : FnScope N ps (defScope st)) (len : ∀ vs H Q E, sp vs H Q E → vs.length = ps.length)
    (hbody : ∀ (f : Addr) (cdv : Value) (A : Around) (outer : List Env) (s : Shared) (H : Hp) (vs : List V) (Q : VK) (E : XK), Room k (A.deeper (envOfC x (defScope st) s.heap.objs.size f cdv)) → sp vs H Q E →
      ∃ t, PSs (cxOf CX0 P w K mg base N x (defScope st) f cdv A outer s H E).nox (defBody st) t ∧ t { nx := fun _ H' => Q .non H', rt := Q } (start N vs) H) : Cal P w K mg base x ps (k + 1) sp := by
  obtain ⟨f, fd, F1, m, b⟩ := F.ex
  exact ⟨f, fd, F1.ok S len (hbody f), m, F1.kp, b⟩
section
variable {X : Cx} {x : Str} {ps : List Str} {k : Nat} {sp : Sp} {e : Expr} {es : List Expr} {t : TA} {p pos : Pos}
theorem cc (c : Cal X.prog X.w X.K X.mg X.base x ps k sp) (hr : Room k X.A) (ha : PA X (e :: es) t) (hg : Gl X x := by rfl) (hd : (x == ("__debug__" : Str)) = false := by decide)
    (hs : starEach (e :: es) X.env = (false, eval e X.env) :: starEach es X.env := by rfl) (hp : (backTo pos (starEach es X.env)).any (·.1) = false := by rfl) : PE X (.Call (.Name x p) (e :: es) [] pos) (tCall sp [] E0 t) := by
  obtain ⟨f, fd, F, m, kp, b⟩ := c.ex
  exact pe_call F hr hg m kp b .nil pass0 ha hd hs hp
end
theorem funAt_mk {K : PySem.W.Frag} {h : Heap} {mg : Str → Option Value} {x : Str} {ps : List Str} {st : Stmt} {f : Addr} {oc : Value} {od an : Option Addr} {osl : Array (Option Value)} {kV doc pm cdv ct : Value} (X : K.In h) (G : h.Ns mainGlobals mg)
    (hb : ∀ (kV doc pm : Value) (an : Option Addr) (cdv ct : Value) (us : List Value), us.length = ps.length → bindArgs (PySem.W.fnOf x x (defArgs st) (defBody st) (defScope st) .none kV doc pm an cdv ct) ⟨us, []⟩ = pure (ps.zip us))
    (a : PySem.W.nsIn K mainGlobals x = some (some (.ref f))) (l : K.lookup f = some ⟨oc, od, .func (PySem.W.fnOf x x (defArgs st) (defBody st) (defScope st) .none kV doc pm an cdv ct), osl⟩)
    (c : PySem.W.codeIn K cdv x = true) (k : PySem.W.keepIn K (.ref f) = true) : FunAt K mg x ps st :=
  let F := fun_mk (st := st) l c k
  ⟨f, _, F, PySem.W.mg_of X G a, F.binds hb⟩

theorem bt_abs : bootBuiltins "abs" = some (.builtin "abs") := by decide +kernel
theorem bt_len : bootBuiltins "len" = some (.builtin "len") := by decide +kernel
theorem bt_isinstance : bootBuiltins "isinstance" = some (.builtin "isinstance") := by decide +kernel
theorem bt_int : bootBuiltins "int" = some (.type "int") := by decide +kernel
theorem bt_bool : bootBuiltins "bool" = some (.type "bool") := by decide +kernel
theorem bt_tuple : bootBuiltins "tuple" = some (.type "tuple") := by decide +kernel
theorem bt_list : bootBuiltins "list" = some (.type "list") := by decide +kernel
/-! ### shares in the heap -/
open MA
def ShAt (H : Hp) (v : V) (q : Rat) : Prop := ∃ p, v = .ref p ∧ H p = some (.tup [.int q.num, .int (q.den : Int)])
def SB (n : Nat) (q : Rat) : Prop := Bt n q.num ∧ Bt n (q.den : Int)
theorem same_new {H : Hp} {p : Addr} (h : H p = none) (o : HO) : Same H (upd H p o) := fun b u q => by rw [upd_ne (ne_of_none q h)]; exact q
theorem ShAt.same {H H' : Hp} {v : V} {q : Rat} (h : ShAt H v q) (s : Same H H') : ShAt H' v q := let ⟨p, e, h⟩ := h; ⟨p, e, s _ _ h⟩
theorem SB.mono {m n : Nat} {q : Rat} (h : SB m q) (l : m ≤ n) : SB n q := ⟨h.1.mono l, h.2.mono l⟩
theorem Bt.ediv {n : Nat} {i c : Int} (h : Bt n i) (hc : 0 < c) : Bt n (i / c) := by
  rw [← Int.fdiv_eq_ediv_of_nonneg i (Int.le_of_lt hc)]; exact intBits_fdiv_le h
theorem Bt.gl {n : Nat} {a b : Int} (h : Bt n a) (ha : a ≠ 0) : Bt n (gI a b) :=
  h.of_le (Nat.le_of_dvd (by omega) (Int.natAbs_dvd_natAbs.mpr (gI_dvd_left a b)))
theorem Bt.gr {n : Nat} {a b : Int} (h : Bt n b) (hb : b ≠ 0) : Bt n (gI a b) := by rw [gI_comm]; exact h.gl hb
theorem Bt.addI {m : Nat} {i j : Int} (h : Bt m i) (h' : Bt m j) : Bt (m + 1) (i + j) := by
  have := intBits_add_le h h'; rw [Nat.max_self] at this; exact this
theorem SB.divInt {n : Nat} {t b : Int} (ht : Bt n t) (hb : Bt n b) (h0 : 0 < b) : SB n (Rat.divInt t b) := by
  have e := share_pos (t := t) h0
  have g := gI_pos_right (a := t) (b := b) (by omega)
  exact ⟨by rw [← e.1]; exact ht.ediv g, by rw [← e.2]; exact hb.ediv g⟩
theorem den_ne (q : Rat) : (q.den : Int) ≠ 0 := by have := den_pos q; omega
theorem den_mul_pos (q r : Rat) : 0 < (q.den : Int) * (r.den : Int) := Int.mul_pos (den_pos q) (den_pos r)
theorem SB.add {m n : Nat} {q r : Rat} (h : SB m q) (h' : SB n r) : SB (m + n + 1) (q + r) := by
  have e : q + r = Rat.divInt (q.num * r.den + r.num * q.den) (q.den * r.den) := by
    rw [Rat.add_def', ← Int.natCast_mul, Rat.divInt_ofNat]
  rw [e]
  refine .divInt ((h.1.mul h'.2).addI ?_) ((h.2.mul h'.2).mono (by omega)) (den_mul_pos q r)
  have := h'.1.mul h.2
  rw [Nat.add_comm n m] at this
  exact this
end L2

set_option Elab.async false
set_option linter.all false
set_option maxRecDepth 100000
set_option maxHeartbeats 4000000
namespace L2
open PySem PySem.Spec PyProof.Rows
/-! ### a list comprehension of one clause -/
theorem closure_go {env : Env} : ∀ (ns : List (Str × NameKind)) (cs : List (Str × Addr)), (∀ x ∈ ns, x.2 = .free → ∃ c, env.cells.lookup x.1 = some c) → (∀ x c, cs.lookup x = some c → env.cells.lookup x = some c) →
    ∃ cl, (forIn ns cs (fun (p : Str × NameKind) (r : List (Str × Addr)) => if (p.2 == NameKind.free) = true then (do let c ← cellOf env p.1; pure (ForInStep.yield ((p.1, c) :: r))) else pure (ForInStep.yield r)) : Sem (List (Str × Addr))) = pure cl ∧
      (∀ x c, cl.lookup x = some c → env.cells.lookup x = some c) ∧ (∀ x, (x, NameKind.free) ∈ ns → ∃ c, cl.lookup x = some c) ∧ (∀ x c, cs.lookup x = some c → ∃ c', cl.lookup x = some c')
  | [], cs, _, hcs => ⟨cs, rfl, hcs, fun _ h => (by simp at h), fun x c h => ⟨c, h⟩⟩
  | (n, k) :: r, cs, hall, hcs => by
    by_cases hk : k = .free
    · subst hk
      obtain ⟨c, hc⟩ := hall (n, .free) (by simp) rfl
      have hce : cellOf env n = pure c := by unfold cellOf; rw [hc]
      have hcs' : ∀ x d, ((n, c) :: cs).lookup x = some d → env.cells.lookup x = some d := fun x d h => by
        rw [List.lookup_cons] at h
        cases e : x == n with
        | true => rw [e] at h; cases h; rw [eq_of_beq e]; exact hc
        | false => rw [e] at h; exact hcs x d h
      obtain ⟨cl, e, h1, h2, h3⟩ := closure_go r ((n, c) :: cs) (fun x hx => hall x (by simp [hx])) hcs'
      refine ⟨cl, ?_, h1, fun x hx => ?_, fun x d hd => ?_⟩
      · rw [List.forIn_cons, ← e]
        show (cellOf env n >>= _) >>= _ = _
        rw [hce]
        rfl
      · rcases List.mem_cons.mp hx with z | z
        · cases z
          exact h3 n c (by simp)
        · exact h2 x z
      · cases q : x == n with
        | true => exact h3 x c (by rw [List.lookup_cons, q])
        | false => exact h3 x d (by rw [List.lookup_cons, q]; exact hd)
    · obtain ⟨cl, e, h1, h2, h3⟩ := closure_go r cs (fun x hx => hall x (by simp [hx])) hcs
      refine ⟨cl, ?_, h1, fun x hx => ?_, h3⟩
      · rw [List.forIn_cons, ← e]
        have : (k == NameKind.free) = false := by simpa using hk
        simp only [this, Bool.false_eq_true, if_false]
        rfl
      · rcases List.mem_cons.mp hx with z | z
        · cases z
          exact absurd rfl hk
        · exact h2 x z
theorem closure_of {env : Env} {scope : Scope} (hall : ∀ x ∈ scope.names, x.2 = .free → ∃ c, env.cells.lookup x.1 = some c) :
    ∃ cl, closureFor scope env = pure cl ∧ (∀ x c, cl.lookup x = some c → env.cells.lookup x = some c) ∧ (∀ x, (x, NameKind.free) ∈ scope.names → ∃ c, cl.lookup x = some c) := by
  obtain ⟨cl, e, h1, h2, _⟩ := closure_go (env := env) scope.names [] hall (fun x c h => by simp at h)
  refine ⟨cl, ?_, h1, h2⟩
  simp only [closureFor]
  rw [e]
  rfl
/-- the block of a comprehension -/
def cxComp (X : Cx) (scope : Scope) (N : List Str) (cl : List (Str × Addr)) (C : Addr) (s : Shared) (H : Hp) (ex : List Addr) : Cx :=
  { X with N := N, s₀ := s, H₀ := H, env := compEnvC scope cl C X.env, outer := X.stack, stack := X.stack, ex := ex, fn := fun _ => false, pn := [] }
def PTs (X : Cx) (ifs : List Expr) (t : TT) : Prop :=
  ∀ (pins : List (Addr × Obj)) (s : Shared) (σ : St) (H : Hp) (Q : Bool → Hp → Prop), Inv X pins σ H s → t σ H Q →
    wpAny (model X.prog X.w) X.A (forIn ifs true fun c r => if r = true then do let ok ← isTrue c X.env (eval c X.env); pure (ForInStep.yield ok) else pure (ForInStep.yield r)) (TP X pins σ Q) X.xe s
def tTT : TT := fun _ H Q => Q true H
theorem pts_nil {X : Cx} : PTs X [] tTT := fun pins s σ H Q I h => wpAny_tests_nil ⟨H, I, h⟩
theorem pts_one {X : Cx} {c : Expr} {t : TT} (h : PT X c t) : PTs X [c] t := fun pins s σ H Q I hw => wpAny_tests_one (h pins s σ H Q I hw)
def tComp (σ0 : St → St) (wi : TI) (g : TG) (tc : TT) (te : TE) : TE := fun σ H Q => wi σ H fun J H1 => ∀ p, H1 p = none → ∃ W : Nat → Nat → List V → St → Hp → Prop, (∃ m, W 0 m [] (σ0 σ) (upd H1 p (.lst []))) ∧ ∀ i m ys σ' H', W i m ys σ' H' →
  (J.stop i H' ∧ Q (.ref p) H') ∨ (J.go i H' ∧ ∀ x H2, J.yld i H' x H2 → g x σ' H2 fun σ2 H3 => tc σ2 H3 fun b H4 => if b = true then te σ2 H4 fun v H5 => ys.length < sizeLine ∧ H5 p = some (.lst ys) ∧ (∃ m', m' < m ∧ W (i + 1) m' (ys ++ [v]) σ2 (upd H5 p (.lst (ys ++ [v]))))
    else ∃ m', m' < m ∧ W (i + 1) m' ys σ2 H4)
/-- which of the def's values the block sees -/
def Sees (X : Cx) (scope : Scope) (N : List Str) (σ0 : St → St) : Prop :=
  ∀ σ : St, (σ0 σ).length = N.length ∧ ∀ (i : Nat) (x : Str) (v : V), N[i]? = some x → (σ0 σ)[i]? = some (some v) → scope.names.lookup x = some .free ∧ ∃ j : Nat, X.N[j]? = some x ∧ σ[j]? = some (some v)
theorem lookup_relabel_mem {env : Env} {names : List (Str × NameKind)} {x : Str} : ∀ {k}, (names.map fun (n, k) => if (k == NameKind.free && env.scope.kind == .function && env.kindOf n == some .cell) = true then (n, NameKind.cell) else (n, k)).lookup x = some k → (x, k) ∈ names ∨ (k = .cell ∧ (x, NameKind.free) ∈ names) := by
  induction names with
  | nil => intro k h; simp at h
  | cons a r ih =>
    intro k h
    obtain ⟨n, k0⟩ := a
    rw [List.map_cons] at h
    dsimp only at h
    by_cases hc : (k0 == NameKind.free && env.scope.kind == .function && env.kindOf n == some .cell) = true
    · rw [if_pos hc] at h
      have hk0 : k0 = .free := by
        simp only [Bool.and_eq_true, beq_iff_eq] at hc
        exact hc.1.1
      rw [List.lookup_cons] at h
      cases e : x == n with
      | true =>
        rw [e] at h
        cases h
        exact .inr ⟨rfl, by rw [eq_of_beq e, hk0]; simp⟩
      | false =>
        rw [e] at h
        rcases ih h with z | ⟨z1, z2⟩
        · exact .inl (List.mem_cons_of_mem _ z)
        · exact .inr ⟨z1, List.mem_cons_of_mem _ z2⟩
    · rw [if_neg hc] at h
      rw [List.lookup_cons] at h
      cases e : x == n with
      | true =>
        rw [e] at h
        cases h
        exact .inl (by rw [eq_of_beq e]; simp)
      | false =>
        rw [e] at h
        rcases ih h with z | ⟨z1, z2⟩
        · exact .inl (List.mem_cons_of_mem _ z)
        · exact .inr ⟨z1, List.mem_cons_of_mem _ z2⟩
theorem lookup_relabel_free {env : Env} {x : Str} : ∀ {names : List (Str × NameKind)}, names.lookup x = some .free →
    (names.map fun (n, k) => if (k == NameKind.free && env.scope.kind == .function && env.kindOf n == some .cell) = true then (n, NameKind.cell) else (n, k)).lookup x = some .cell ∨ (names.map fun (n, k) => if (k == NameKind.free && env.scope.kind == .function && env.kindOf n == some .cell) = true then (n, NameKind.cell) else (n, k)).lookup x = some .free
  | [], h => by simp at h
  | (n, k0) :: r, h => by
    rw [List.lookup_cons] at h
    rw [List.map_cons]
    dsimp only
    cases e : x == n with
    | true =>
      rw [e] at h
      cases h
      by_cases hc : (NameKind.free == NameKind.free && env.scope.kind == .function && env.kindOf n == some .cell) = true
      · rw [if_pos hc]; left; rw [List.lookup_cons, e]
      · rw [if_neg hc]; right; rw [List.lookup_cons, e]
    | false =>
      rw [e] at h
      have ih := lookup_relabel_free (env := env) h
      by_cases hc : (k0 == NameKind.free && env.scope.kind == .function && env.kindOf n == some .cell) = true
      · rw [if_pos hc, List.lookup_cons, e]; exact ih
      · rw [if_neg hc, List.lookup_cons, e]; exact ih
theorem mem_of_lookupF {x : Str} {k : NameKind} : ∀ {names : List (Str × NameKind)}, names.lookup x = some k → (x, k) ∈ names := fun h => PySem.mem_of_lookup h
theorem pe_comp {X : Cx} {elt tg iter : Expr} {ifs : List Expr} {scope : Scope} {pos : Pos} {wi : TI} {g : TG} {tc : TT} {te : TE} {N : List Str} {σ0 : St → St}
    (hc : X.calm = true) (hxe : ∀ e s, X.xe e s → False) (hcell : ∀ y ∈ scope.names, y.2 ≠ .cell) (hkind : scope.kind = .function) (hnames : ∀ y ∈ scope.names, y.2 = .local → scope.names.lookup y.1 = some .local)
    (hfr : ∀ y ∈ scope.names, y.2 = .free → X.env.kindOf y.1 = some .cell ∨ X.env.kindOf y.1 = some .free) (hσ : Sees X scope N σ0)
    (hi : PI X tg iter wi)
    (hg : ∀ cl C s H ex, PG (cxComp X scope N cl C s H ex) tg g) (ht : ∀ cl C s H ex, PTs (cxComp X scope N cl C s H ex) ifs tc) (he : ∀ cl C s H ex, PE (cxComp X scope N cl C s H ex) elt te)
    (hs : ∀ x, foldedSetIterable iter X.env x = pure x := by intro _; rfl) : PE X (.ListComp elt [⟨tg, iter, ifs, 0⟩] scope pos) (tComp σ0 wi g tc te) := by
  intro pins s σ H Q I h
  obtain ⟨cl, hclos, hcl1, hcl2⟩ := closure_of (env := X.env) (scope := scope) fun y hy hf => I.ok.has y.1 (hfr y hy hf)
  rw [eval_ListComp]
  refine wpAny_comprehension_free (use := none) rfl hs hclos hkind hnames (thn (hi pins s σ H _ I h) fun v s1 h1 => thn h1 fun itv s2 h2 => ?_)
  obtain ⟨it, fp, tn, J, H2, e, I2, T, st2, f2, h3⟩ := h2
  subst e
  have hpn : H2 s2.heap.objs.size = none := I2.hok.fresh (Nat.le_refl _)
  obtain ⟨W, ⟨m0, w0⟩, turn⟩ := h3 _ hpn
  refine wpAny_newObj_type ?_
  generalize hp : s2.heap.objs.size = p at *
  have I3 : Inv X pins σ (upd H2 p (.lst [])) { s2 with heap := s2.heap.push { cls := .type "list", dict := none, data := .seq ([] : List Value).toArray } } := by
    refine I2.laid (a := p) (o := .lst []) (t' := s2.toks) (fun b u q => Heap.get?_push_of_some _ q) (Nat.le_of_eq hp) ⟨Nat.zero_le _, [], 0, .nil, ?_⟩
    rw [← hp]
    exact Heap.get?_push_size _ rfl
  have hf3 : ∀ b ∈ fp, FpOk X pins (upd H2 p (.lst [])) b := fun b hb => by
    obtain ⟨o, ho, _⟩ := T.obj _ _ st2 b hb
    have : b ≠ p := by rw [← hp]; exact Nat.ne_of_lt (Heap.lt_size ho)
    exact ⟨by rw [upd_ne this]; exact (f2 b hb).1, (f2 b hb).2⟩
  generalize hs3 : ({ s2 with heap := s2.heap.push { cls := .type "list", dict := none, data := .seq ([] : List Value).toArray } } : Shared) = s3 at *
  have st3 : tn 0 s3.heap := by rw [← hs3]; exact T.keep _ _ _ st2 fun b _ o e => Heap.get?_push_of_some _ e
  generalize hH3 : upd H2 p (.lst []) = H3 at *
  refine wpAny_newFunctionEnv hcell (by intro y hy; simp at hy) (fun h1 hns1 hsb1 => ?_) hkind
  generalize hC : s3.heap.objs.size = C at *
  have keep : ∀ b u, s3.heap.get? b = some u → h1.get? b = some u := fun b u q =>
    hsb1.extBut b u (by rw [← hC]; exact Nat.ne_of_lt (Heap.lt_size q)) (Heap.get?_push_of_some _ q)
  have fpC : ∀ b ∈ fp, b ≠ C := fun b hb => by
    obtain ⟨o, ho, _⟩ := T.obj _ _ st3 b hb
    rw [← hC]; exact Nat.ne_of_lt (Heap.lt_size ho)
  have hCn : H3 C = none := I3.hok.fresh (Nat.le_of_eq hC)
  -- the block's own invariant, at its entry
  have ok' : (cxComp X scope N cl C s3 H3 fp).Ok := by
    refine ⟨I3.mod, hkind, I3.ok.glob, I3.ok.blt, Nat.le_of_eq hC, fun x y c a b => I3.ok.inj x y c (hcl1 x c a) (hcl1 y c b), fun x hx => ?_, fun _ _ z => Bool.noConfusion (show false = true from z), I3.ok.hd, I3.ok.frames, .inl rfl, fun b hb => ⟨fpC b hb, fun x c q => (hf3 b hb).2.2.2.2.1 x c (hcl1 x c q)⟩,
      I3.bs, Nat.le_trans I3.ok.bsz I3.sz, fun b o e hb => ?_, fun b hb z => ?_, I3.stack, I3.stkFree⟩
    · have hx' : (relabel scope X.env).names.lookup x = some .cell ∨ (relabel scope X.env).names.lookup x = some .free := hx
      rcases hx' with z | z
      · rcases lookup_relabel_mem z with y | ⟨_, y⟩
        · exact absurd rfl (hcell _ y)
        · exact hcl2 x y
      · rcases lookup_relabel_mem z with y | ⟨y, _⟩
        · exact hcl2 x y
        · cases y
    · rcases (hf3 b hb).2.2.2.1 with z | z
      · exact I3.ok.noex b o e z
      · exact absurd (Nat.lt_of_lt_of_le (Heap.lt_size e) (Nat.le_trans I3.ok.bsz z)) (Nat.lt_irrefl _)
    · rcases List.mem_cons.mp (I3.stkSub b z) with q | q
      · exact (hf3 b hb).2.1 q
      · exact (hf3 b hb).2.2.1 q
  have J0 : Inv (cxComp X scope N cl C s3 H3 fp) [] (σ0 σ) H3 { s3 with heap := h1, toks := s3.toks + ([] : List (Str × Value)).length } := by
    refine ⟨ok', rfl, I3.bare, Un.kept keep, ⟨_, hns1, fun i x v a b c => ?_⟩, fun x c q => ?_, hCn, fun x c q => I3.freeC x c (hcl1 x c q), fun q hq => absurd (show q ∈ ([] : List (Addr × Obj)) from hq) (by simp), I3.hok.kept keep, (hσ σ).1⟩
    · obtain ⟨hf, j, hj, hv⟩ := (hσ σ).2 i x v a b
      have hm := mem_of_lookupF hf
      obtain ⟨m, hn, hl⟩ := id I3.loc
      have hk := hfr _ hm rfl
      have hvis : Vis X.env.scope x := hk.elim (fun z => .inr (.inl z)) fun z => .inr (.inr z)
      obtain ⟨u, r, lk⟩ := hl j x v hj hv hvis
      refine ⟨u, r, .inr ⟨lookup_relabel_free hf, ?_⟩⟩
      obtain ⟨c', hc'⟩ := hcl2 x hm
      refine ⟨c', hc', ?_⟩
      have hx := hcl1 x c' hc'
      rcases lk with ⟨kl, _⟩ | ⟨_, c2, e2, o2, ho2, hd2⟩
      · rcases hk with z | z <;> rw [kl] at z <;> cases z
      · rw [hx] at e2
        cases e2
        exact ⟨o2, keep _ _ ho2, hd2⟩
    · obtain ⟨v, o, ho, hd⟩ := I3.cell x c (hcl1 x c q)
      exact ⟨v, o, keep _ _ ho, hd⟩
  have st4 : tn 0 h1 := T.keep _ _ _ st3 fun b _ o e => keep b o e
  have stat : ∀ {H' : Hp}, (∀ b ∈ fp, H' b = none) → ∀ b ∈ fp, FpOk (cxComp X scope N cl C s3 H3 fp) [] H' b := fun hn b hb =>
    ⟨hn b hb, fpC b hb, fun z => ok'.exfs b hb z, .inl hb, fun x c q => (hf3 b hb).2.2.2.2.1 x c (hcl1 x c q), fun q hq => absurd (show q ∈ ([] : List (Addr × Obj)) from hq) (by simp)⟩
  -- back to the def
  have back : ∀ {σ' : St} {H' : Hp} {s' : Shared} {pl : List (Addr × Obj)}, Inv (cxComp X scope N cl C s3 H3 fp) pl σ' H' s' → ∀ h', Heap.SameBut C s'.heap h' → Inv X pins σ H' { s' with heap := h' } := fun {σ' H' s' pl} J h' hsb => by
    have I5 : Inv X pins σ H' s' := Inv.call' (ch := fp) I3 J.os J.base J.hok J.bare fun b hb => ⟨(hf3 b hb).2.2.2.1, (hf3 b hb).2.1, (hf3 b hb).2.2.2.2.1, (hf3 b hb).2.2.2.2.2⟩
    refine Inv.turned (it := C) (t' := s'.toks) I5 (fun b o hb e => hsb.extBut b o hb e) J.free (fun z => ?_) (.inr ?_) (fun x c q z => ?_) fun q hq z => ?_
    · exact absurd (show X.env.locals < C by rw [← hC]; exact I3.lt) (by rw [z]; exact Nat.lt_irrefl _)
    · rw [← hC]; exact I3.sz
    · obtain ⟨v, o, ho, _⟩ := I3.cell x c q
      have := Heap.lt_size ho
      rw [z, hC] at this
      exact Nat.lt_irrefl _ this
    · have := Heap.lt_size (I3.pin q hq).1
      rw [z, hC] at this
      exact Nat.lt_irrefl _ this
  have loop : codeAny (model X.prog X.w) X.A (.compLoop (.ListComp elt [⟨tg, iter, ifs, 0⟩] scope pos) 0 (.ref it) (.ref p) (compEnvC scope cl C X.env)) (compPost (model X.prog X.w) X.A X.xe none (EP X pins σ Q) (.ref p) C) { s3 with heap := h1, toks := s3.toks + ([] : List (Str × Value)).length } := by
    refine codeAny_loop rfl (fun n s' => ∃ i ys σ' H', Inv (cxComp X scope N cl C s3 H3 fp) [] σ' H' s' ∧ tn i s'.heap ∧ (∀ b ∈ fp, H' b = none) ∧ W i n ys σ' H') (fun n s' hI => ?_) m0 ⟨0, [], σ0 σ, H3, J0, st4, fun b hb => (hf3 b hb).1, w0⟩
    obtain ⟨i, ys, σ', H', J', st', fr', w'⟩ := hI
    show wpAny _ X.A ((compTurn (.ListComp elt [⟨tg, iter, ifs, 0⟩] scope pos) 0 (.ref it) (.ref p) (compEnvC scope cl C X.env)).onRaise (fun x => do noteFrame x (compEnvC scope cl C X.env); theTreesLotGoes x)) _ _ s'
    refine wpAny_noted ?_
    rw [compTurn_list]
    rcases turn i n ys σ' H' w' with ⟨stop, q⟩ | ⟨go, step⟩
    · refine wpAny_bind (wpAny_standAt (wpAny_bind (wpAny_mono (T.done (cxComp X scope N cl C s3 H3 fp) rfl rfl rfl hc i [] s' σ' H' X.xe J' (stat fr') st' stop) (fun r s4 h4 => ?_) fun _ _ x => (hxe _ _ x).elim)))
      obtain ⟨hr, I4⟩ := h4
      subst hr
      refine wpAny_pure ?_
      obtain ⟨m, hn, _⟩ := id I4.loc
      exact ⟨m, hn, fun h' hsb => ⟨.ref p, H', back I4 h' hsb, rfl, q⟩⟩
    · refine wpAny_bind (wpAny_standAt (wpAny_bind (wpAny_mono (T.item (cxComp X scope N cl C s3 H3 fp) rfl rfl rfl hc i [] s' σ' H' X.xe J' (stat fr') st' go) (fun r s4 h4 => ?_) fun _ _ x => (hxe _ _ x).elim)))
      obtain ⟨u, hr, h4⟩ := h4
      subst hr
      refine wpAny_bind (wpAny_mono h4 (fun _ s5 h5 => ?_) fun _ _ x => (hxe _ _ x).elim)
      obtain ⟨x, H5, I5, r5, y5, st5, fr5⟩ := h5
      have I5' := I5.pinned (stat fr5) (T.obj _ _ st5)
      refine wpAny_bind (wpAny_mono (hg cl C s3 H3 fp _ s5 σ' H5 x u _ I5' r5 (step x H5 y5)) (fun _ s6 h6 => ?_) fun _ _ x => (hxe _ _ x).elim)
      obtain ⟨σ6, H6, I6, q6⟩ := h6
      have again : ∀ {σ7 : St} {H7 : Hp} {s7 : Shared} {ys7 : List V}, Inv (cxComp X scope N cl C s3 H3 fp) ([] ++ pinsAt fp s5.heap) σ7 H7 s7 → (∃ m', m' < n ∧ W (i + 1) m' ys7 σ7 H7) →
          ∃ m, m < n ∧ ∃ i ys σ' H', Inv (cxComp X scope N cl C s3 H3 fp) [] σ' H' s7 ∧ tn i s7.heap ∧ (∀ b ∈ fp, H' b = none) ∧ W i m ys σ' H' := fun {σ7 H7 s7 ys7} I7 n7 => by
        obtain ⟨m', hm, w7⟩ := n7
        refine ⟨m', hm, i + 1, ys7, σ7, H7, I7.unpinned, T.keep _ _ _ st5 fun b hb o e => (I7.pin (b, o) (List.mem_append_right _ (List.mem_append_right _ (mem_pinsAt hb e)))).1, fun b hb => ?_, w7⟩
        obtain ⟨o, e, d⟩ := T.obj _ _ st5 b hb
        exact (I7.pin (b, o) (List.mem_append_right _ (List.mem_append_right _ (mem_pinsAt hb e)))).2.1
      refine wpAny_bind (wpAny_mono (ht cl C s3 H3 fp _ s6 σ6 H6 _ I6 q6) (fun ok s7 h7 => ?_) fun _ _ x => (hxe _ _ x).elim)
      obtain ⟨H7, I7, q7⟩ := h7
      cases ok with
      | false =>
        rw [if_neg Bool.false_ne_true] at q7
        exact wpAny_pure ⟨rfl, again I7 q7⟩
      | true =>
        rw [if_pos rfl] at q7
        refine wpAny_bind (wpAny_bind (wpAny_mono (he cl C s3 H3 fp _ s7 σ6 H7 _ I7 q7) (fun y s8 h8 => ?_) fun _ _ x => (hxe _ _ x).elim))
        obtain ⟨v, H8, I8, r8, hz, hH8, w8⟩ := h8
        refine wpAny_bind (wpAny_mono (mt_append (X := cxComp X scope N cl C s3 H3 fp) _ s8 σ6 H8 (.ref p) [v] (.ref p) [y] (fun x H9 => x = .non ∧ H9 = upd H8 p (.lst (ys ++ [v]))) I8 rfl (.cons r8 .nil) ⟨p, ys, v, rfl, rfl, hH8, hz, rfl, rfl⟩) (fun _ s9 h9 => ?_) fun _ _ x => (hxe _ _ x).elim)
        obtain ⟨z, H9, I9, _, _, e9⟩ := h9
        subst e9
        exact wpAny_pure (wpAny_pure ⟨rfl, again I9 w8⟩)
  exact codeAny_compStart_list loop (T.self X.A 0 _ _ _ st4 loop)
end L2
namespace L2
open PySem PySem.Spec PyProof.Rows
theorem bt_all : bootBuiltins "all" = some (.builtin "all") := by decide +kernel
theorem range_all (bs : List Bool) (n : Nat) (h : bs.length = n) : (List.range n).all (fun i => bs.getD i false) = bs.all id := by
  subst h
  rw [Bool.eq_iff_iff, List.all_eq_true, List.all_eq_true]
  constructor
  · intro h x hx
    obtain ⟨i, hi, e⟩ := List.mem_iff_getElem.mp hx
    have := h i (by simpa using hi)
    rw [getD_of hi, e] at this
    exact this
  · intro h i hi
    have hi' : i < bs.length := by simpa using hi
    rw [getD_of hi']
    exact h _ (List.getElem_mem hi')
section
variable {X : Cx}
/-- all(xs), xs a list of truths -/
def rAll : List V → Hp → VK → Prop := fun xs H Q => ∃ (l : Addr) (bs : List Bool), xs = [.ref l] ∧ H l = some (.lst (bs.map V.bl)) ∧ Q (.bl (bs.all id)) H
theorem call_all (hc : X.calm = true) : CallR X (.builtin "all") rAll := by
  intro pins s σ H xs us Q I r h
  obtain ⟨l, bs, rfl, hl, q⟩ := h
  obtain ⟨u, rfl, ru⟩ := vals1 r
  cases ru
  obtain ⟨its, rv, p, hz⟩ := I.list (SqL.of hl)
  have hlt : l < s.heap.objs.size := I.hok.lt hl
  have hlen : bs.length = its.length := by have := rv.length; rwa [List.length_map] at this
  refine call_all_walk (wpAny_pyIter_list p.isList ?_)
  refine ⟨s.heap.objs.size, _, _, _, _, _, fun i => bs.getD i false, rfl, Walks.list (A := X.A.in1) (show X.A.in1.handled = none from I.ok.hd hc) s.heap.objs.size l (Nat.ne_of_lt hlt) its.toArray, ⟨⟨_, Heap.get?_push_size _ rfl, rfl, rfl⟩, ?_⟩, ?_, fun h' tk hk => ?_⟩
  · exact p.isList.at fun o e => Heap.get?_push_of_some _ e
  · intro i v s' Q' E' hv hQ
    have hi : i < its.length := by
      have := (Array.getElem?_eq_some_iff.mp hv).1
      simpa using this
    have hb : (bs.map V.bl)[i]? = some (.bl (bs.getD i false)) := by
      rw [List.getElem?_map, List.getElem?_eq_getElem (by omega), getD_of (by omega)]; rfl
    obtain ⟨u, hu, ru⟩ := rv.get hb
    have : v = u := by
      rw [List.getElem?_toArray, hu] at hv
      exact (Option.some.inj hv).symm
    subst this
    obtain rfl : v = Value.bool (bs.getD i false) := ru
    exact wpAny_pure hQ
  · refine ⟨.bl (bs.all id), H, I.kept (t' := tk) fun b o e => hk b o ?_ (Heap.get?_push_of_some _ e), ?_, q⟩
    · intro z
      have : b = s.heap.objs.size := by simpa using z
      subst this
      exact Nat.lt_irrefl _ (Heap.lt_size e)
    · show Value.bool _ = Value.bool _
      rw [range_all bs its.toArray.size (by simpa using hlen)]
end
end L2

set_option Elab.async false
set_option linter.all false
set_option maxRecDepth 100000
set_option maxHeartbeats 4000000
namespace L2
open PySem PySem.Spec PyProof.Rows
end L2
namespace L2
open MA
end L2
namespace My
open PySem L2 MA
section
variable {P : Program} {w : World} {K : PySem.W.Frag} {mg : Str → Option Value} {base : Heap}
structure Txt (mg : Str → Option Value) : Prop where
  z_abs : mg "abs" = none
  z_len : mg "len" = none
  z_isinstance : mg "isinstance" = none
  z_range : mg "range" = none
  z_int : mg "int" = none
  z_bool : mg "bool" = none
  z_tuple : mg "tuple" = none
  z_list : mg "list" = none
  z_all : mg "all" = none
def spMeasure : Sp := fun vs H Q _ => ∃ a b : Int, vs = [.int a, .int b] ∧ Q (.int (gI a b)) H
def sp2 (f : Rat → Rat → Rat) (pre : Rat → Rat → Prop) : Sp := fun vs H Q _ => ∃ a b q r, vs = [a, b] ∧ ShAt H a q ∧ ShAt H b r ∧ SB 3000 q ∧ SB 3000 r ∧ pre q r ∧ ∀ v H', Same H H' → ShAt H' v (f q r) → Q v H'
abbrev spPlus : Sp := sp2 (fun q r => q + r) (fun _ _ => True)
/-- a list of shares and what they stand for -/
def Shs (H : Hp) : List V → List Rat → Prop := Paired (ShAt H)
theorem Shs.same {H H' : Hp} (s : Same H H') : ∀ {xs : List V} {qs : List Rat}, Shs H xs qs → Shs H' xs qs
  | _, _, .nil => .nil
  | _, _, .cons r t => .cons (r.same s) (Shs.same s t)
def spTotal : Sp := fun vs H Q _ => ∃ l xs qs, vs = [.ref l] ∧ H l = some (.lst xs) ∧ Shs H xs qs ∧ (∀ q ∈ qs, SB 3000 q) ∧ (∀ i, SB 3000 ((qs.take i).foldl (· + ·) 0)) ∧ ∀ v H', Same H H' → ShAt H' v (qs.foldl (· + ·) 0) → Q v H'
theorem Paired.at' {α β : Type} {R : α → β → Prop} : ∀ {xs : List α} {ys : List β} {i : Nat} {x : α}, Paired R xs ys → xs[i]? = some x → ∃ y, ys[i]? = some y ∧ R x y
  | _, _, _, _, .nil, e => by simp at e
  | _, _, 0, _, .cons r _, e => by simp at e; subst e; exact ⟨_, rfl, r⟩
  | _, _, i + 1, x, .cons _ t, e => by
    obtain ⟨u, h1, h2⟩ := Paired.at' (i := i) (x := x) t (by simpa using e)
    exact ⟨u, by simpa using h1, h2⟩
theorem fold_take {qs : List Rat} {i : Nat} {q : Rat} (h : qs[i]? = some q) : (qs.take (i + 1)).foldl (· + ·) 0 = (qs.take i).foldl (· + ·) 0 + q := by
  rw [List.take_add_one, h, List.foldl_append]
  rfl
theorem cell_at {ns : List Int} (a : Int) (h : 0 < ns.length) : ∃ z : Int, atI (ns.map V.int) (a % (((ns.map V.int).length : Nat) : Int)) = some (.int z) := by
  rw [List.length_map]
  have h0 := Int.emod_nonneg a (show ((ns.length : Nat) : Int) ≠ 0 by omega)
  have h1 := Int.emod_lt_of_pos a (show 0 < ((ns.length : Nat) : Int) by omega)
  have hk : (a % (ns.length : Int)).toNat < ns.length := by omega
  have ek : a % (ns.length : Int) = (((a % (ns.length : Int)).toNat : Nat) : Int) := by omega
  refine ⟨ns[(a % (ns.length : Int)).toNat], ?_⟩
  have q : atI (ns.map V.int) (((a % (ns.length : Int)).toNat : Nat) : Int) = some (.int ns[(a % (ns.length : Int)).toNat]) := atI_nat (by rw [List.getElem?_map, List.getElem?_eq_getElem hk] <;> rfl)
  rw [← ek] at q
  exact q
def spLaw (K : PySem.W.Frag) : Sp := fun vs H Q _ => ∃ (a : Addr) (ns : List Int), vs = [.ref a] ∧ SqL K H a (ns.map V.int) ∧ ns.length ≤ 63 ∧ ∀ H', Q (.bl true) H'
end
end My
namespace L2
open PySem PySem.Spec PyProof.Rows
theorem Sees.none1 {X : Cx} {scope : Scope} {x : Str} : Sees X scope [x] (fun _ => [none]) := fun σ => ⟨rfl, fun i y v _ h2 => by
  match i with
  | 0 => simp at h2
  | n + 1 => simp at h2⟩
theorem pe_comp0 {X : Cx} {elt tg iter : Expr} {ifs : List Expr} {scope : Scope} {pos : Pos} {wi : TI} {g : TG} {tc : TT} {te : TE} {N : List Str} {σ0 : St → St}
    (hc : X.calm = true) (hxe : ∀ e s, X.xe e s → False) (hcell : ∀ y ∈ scope.names, y.2 ≠ .cell) (hkind : scope.kind = .function) (hnames : ∀ y ∈ scope.names, y.2 = .local → scope.names.lookup y.1 = some .local)
    (hnf : ∀ y ∈ scope.names, y.2 ≠ .free) (hσ : Sees X scope N σ0) (hi : PI X tg iter wi)
    (hg : ∀ cl C s H ex, PG (cxComp X scope N cl C s H ex) tg g) (ht : ∀ cl C s H ex, PTs (cxComp X scope N cl C s H ex) ifs tc) (he : ∀ cl C s H ex, PE (cxComp X scope N cl C s H ex) elt te)
    (hs : ∀ x, foldedSetIterable iter X.env x = pure x := by intro _; rfl) : PE X (.ListComp elt [⟨tg, iter, ifs, 0⟩] scope pos) (tComp σ0 wi g tc te) :=
  pe_comp hc hxe hcell hkind hnames (fun y hy hf => absurd hf (hnf y hy)) hσ hi hg ht he hs
theorem add_div (q r : Rat) : q + r = Rat.divInt (q.num * r.den + r.num * q.den) (q.den * r.den) := by
  rw [Rat.add_def', ← Int.natCast_mul, Rat.divInt_ofNat]
end L2

set_option Elab.async false
set_option linter.all false
set_option maxRecDepth 100000
set_option maxHeartbeats 4000000
namespace L2
open PySem PySem.Spec PyProof.Rows
/-! ### repr: what a value is, as plain data -/
mutual
inductive DataV (H : Hp) : V → PyData → Prop
  | non : DataV H .non .none
  | bl (b : Bool) : DataV H (.bl b) (.bool b)
  | int (i : Int) : DataV H (.int i) (.int i)
  | str (x : Str) : DataV H (.str x) (.str x)
  | lst {a : Addr} {xs : List V} {ds : List PyData} : H a = some (.lst xs) → DataL H xs ds → DataV H (.ref a) (.list ds)
  | tup {a : Addr} {xs : List V} {ds : List PyData} : H a = some (.tup xs) → DataL H xs ds → DataV H (.ref a) (.tuple ds)
  | dict {a : Addr} {kvs : List (Key × V)} {ps : List (PyData × PyData)} : H a = some (.dK kvs) → DataL H (kvs.map fun p => kV p.1) (ps.map (·.1)) → DataL H (kvs.map (·.2)) (ps.map (·.2)) → DataV H (.ref a) (.dict ps)
inductive DataL (H : Hp) : List V → List PyData → Prop
  | nil : DataL H [] []
  | cons {x : V} {xs : List V} {d : PyData} {ds : List PyData} : DataV H x d → DataL H xs ds → DataL H (x :: xs) (d :: ds)
end
mutual
def lists : PyData → Bool
  | .list _ => true
  | .tuple xs => listsAll xs
  | .dict kvs => listsKv kvs
  | _ => false
def listsAll : List PyData → Bool
  | [] => false
  | x :: xs => lists x || listsAll xs
def listsKv : List (PyData × PyData) → Bool
  | [] => false
  | (k, v) :: r => lists k || lists v || listsKv r
end
theorem listsKv_eq : ∀ ps : List (PyData × PyData), listsKv ps = false → listsAll (ps.map (·.1)) = false ∧ listsAll (ps.map (·.2)) = false
  | [], _ => ⟨rfl, rfl⟩
  | (k, v) :: r, h => by
    simp only [listsKv, Bool.or_eq_false_iff] at h
    obtain ⟨h1, h2⟩ := listsKv_eq r h.2
    simp only [List.map_cons, listsAll, Bool.or_eq_false_iff]
    exact ⟨⟨h.1.1, h1⟩, ⟨h.1.2, h2⟩⟩
theorem pairs_split {P : Program} {w : World} : ∀ {es : List DictEntry} {vs : List (Key × Value)} {kvs : List (Key × V)}, Pairs (mixKind P w) es vs → KV kvs vs → Vals (kvs.map fun p => kV p.1) (es.map (·.key)) ∧ Vals (kvs.map (·.2)) (es.map (·.val)) := by
  intro es vs kvs h
  induction h generalizing kvs with
  | nil =>
    intro r
    cases r
    exact ⟨.nil, .nil⟩
  | @cons e kv es vs h1 h2 _ ih =>
    intro r
    cases r with
    | @cons p _ kvs' _ hp hr =>
      obtain ⟨a, b⟩ := ih hr
      refine ⟨.cons ?_ a, .cons ?_ b⟩
      · have h1' : keyIs kv.1 e.key = true := h1
        rw [← hp.1] at h1'
        rcases keyIs_shape h1' with ⟨i, t, e1, e2⟩ | ⟨x, t, e1, e2⟩
        · show RelV (kV p.1) e.key
          rw [e1, e2]; exact ⟨t, rfl⟩
        · show RelV (kV p.1) e.key
          rw [e1, e2]; exact ⟨t, rfl⟩
      · show RelV p.2 e.val
        rw [h2]; exact hp.2
mutual
theorem reads_of {P : Program} {w : World} {H : Hp} {h : Heap} (ok : HOk P w H h) : ∀ {v : V} {d : PyData} {u : Value}, DataV H v d → RelV v u → ∃ as, Reads h u d as ∧ (lists d = false → sysModules ∉ as)
  | _, _, _, .non, r => by cases r; exact ⟨[], .none, fun _ => by simp⟩
  | _, _, _, .bl b, r => by cases r; exact ⟨[], .bool b, fun _ => by simp⟩
  | _, _, _, .int i, r => by obtain ⟨t, rfl⟩ := r; exact ⟨[], .int i t, fun _ => by simp⟩
  | _, _, _, .str x, r => by obtain ⟨t, rfl⟩ := r; exact ⟨[], .str x t, fun _ => by simp⟩
  | _, _, _, .lst (a := a) (xs := xs) ha hd, r => by
    cases r
    obtain ⟨_, its, n, rv, e⟩ := ok a _ ha
    obtain ⟨as, hr, _⟩ := readsAll_of ok hd rv
    exact ⟨a :: as, .list e rfl rfl (by simpa using hr), fun z => by simp [lists] at z⟩
  | _, _, _, .tup (a := a) (xs := xs) ha hd, r => by
    cases r
    obtain ⟨_, its, rv, o, e, hc, n, hdt, _⟩ := ok a _ ha
    obtain ⟨as, hr, hs⟩ := readsAll_of ok hd rv
    exact ⟨as, .tuple e hc hdt (by simpa using hr), fun z => hs (by simpa [lists] using z)⟩
  | _, _, _, .dict (a := a) (kvs := kvs) (ps := ps) ha hk hv, r => by
    cases r
    obtain ⟨_, hm, vs, rv, o, es, ep, e, hx, hdt, _, hp, _⟩ := ok a _ ha
    obtain ⟨rk, rvv⟩ := pairs_split hp rv
    obtain ⟨as, hr, hs⟩ := readsAll_of ok hk rk
    obtain ⟨bs, hr', hs'⟩ := readsAll_of ok hv rvv
    refine ⟨a :: as ++ bs, .dict e hx.1 hdt hr hr', fun z => ?_⟩
    obtain ⟨z1, z2⟩ := listsKv_eq ps (by simpa [lists] using z)
    have hne : a ≠ sysModules := by simpa using hm
    simp only [List.cons_append, List.mem_cons, List.mem_append, not_or]
    exact ⟨fun q => hne q.symm, hs z1, hs' z2⟩
theorem readsAll_of {P : Program} {w : World} {H : Hp} {h : Heap} (ok : HOk P w H h) : ∀ {vs : List V} {ds : List PyData} {us : List Value}, DataL H vs ds → Vals vs us → ∃ as, ReadsAll h us ds as ∧ (listsAll ds = false → sysModules ∉ as)
  | _, _, _, .nil, r => by cases r; exact ⟨[], .nil, fun _ => by simp⟩
  | _, _, _, .cons hx hd, r => by
    cases r with
    | cons r1 r2 =>
      obtain ⟨as, h1, s1⟩ := reads_of ok hx r1
      obtain ⟨bs, h2, s2⟩ := readsAll_of ok hd r2
      refine ⟨as ++ bs, .cons h1 h2, fun z => ?_⟩
      simp only [listsAll, Bool.or_eq_false_iff] at z
      simp only [List.mem_append, not_or]
      exact ⟨s1 z.1, s2 z.2⟩
end
theorem bt_repr : bootBuiltins "repr" = some (.builtin "repr") := by decide +kernel
section
variable {X : Cx}
/-- repr(x), x plain data -/
def rRepr : List V → Hp → VK → Prop := fun xs H Q => ∃ v d, xs = [v] ∧ DataV H v d ∧ d.showable = true ∧ (d.hasDict = true → lists d = false) ∧ d.depth ≤ 20 ∧ d.shown.length ≤ sizeLine ∧ Q (.str d.shown) H
theorem call_repr {k : Nat} (hr : Room k X.A) : CallR X (.builtin "repr") rRepr := by
  intro pins s σ H xs us Q I r h
  obtain ⟨v, d, rfl, hd, hs, hl, hdp, hz, q⟩ := h
  obtain ⟨u, rfl, ru⟩ := vals1 r
  obtain ⟨as, rd, hsm⟩ := reads_of I.hok hd ru
  have fin : ∀ h' u tk, (∀ b o, s.heap.get? b = some o → h'.get? b = some o) → EP X pins σ Q (.str d.shown u) { s with heap := h', toks := tk } := fun h' u tk hk =>
    ⟨.str d.shown, H, I.kept (t' := tk) hk, ⟨u, rfl⟩, q⟩
  cases u with
  | ref a => exact repr_of_reads' rd hs (fun z => hsm (hl z)) hr.gd (by have := hr.un; omega) (fun _ _ e => e) fin hz
  | none => cases rd; rw [PyData.shown_none] at fin; exact PySem.P.repr_of_none (fin _ _ _ fun _ _ e => e)
  | bool b => cases rd; rw [PyData.shown_bool] at fin; exact PySem.P.repr_of_bool (fin _ _ _ fun _ _ e => e)
  | int i t => cases rd; rw [PyData.shown_int] at fin; exact PySem.P.repr_of_int (by simpa [PyData.showable] using hs) (fin _ _ _ fun _ _ e => e)
  | str x t => cases rd; rw [PyData.shown_str] at fin hz; exact PySem.P.repr_of_str (fin _ _ _ fun _ _ e => e) hz
  | _ => cases rd
end
end L2

set_option Elab.async false
set_option linter.all false
set_option maxRecDepth 100000
set_option maxHeartbeats 4000000
namespace L2
open PySem PySem.Spec PyProof.Rows MA
mutual
theorem DataV.same {H H' : Hp} (s : Same H H') : ∀ {v : V} {d : PyData}, DataV H v d → DataV H' v d
  | _, _, .non => .non
  | _, _, .bl b => .bl b
  | _, _, .int i => .int i
  | _, _, .str x => .str x
  | _, _, .lst h r => .lst (s _ _ h) (DataL.same s r)
  | _, _, .tup h r => .tup (s _ _ h) (DataL.same s r)
  | _, _, .dict h r q => .dict (s _ _ h) (DataL.same s r) (DataL.same s q)
theorem DataL.same {H H' : Hp} (s : Same H H') : ∀ {vs : List V} {ds : List PyData}, DataL H vs ds → DataL H' vs ds
  | _, _, .nil => .nil
  | _, _, .cons h r => .cons (DataV.same s h) (DataL.same s r)
end
theorem DataL.length {H : Hp} : ∀ {vs : List V} {ds : List PyData}, DataL H vs ds → vs.length = ds.length
  | _, _, .nil => rfl
  | _, _, .cons _ r => by simp [DataL.length r]
structure Sm (n : Nat) (d : PyData) : Prop where
  sh : d.showable = true
  ld : (d.hasDict && lists d) = false
  dp : d.depth ≤ n
  lv : d.leavesShort 40 = true
  bk : d.bulk ≤ n
/-- an int of at most eighteen figures -/
abbrev I18 (i : Int) : Prop := i.natAbs < 1000000000000000000
theorem showable_int {i : Int} (h : I18 i) : PyData.showable (.int i) = true := by
  have h' : i.natAbs < 1000000000000000000 := h
  simp only [PyData.showable, decide_eq_true_eq]
  by_cases z : i.natAbs = 0
  · rw [z]; decide
  · exact (Nat.log2_lt z).mpr (Nat.lt_of_lt_of_le h' (Nat.le_trans (show (1000000000000000000 : Nat) ≤ 2 ^ 60 by decide) (Nat.pow_le_pow_right (by decide) (by decide))))
theorem log_int {i : Int} (h : I18 i) : i.natAbs.log2 < 1920 := by simpa only [PyData.showable, decide_eq_true_eq] using showable_int h
theorem short_int {i : Int} (h : I18 i) : PyData.leavesShort 40 (.int i) = true := by
  have e := int_text_length_le10 (a := i) (k := 18) (by decide) (by have h' : i.natAbs < 1000000000000000000 := h; exact Nat.lt_of_lt_of_le h' (by decide))
  simp only [PyData.leavesShort, decide_eq_true_eq]
  show (Str.ofString (toString i)).length ≤ 40
  rw [PySem.ofString_length]; omega
theorem sm_int {i : Int} (h : I18 i) (n : Nat) : Sm n (.int i) := ⟨showable_int h, rfl, Nat.zero_le _, short_int h, Nat.zero_le _⟩
theorem str_chars (x : String) : (Str.ofString x).cps.toList.all (fun c => decide (c < 16 ^ 8)) = true := by
  rw [Str.ofString_eq_toList]
  simp only [List.all_eq_true, decide_eq_true_eq, List.mem_map]
  rintro c ⟨ch, _, rfl⟩
  have := ch.valid
  have h2 : ch.toNat < 0x110000 := by
    rcases this with h | ⟨_, h⟩
    · exact Nat.lt_trans h (by decide)
    · exact h
  have e : (16 : Nat) ^ 8 = 4294967296 := by decide
  omega
theorem sm_str {x : String} {n : Nat} (h : x.length ≤ n) : Sm n (.str (Str.ofString x)) := ⟨rfl, rfl, Nat.zero_le _, by simp only [PyData.leavesShort]; exact str_chars x, by
  simp only [PyData.bulk]
  show (Str.ofString x).length ≤ n
  rw [PySem.ofString_length]; exact h⟩
theorem sm_text {i : Int} (h : I18 i) : Sm 20 (.str (toString i : String)) := sm_str (by
  have e := int_text_length_le10 (a := i) (k := 18) (by decide) (by have h' : i.natAbs < 1000000000000000000 := h; exact Nat.lt_of_lt_of_le h' (by decide))
  omega)
/-- what the look of a share tells -/
def isI : PyData → Bool
  | .int _ => true
  | _ => false
def lookD : PyData → Bool
  | .tuple [.int a, .int b] => decide (1 ≤ b) && decide (gI a b = 1)
  | _ => false
theorem sh_data {H : Hp} {v : V} {q : Rat} (h : ShAt H v q) : DataV H v (.tuple [.int q.num, .int (q.den : Int)]) := by
  obtain ⟨p, rfl, hp⟩ := h
  exact .tup hp (.cons (.int _) (.cons (.int _) .nil))
end L2
namespace L2
open PySem
theorem bt_str : bootBuiltins "str" = some (.type "str") := by decide +kernel
theorem bt_sum : bootBuiltins "sum" = some (.builtin "sum") := by decide +kernel
theorem bt_any : bootBuiltins "any" = some (.builtin "any") := by decide +kernel
end L2
namespace My
open PySem L2 MA
structure Txt2 (mg : Str → Option Value) : Prop extends Txt mg where
  z_str : mg "str" = none
  z_repr : mg "repr" = none
  z_dict : mg "dict" = none
  z_sum : mg "sum" = none
  z_sorted : mg "sorted" = none
  z_max : mg "max" = none
  z_min : mg "min" = none
  z_any : mg "any" = none
  z_enumerate : mg "enumerate" = none
  z_zip : mg "zip" = none
  z_set : mg "set" = none
  z_reversed : mg "reversed" = none
  z_ValueError : mg "ValueError" = none
def spWholeV : Sp := fun vs H Q _ => ∃ v d, vs = [v] ∧ DataV H v d ∧ Q (.bl (isI d)) H
def spLookV : Sp := fun vs H Q _ => ∃ v d, vs = [v] ∧ DataV H v d ∧ Q (.bl (lookD d)) H
def tyI : PyData → Bool
  | .int _ | .bool _ => true
  | _ => false
def tyB : PyData → Bool
  | .bool _ => true
  | _ => false
def tyT : PyData → Bool
  | .tuple _ => true
  | _ => false
def tyL : PyData → Bool
  | .list _ => true
  | _ => false
theorem tyOf {K : PySem.W.Frag} {H : Hp} {v : V} {d : PyData} (h : DataV H v d) : ∃ t, TyOf K H v (.type t) ∧
    PySem.W.kitOne K (.type t) (.type "int") = some (tyI d) ∧ PySem.W.kitOne K (.type t) (.type "bool") = some (tyB d) ∧
    PySem.W.kitOne K (.type t) (.type "tuple") = some (tyT d) ∧ PySem.W.kitOne K (.type t) (.type "list") = some (tyL d) := by
  cases h with
  | non => exact ⟨_, .non, rfl, rfl, rfl, rfl⟩
  | bl b => exact ⟨_, .bl b, rfl, rfl, rfl, rfl⟩
  | int i => exact ⟨_, .int i, rfl, rfl, rfl, rfl⟩
  | str x => exact ⟨_, .str x, rfl, rfl, rfl, rfl⟩
  | lst h _ => exact ⟨_, .lst h, rfl, rfl, rfl, rfl⟩
  | tup h _ => exact ⟨_, .tup h, rfl, rfl, rfl, rfl⟩
  | dict h _ _ => exact ⟨_, .dK h, rfl, rfl, rfl, rfl⟩
end My

set_option Elab.async false
set_option linter.all false
set_option maxRecDepth 100000
set_option maxHeartbeats 4000000
namespace L2
open PySem PySem.Spec PyProof.Rows
def notStar : Expr → Bool
  | .Starred _ _ => false
  | _ => true
theorem star_cons {e : Expr} {es : List Expr} {env : Env} (h : notStar e = true) : starEach (e :: es) env = (false, eval e env) :: starEach es env := by
  cases e <;> first | rfl | exact absurd h (by simp [notStar])
section
variable {X : Cx} {e : Expr} {es : List Expr} {te : TE} {t : TA} {pos : Pos}
/-- an item of a row, whose rest may be long -/
theorem pa_consN (ha : PE X e te) (hr : PA X es t) (hn : notStar e = true := by rfl) : PA X (e :: es) (tCons te t) := pa_cons ha hr (star_cons hn)
end
end L2
namespace L2
end L2
namespace L2
end L2

set_option Elab.async false
set_option linter.all false
set_option maxRecDepth 100000
set_option maxHeartbeats 4000000
namespace L2
open PySem PySem.Spec PyProof.Rows
theorem comp_core {X : Cx} {elt tg iter : Expr} {ifs : List Expr} {scope : Scope} {pos pos2 : Pos} {wi : TI} {g : TG} {tc : TT} {te : TE} {N : List Str} {σ0 : St → St} {pins : List (Addr × Obj)} {s : Shared} {σ : St} {H : Hp} {Q : VK} {use : Option (Value → Sem Unit)} {QQ : Value → Shared → Prop}
    (hc : X.calm = true) (hxe : ∀ e s, X.xe e s → False) (hcell : ∀ y ∈ scope.names, y.2 ≠ .cell) (hkind : scope.kind = .function) (hnames : ∀ y ∈ scope.names, y.2 = .local → scope.names.lookup y.1 = some .local)
    (hfr : ∀ y ∈ scope.names, y.2 = .free → X.env.kindOf y.1 = some .cell ∨ X.env.kindOf y.1 = some .free) (hσ : Sees X scope N σ0)
    (hi : PI X tg iter wi)
    (hg : ∀ cl C s H ex, PG (cxComp X scope N cl C s H ex) tg g) (ht : ∀ cl C s H ex, PTs (cxComp X scope N cl C s H ex) ifs tc) (he : ∀ cl C s H ex, PE (cxComp X scope N cl C s H ex) elt te)
    (hs : ∀ x, foldedSetIterable iter X.env x = pure x) (I : Inv X pins σ H s) (h : tComp σ0 wi g tc te σ H Q)
    (hend : ∀ (p C : Addr) (H' : Hp) (s' : Shared) (m : Str → Option Value) (f : Flow), Inv X pins σ H' s' → FpOk X pins H' C → s'.heap.Ns C m → (∀ h', Heap.SameBut C s'.heap h' → Inv X pins σ H' { s' with heap := h' }) → Q (.ref p) H' →
      compPost (model X.prog X.w) X.A X.xe use QQ (.ref p) C (.ok f) s') :
    wpAny (model X.prog X.w) X.A (comprehension (.ListComp elt [⟨tg, iter, ifs, 0⟩] scope pos) scope X.env pos2 (newList []) false (eval iter X.env) use) QQ X.xe s := by
  obtain ⟨cl, hclos, hcl1, hcl2⟩ := closure_of (env := X.env) (scope := scope) fun y hy hf => I.ok.has y.1 (hfr y hy hf)
  refine wpAny_comprehension_free (use := use) rfl hs hclos hkind hnames (thn (hi pins s σ H _ I h) fun v s1 h1 => thn h1 fun itv s2 h2 => ?_)
  obtain ⟨it, fp, tn, J, H2, e, I2, T, st2, f2, h3⟩ := h2
  subst e
  have hpn : H2 s2.heap.objs.size = none := I2.hok.fresh (Nat.le_refl _)
  obtain ⟨W, ⟨m0, w0⟩, turn⟩ := h3 _ hpn
  refine wpAny_newObj_type ?_
  generalize hp : s2.heap.objs.size = p at *
  have I3 : Inv X pins σ (upd H2 p (.lst [])) { s2 with heap := s2.heap.push { cls := .type "list", dict := none, data := .seq ([] : List Value).toArray } } := by
    refine I2.laid (a := p) (o := .lst []) (t' := s2.toks) (fun b u q => Heap.get?_push_of_some _ q) (Nat.le_of_eq hp) ⟨Nat.zero_le _, [], 0, .nil, ?_⟩
    rw [← hp]
    exact Heap.get?_push_size _ rfl
  have hf3 : ∀ b ∈ fp, FpOk X pins (upd H2 p (.lst [])) b := fun b hb => by
    obtain ⟨o, ho, _⟩ := T.obj _ _ st2 b hb
    have : b ≠ p := by rw [← hp]; exact Nat.ne_of_lt (Heap.lt_size ho)
    exact ⟨by rw [upd_ne this]; exact (f2 b hb).1, (f2 b hb).2⟩
  generalize hs3 : ({ s2 with heap := s2.heap.push { cls := .type "list", dict := none, data := .seq ([] : List Value).toArray } } : Shared) = s3 at *
  have st3 : tn 0 s3.heap := by rw [← hs3]; exact T.keep _ _ _ st2 fun b _ o e => Heap.get?_push_of_some _ e
  generalize hH3 : upd H2 p (.lst []) = H3 at *
  refine wpAny_newFunctionEnv hcell (by intro y hy; simp at hy) (fun h1 hns1 hsb1 => ?_) hkind
  generalize hC : s3.heap.objs.size = C at *
  have keep : ∀ b u, s3.heap.get? b = some u → h1.get? b = some u := fun b u q =>
    hsb1.extBut b u (by rw [← hC]; exact Nat.ne_of_lt (Heap.lt_size q)) (Heap.get?_push_of_some _ q)
  have fpC : ∀ b ∈ fp, b ≠ C := fun b hb => by
    obtain ⟨o, ho, _⟩ := T.obj _ _ st3 b hb
    rw [← hC]; exact Nat.ne_of_lt (Heap.lt_size ho)
  have hCn : H3 C = none := I3.hok.fresh (Nat.le_of_eq hC)
  -- the block's own invariant, at its entry
  have ok' : (cxComp X scope N cl C s3 H3 fp).Ok := by
    refine ⟨I3.mod, hkind, I3.ok.glob, I3.ok.blt, Nat.le_of_eq hC, fun x y c a b => I3.ok.inj x y c (hcl1 x c a) (hcl1 y c b), fun x hx => ?_, fun _ _ z => Bool.noConfusion (show false = true from z), I3.ok.hd, I3.ok.frames, .inl rfl, fun b hb => ⟨fpC b hb, fun x c q => (hf3 b hb).2.2.2.2.1 x c (hcl1 x c q)⟩,
      I3.bs, Nat.le_trans I3.ok.bsz I3.sz, fun b o e hb => ?_, fun b hb z => ?_, I3.stack, I3.stkFree⟩
    · have hx' : (relabel scope X.env).names.lookup x = some .cell ∨ (relabel scope X.env).names.lookup x = some .free := hx
      rcases hx' with z | z
      · rcases lookup_relabel_mem z with y | ⟨_, y⟩
        · exact absurd rfl (hcell _ y)
        · exact hcl2 x y
      · rcases lookup_relabel_mem z with y | ⟨y, _⟩
        · exact hcl2 x y
        · cases y
    · rcases (hf3 b hb).2.2.2.1 with z | z
      · exact I3.ok.noex b o e z
      · exact absurd (Nat.lt_of_lt_of_le (Heap.lt_size e) (Nat.le_trans I3.ok.bsz z)) (Nat.lt_irrefl _)
    · rcases List.mem_cons.mp (I3.stkSub b z) with q | q
      · exact (hf3 b hb).2.1 q
      · exact (hf3 b hb).2.2.1 q
  have J0 : Inv (cxComp X scope N cl C s3 H3 fp) [] (σ0 σ) H3 { s3 with heap := h1, toks := s3.toks + ([] : List (Str × Value)).length } := by
    refine ⟨ok', rfl, I3.bare, Un.kept keep, ⟨_, hns1, fun i x v a b c => ?_⟩, fun x c q => ?_, hCn, fun x c q => I3.freeC x c (hcl1 x c q), fun q hq => absurd (show q ∈ ([] : List (Addr × Obj)) from hq) (by simp), I3.hok.kept keep, (hσ σ).1⟩
    · obtain ⟨hf, j, hj, hv⟩ := (hσ σ).2 i x v a b
      have hm := mem_of_lookupF hf
      obtain ⟨m, hn, hl⟩ := id I3.loc
      have hk := hfr _ hm rfl
      have hvis : Vis X.env.scope x := hk.elim (fun z => .inr (.inl z)) fun z => .inr (.inr z)
      obtain ⟨u, r, lk⟩ := hl j x v hj hv hvis
      refine ⟨u, r, .inr ⟨lookup_relabel_free hf, ?_⟩⟩
      obtain ⟨c', hc'⟩ := hcl2 x hm
      refine ⟨c', hc', ?_⟩
      have hx := hcl1 x c' hc'
      rcases lk with ⟨kl, _⟩ | ⟨_, c2, e2, o2, ho2, hd2⟩
      · rcases hk with z | z <;> rw [kl] at z <;> cases z
      · rw [hx] at e2
        cases e2
        exact ⟨o2, keep _ _ ho2, hd2⟩
    · obtain ⟨v, o, ho, hd⟩ := I3.cell x c (hcl1 x c q)
      exact ⟨v, o, keep _ _ ho, hd⟩
  have st4 : tn 0 h1 := T.keep _ _ _ st3 fun b _ o e => keep b o e
  have stat : ∀ {H' : Hp}, (∀ b ∈ fp, H' b = none) → ∀ b ∈ fp, FpOk (cxComp X scope N cl C s3 H3 fp) [] H' b := fun hn b hb =>
    ⟨hn b hb, fpC b hb, fun z => ok'.exfs b hb z, .inl hb, fun x c q => (hf3 b hb).2.2.2.2.1 x c (hcl1 x c q), fun q hq => absurd (show q ∈ ([] : List (Addr × Obj)) from hq) (by simp)⟩
  -- back to the def
  have back : ∀ {σ' : St} {H' : Hp} {s' : Shared} {pl : List (Addr × Obj)}, Inv (cxComp X scope N cl C s3 H3 fp) pl σ' H' s' → ∀ h', Heap.SameBut C s'.heap h' → Inv X pins σ H' { s' with heap := h' } := fun {σ' H' s' pl} J h' hsb => by
    have I5 : Inv X pins σ H' s' := Inv.call' (ch := fp) I3 J.os J.base J.hok J.bare fun b hb => ⟨(hf3 b hb).2.2.2.1, (hf3 b hb).2.1, (hf3 b hb).2.2.2.2.1, (hf3 b hb).2.2.2.2.2⟩
    refine Inv.turned (it := C) (t' := s'.toks) I5 (fun b o hb e => hsb.extBut b o hb e) J.free (fun z => ?_) (.inr ?_) (fun x c q z => ?_) fun q hq z => ?_
    · exact absurd (show X.env.locals < C by rw [← hC]; exact I3.lt) (by rw [z]; exact Nat.lt_irrefl _)
    · rw [← hC]; exact I3.sz
    · obtain ⟨v, o, ho, _⟩ := I3.cell x c q
      have := Heap.lt_size ho
      rw [z, hC] at this
      exact Nat.lt_irrefl _ this
    · have := Heap.lt_size (I3.pin q hq).1
      rw [z, hC] at this
      exact Nat.lt_irrefl _ this
  have loop : codeAny (model X.prog X.w) X.A (.compLoop (.ListComp elt [⟨tg, iter, ifs, 0⟩] scope pos) 0 (.ref it) (.ref p) (compEnvC scope cl C X.env)) (compPost (model X.prog X.w) X.A X.xe use QQ (.ref p) C) { s3 with heap := h1, toks := s3.toks + ([] : List (Str × Value)).length } := by
    refine codeAny_loop rfl (fun n s' => ∃ i ys σ' H', Inv (cxComp X scope N cl C s3 H3 fp) [] σ' H' s' ∧ tn i s'.heap ∧ (∀ b ∈ fp, H' b = none) ∧ W i n ys σ' H') (fun n s' hI => ?_) m0 ⟨0, [], σ0 σ, H3, J0, st4, fun b hb => (hf3 b hb).1, w0⟩
    obtain ⟨i, ys, σ', H', J', st', fr', w'⟩ := hI
    show wpAny _ X.A ((compTurn (.ListComp elt [⟨tg, iter, ifs, 0⟩] scope pos) 0 (.ref it) (.ref p) (compEnvC scope cl C X.env)).onRaise (fun x => do noteFrame x (compEnvC scope cl C X.env); theTreesLotGoes x)) _ _ s'
    refine wpAny_noted ?_
    rw [compTurn_list]
    rcases turn i n ys σ' H' w' with ⟨stop, q⟩ | ⟨go, step⟩
    · refine wpAny_bind (wpAny_standAt (wpAny_bind (wpAny_mono (T.done (cxComp X scope N cl C s3 H3 fp) rfl rfl rfl hc i [] s' σ' H' X.xe J' (stat fr') st' stop) (fun r s4 h4 => ?_) fun _ _ x => (hxe _ _ x).elim)))
      obtain ⟨hr, I4⟩ := h4
      subst hr
      refine wpAny_pure ?_
      obtain ⟨m, hn, _⟩ := id I4.loc
      have I5 : Inv X pins σ H' s4 := Inv.call' (ch := fp) I3 I4.os I4.base I4.hok I4.bare fun b hb => ⟨(hf3 b hb).2.2.2.1, (hf3 b hb).2.1, (hf3 b hb).2.2.2.2.1, (hf3 b hb).2.2.2.2.2⟩
      exact hend p C H' s4 m _ I5 (I3.fpOk (Nat.le_of_eq hC) I4.free) hn (fun h' hsb => back I4 h' hsb) q
    · refine wpAny_bind (wpAny_standAt (wpAny_bind (wpAny_mono (T.item (cxComp X scope N cl C s3 H3 fp) rfl rfl rfl hc i [] s' σ' H' X.xe J' (stat fr') st' go) (fun r s4 h4 => ?_) fun _ _ x => (hxe _ _ x).elim)))
      obtain ⟨u, hr, h4⟩ := h4
      subst hr
      refine wpAny_bind (wpAny_mono h4 (fun _ s5 h5 => ?_) fun _ _ x => (hxe _ _ x).elim)
      obtain ⟨x, H5, I5, r5, y5, st5, fr5⟩ := h5
      have I5' := I5.pinned (stat fr5) (T.obj _ _ st5)
      refine wpAny_bind (wpAny_mono (hg cl C s3 H3 fp _ s5 σ' H5 x u _ I5' r5 (step x H5 y5)) (fun _ s6 h6 => ?_) fun _ _ x => (hxe _ _ x).elim)
      obtain ⟨σ6, H6, I6, q6⟩ := h6
      have again : ∀ {σ7 : St} {H7 : Hp} {s7 : Shared} {ys7 : List V}, Inv (cxComp X scope N cl C s3 H3 fp) ([] ++ pinsAt fp s5.heap) σ7 H7 s7 → (∃ m', m' < n ∧ W (i + 1) m' ys7 σ7 H7) →
          ∃ m, m < n ∧ ∃ i ys σ' H', Inv (cxComp X scope N cl C s3 H3 fp) [] σ' H' s7 ∧ tn i s7.heap ∧ (∀ b ∈ fp, H' b = none) ∧ W i m ys σ' H' := fun {σ7 H7 s7 ys7} I7 n7 => by
        obtain ⟨m', hm, w7⟩ := n7
        refine ⟨m', hm, i + 1, ys7, σ7, H7, I7.unpinned, T.keep _ _ _ st5 fun b hb o e => (I7.pin (b, o) (List.mem_append_right _ (List.mem_append_right _ (mem_pinsAt hb e)))).1, fun b hb => ?_, w7⟩
        obtain ⟨o, e, d⟩ := T.obj _ _ st5 b hb
        exact (I7.pin (b, o) (List.mem_append_right _ (List.mem_append_right _ (mem_pinsAt hb e)))).2.1
      refine wpAny_bind (wpAny_mono (ht cl C s3 H3 fp _ s6 σ6 H6 _ I6 q6) (fun ok s7 h7 => ?_) fun _ _ x => (hxe _ _ x).elim)
      obtain ⟨H7, I7, q7⟩ := h7
      cases ok with
      | false =>
        rw [if_neg Bool.false_ne_true] at q7
        exact wpAny_pure ⟨rfl, again I7 q7⟩
      | true =>
        rw [if_pos rfl] at q7
        refine wpAny_bind (wpAny_bind (wpAny_mono (he cl C s3 H3 fp _ s7 σ6 H7 _ I7 q7) (fun y s8 h8 => ?_) fun _ _ x => (hxe _ _ x).elim))
        obtain ⟨v, H8, I8, r8, hz, hH8, w8⟩ := h8
        refine wpAny_bind (wpAny_mono (mt_append (X := cxComp X scope N cl C s3 H3 fp) _ s8 σ6 H8 (.ref p) [v] (.ref p) [y] (fun x H9 => x = .non ∧ H9 = upd H8 p (.lst (ys ++ [v]))) I8 rfl (.cons r8 .nil) ⟨p, ys, v, rfl, rfl, hH8, hz, rfl, rfl⟩) (fun _ s9 h9 => ?_) fun _ _ x => (hxe _ _ x).elim)
        obtain ⟨z, H9, I9, _, _, e9⟩ := h9
        subst e9
        exact wpAny_pure (wpAny_pure ⟨rfl, again I9 w8⟩)
  exact codeAny_compStart_list loop (T.self X.A 0 _ _ _ st4 loop)
theorem ps_comp {X : Cx} {elt tg iter : Expr} {ifs : List Expr} {scope : Scope} {pos spos py : Pos} {wi : TI} {g : TG} {tc : TT} {te : TE} {N : List Str} {σ0 : St → St} {i : Nat} {y : Str}
    (hN : X.N.Nodup) (hiy : X.N[i]? = some y) (hy : Loc X.env.scope y)
    (hc : X.calm = true) (hxe : ∀ e s, X.xe e s → False) (hcell : ∀ y ∈ scope.names, y.2 ≠ .cell) (hkind : scope.kind = .function) (hnames : ∀ y ∈ scope.names, y.2 = .local → scope.names.lookup y.1 = some .local)
    (hfr : ∀ y ∈ scope.names, y.2 = .free → X.env.kindOf y.1 = some .cell ∨ X.env.kindOf y.1 = some .free) (hσ : Sees X scope N σ0)
    (hi : PI X tg iter wi)
    (hg : ∀ cl C s H ex, PG (cxComp X scope N cl C s H ex) tg g) (ht : ∀ cl C s H ex, PTs (cxComp X scope N cl C s H ex) ifs tc) (he : ∀ cl C s H ex, PE (cxComp X scope N cl C s H ex) elt te)
    (hs : ∀ x, foldedSetIterable iter X.env x = pure x := by intro _; rfl) (hsw : swapsWith (.ListComp elt [⟨tg, iter, ifs, 0⟩] scope pos) (some (.Name y py)) spos.line X.env = pure true := by rfl)
    (hf : X.fn y = true ∨ X.env.scope.names.lookup y = some .local := by first | exact .inl rfl | exact .inr rfl | assumption) :
    PS X (.Assign [.Name y py] (.ListComp elt [⟨tg, iter, ifs, 0⟩] scope pos) spos) (tAsg (tComp σ0 wi g tc te) (gName i)) := by
  intro pins s σ H D I h
  rw [exec_Assign_Name_used _ _ _ _ hsw]
  refine wpAny_bind (wpAny_standAt (wpAny_bind ?_))
  show wpAny _ X.A (do let _ ← comprehension (.ListComp elt [⟨tg, iter, ifs, 0⟩] scope pos) scope X.env _ (newList []) false (eval iter X.env) (some (assign (.Name y py) X.env))) _ _ s
  refine wpAny_bind (wpAny_mono (comp_core (use := some (assign (.Name y py) X.env)) (QQ := fun _ s' => SP X pins D .next s') hc hxe hcell hkind hnames hfr hσ hi hg ht he hs I h ?_) (fun _ s' hq => wpAny_pure (wpAny_pure hq)) fun _ _ e => e)
  intro p C H' s' m f I5 fC hn back q
  show wpAny _ X.A (assign (.Name y py) X.env (.ref p)) _ _ _
  have hnC := id hn
  obtain ⟨o, es, ep, ho, hd, _⟩ := hnC
  have Ip := I5.pinned (fp := [C]) (fun b hb => by rw [List.mem_singleton.mp hb]; exact fC) (fun b hb => ⟨o, by rw [List.mem_singleton.mp hb]; exact ho, fun v z => by rw [hd] at z; cases z⟩)
  refine wpAny_mono (pg_name (pos := py) hN hiy hy hf (pins ++ pinsAt [C] s'.heap) s' σ H' (.ref p) (.ref p) _ Ip rfl q) (fun _ s2 h2 => ?_) fun _ _ e => e
  obtain ⟨σ2, H2, I2, q2⟩ := h2
  have hp2 := I2.pin (C, o) (List.mem_append_right _ (List.mem_append_right _ (mem_pinsAt (by simp) ho)))
  refine ⟨m, hn.at' (fun o' e => ?_), fun h' hsb => ⟨σ2, H2, ?_, q2⟩⟩
  · rw [ho] at e; cases e; exact hp2.1
  · exact Inv.turned (it := C) (t' := s2.toks) I2.unpinned (fun b o hb e => hsb.extBut b o hb e) hp2.2.1 hp2.2.2.1 fC.2.2.2.1 fC.2.2.2.2.1 fC.2.2.2.2.2
end L2
namespace L2
open PySem PySem.Spec PyProof.Rows
end L2

set_option Elab.async false
set_option linter.all false
set_option maxRecDepth 100000
set_option maxHeartbeats 4000000
namespace L2
open PySem PySem.Spec PyProof.Rows MA
/-- a comprehension's names: its own, then the def's that it reads -/
theorem Sees.frees {X : Cx} {scope : Scope} (ks : List Str) (fs : List (Str × Nat)) (h : ∀ p ∈ fs, scope.names.lookup p.1 = some .free ∧ X.N[p.2]? = some p.1) :
    Sees X scope (ks ++ fs.map (·.1)) (fun σ => ks.map (fun _ => none) ++ fs.map fun p => σ.getD p.2 none) := by
  intro σ
  refine ⟨by simp, fun i x v h1 h2 => ?_⟩
  by_cases hi : i < ks.length
  · rw [List.getElem?_append_left (by simpa using hi), List.getElem?_map] at h2
    cases e : ks[i]? with
    | none => rw [e] at h2; cases h2
    | some y => rw [e] at h2; cases h2
  · rw [List.getElem?_append_right (by omega), List.getElem?_map] at h1
    rw [List.getElem?_append_right (by simp; omega), List.getElem?_map, List.length_map] at h2
    cases e : fs[i - ks.length]? with
    | none => rw [e] at h1; cases h1
    | some p =>
      rw [e] at h1 h2
      cases h1
      obtain ⟨a, b⟩ := h p (List.mem_of_getElem? e)
      refine ⟨a, p.2, b, ?_⟩
      have h3 : σ.getD p.2 none = some v := by simpa using h2
      rw [List.getD_eq_getElem?_getD] at h3
      cases z : σ[p.2]? with
      | none => rw [z] at h3; cases h3
      | some u => rw [z] at h3; exact congrArg some h3
/-- [.. for k in range(n)], no test -/
theorem comp_rng {n : Nat} {lo : Int} {te : TE} {H : Hp} {R : Addr → Hp → Prop} {fs : St} (Pv : Addr → Nat → List V → Hp → Prop) (hn : n ≤ 100000) (hp0 : ∀ p, H p = none → Pv p 0 [] (upd H p (.lst [])))
    (hte : ∀ p i ys H', H p = none → i < n → ys.length = i → Pv p i ys H' → H' p = some (.lst ys) → ∀ Q' : VK, (∀ v H'', H'' p = some (.lst ys) → Pv p (i + 1) (ys ++ [v]) (upd H'' p (.lst (ys ++ [v]))) → Q' v H'') → te (some (.int (lo + i)) :: fs) H' Q')
    (q : ∀ p ys H', H p = none → Pv p n ys H' → H' p = some (.lst ys) → ys.length = n → R p H') :
    ∀ p, H p = none → ∃ W : Nat → Nat → List V → St → Hp → Prop, (∃ m, W 0 m [] (none :: fs) (upd H p (.lst []))) ∧ ∀ i m ys σ' H', W i m ys σ' H' →
      ((Itr lo n).stop i H' ∧ R p H') ∨ ((Itr lo n).go i H' ∧ ∀ x H2, (Itr lo n).yld i H' x H2 → gName 0 x σ' H2 fun σ2 H3 => tTT σ2 H3 fun b H4 => if b = true then te σ2 H4 fun v H5 => ys.length < sizeLine ∧ H5 p = some (.lst ys) ∧ (∃ m', m' < m ∧ W (i + 1) m' (ys ++ [v]) σ2 (upd H5 p (.lst (ys ++ [v]))))
        else ∃ m', m' < m ∧ W (i + 1) m' ys σ2 H4) := by
  intro p hp
  refine ⟨fun i m ys σ' H' => m = n - i ∧ i ≤ n ∧ ys.length = i ∧ Pv p i ys H' ∧ H' p = some (.lst ys) ∧ ∃ o, σ' = o :: fs, ⟨n, by simp, Nat.zero_le _, rfl, hp0 p hp, upd_same, _, rfl⟩, ?_⟩
  rintro i m ys σ' H' ⟨rfl, hi, hl, pv, hp', o, rfl⟩
  by_cases hlt : i < n
  · refine .inr ⟨hlt, fun x H2 hy => ?_⟩
    obtain ⟨rfl, rfl⟩ := hy
    change te (some (.int (lo + i)) :: fs) H2 _
    refine hte p i ys H2 hp hlt hl pv hp' _ fun v H5 h5 pv5 => ⟨?_, h5, n - (i + 1), by omega, rfl, hlt, by simp [hl], pv5, upd_same, _, rfl⟩
    rw [hl, sizeLine_eq]; omega
  · have e : i = n := by omega
    subst e
    exact .inl ⟨Nat.le_refl _, q p ys H' hp pv hp' hl⟩
/-! ### sums over one common bottom -/
end L2
namespace L2
open PySem
theorem fr_nil {C : Str × Nat → Prop} : ∀ p ∈ ([] : List (Str × Nat)), C p := fun _ h => nomatch h
theorem fr_cons {C : Str × Nat → Prop} {a : Str × Nat} {l : List (Str × Nat)} (h : C a) (t : ∀ p ∈ l, C p) : ∀ p ∈ a :: l, C p := fun p hp => (List.mem_cons.mp hp).elim (fun e => e ▸ h) (t p)
theorem hfr_of {scope : Scope} {env : Env} (h : scope.names.all (fun y => y.2 != .free || env.kindOf y.1 == some .cell || env.kindOf y.1 == some .free) = true) : ∀ y ∈ scope.names, y.2 = .free → env.kindOf y.1 = some .cell ∨ env.kindOf y.1 = some .free := by
  intro y hy hf
  have := List.all_eq_true.mp h y hy
  rw [hf] at this
  simpa using this
end L2

set_option Elab.async false
set_option linter.all false
set_option maxRecDepth 100000
set_option maxHeartbeats 4000000
namespace L2
open PySem PySem.Spec PyProof.Rows
section
variable {X : Cx}
/-- sum(xs), xs a list of ints -/
def rSum (K : PySem.W.Frag) : List V → Hp → VK → Prop := fun xs H Q => ∃ (l : Addr) (ns : List Int), xs = [.ref l] ∧ SqL K H l (ns.map V.int) ∧ Q (.int ns.sum) H
theorem call_sum (hc : X.calm = true) : CallR X (.builtin "sum") (rSum X.K) := by
  intro pins s σ H xs us Q I r h
  obtain ⟨l, ns, rfl, hl, q⟩ := h
  obtain ⟨u, rfl, ru⟩ := vals1 r
  cases ru
  obtain ⟨its, rv, p, hz⟩ := I.list hl
  have hi := intsAre_of rv
  obtain ⟨ys, e⟩ := hi.allInts.items
  have hnum : ns = ys.toList.map (·.1) := by
    have h1 := hi.numsOf
    have h2 := nums_intItems ys
    rw [← e] at h2
    rw [← h1, ← h2]
  refine sum_intListG (I.ok.hd hc) (xs := ys) (by rw [← e]; exact p.isList) fun h' tk t' hk => ?_
  refine ⟨.int ns.sum, H, I.kept (t' := tk) hk, ⟨t', ?_⟩, q⟩
  rw [preSum_eq, List.take_of_length_le (by simp), hnum]
end
end L2
namespace L2
open PySem PySem.Spec PyProof.Rows MA
/-- [.. for x in xs], xs a list, no test -/
theorem comp_lst {K : PySem.W.Frag} {a : Addr} {xs : List V} {te : TE} {H : Hp} {R : Addr → Hp → Prop} {fs : St} (Pv : Addr → Nat → List V → Hp → Prop) (hn : xs.length ≤ 100000) (hp0 : ∀ p, H p = none → Pv p 0 [] (upd H p (.lst [])))
    (hl : ∀ p i ys H', H p = none → Pv p i ys H' → H' a = some (.lst xs))
    (hte : ∀ p i ys H' x, H p = none → xs[i]? = some x → ys.length = i → Pv p i ys H' → H' p = some (.lst ys) → ∀ Q' : VK, (∀ v H'', H'' p = some (.lst ys) → Pv p (i + 1) (ys ++ [v]) (upd H'' p (.lst (ys ++ [v]))) → Q' v H'') → te (some x :: fs) H' Q')
    (q : ∀ p ys H', H p = none → Pv p xs.length ys H' → H' p = some (.lst ys) → ys.length = xs.length → R p H') :
    ∀ p, H p = none → ∃ W : Nat → Nat → List V → St → Hp → Prop, (∃ m, W 0 m [] (none :: fs) (upd H p (.lst []))) ∧ ∀ i m ys σ' H', W i m ys σ' H' →
      ((Itl K a).stop i H' ∧ R p H') ∨ ((Itl K a).go i H' ∧ ∀ x H2, (Itl K a).yld i H' x H2 → gName 0 x σ' H2 fun σ2 H3 => tTT σ2 H3 fun b H4 => if b = true then te σ2 H4 fun v H5 => ys.length < sizeLine ∧ H5 p = some (.lst ys) ∧ (∃ m', m' < m ∧ W (i + 1) m' (ys ++ [v]) σ2 (upd H5 p (.lst (ys ++ [v]))))
        else ∃ m', m' < m ∧ W (i + 1) m' ys σ2 H4) := by
  intro p hp
  refine ⟨fun i m ys σ' H' => m = xs.length - i ∧ i ≤ xs.length ∧ ys.length = i ∧ Pv p i ys H' ∧ H' p = some (.lst ys) ∧ ∃ o, σ' = o :: fs, ⟨xs.length, by simp, Nat.zero_le _, rfl, hp0 p hp, upd_same, _, rfl⟩, ?_⟩
  rintro i m ys σ' H' ⟨rfl, hi, hlen, pv, hp', o, rfl⟩
  have hla := hl p i ys H' hp pv
  by_cases hlt : i < xs.length
  · refine .inr ⟨⟨xs, xs[i], SqL.of hla, List.getElem?_eq_getElem hlt⟩, fun x H2 hy => ?_⟩
    obtain ⟨rfl, hx⟩ := hy
    have hx' := hx xs (SqL.of hla)
    change te (some x :: fs) H2 _
    refine hte p i ys H2 x hp hx' hlen pv hp' _ fun v H5 h5 pv5 => ⟨?_, h5, xs.length - (i + 1), by omega, rfl, hlt, by simp [hlen], pv5, upd_same, _, rfl⟩
    rw [hlen, sizeLine_eq]; omega
  · have e : i = xs.length := by omega
    subst e
    exact .inl ⟨⟨xs, SqL.of hla, Nat.le_refl _⟩, q p ys H' hp pv hp' hlen⟩
/-- pairs of ints in the heap -/
def PrAt (H : Hp) (v : V) (p : Int × Int) : Prop := ∃ a, v = .ref a ∧ H a = some (.tup [.int p.1, .int p.2])
end L2

set_option Elab.async false
set_option linter.all false
set_option maxRecDepth 100000
set_option maxHeartbeats 4000000
namespace L2
open PySem PySem.Spec PyProof.Rows
end L2
namespace L2
open PySem PySem.Spec PyProof.Rows MA
section
variable {X : Cx}
/-- items by their place, the heap named alone (for use in a comprehension) -/
theorem ix_list0 : IxR X (fun x y H Q => ∃ p xs i v, x = .ref p ∧ y = .int i ∧ H p = some (.lst xs) ∧ atI xs i = some v ∧ Q v H) := by
  intro value slice pins s σ H x y v u Q I rx ry h hs
  obtain ⟨p, xs, i, w', e1, e2, hp, ha, q⟩ := h
  exact ix_list value slice pins s σ H x y v u Q I rx ry ⟨p, xs, i, w', e1, e2, SqL.of hp, ha, q⟩ hs
theorem ix_tup0 : IxR X (fun x y H Q => ∃ p xs i v, x = .ref p ∧ y = .int i ∧ H p = some (.tup xs) ∧ atI xs i = some v ∧ Q v H) := by
  intro value slice pins s σ H x y v u Q I rx ry h hs
  obtain ⟨p, xs, i, w', e1, e2, hp, ha, q⟩ := h
  exact ix_tup value slice pins s σ H x y v u Q I rx ry ⟨p, xs, i, w', e1, e2, SqT.of hp, ha, q⟩ hs
def rSum0 : List V → Hp → VK → Prop := fun xs H Q => ∃ (l : Addr) (ns : List Int), xs = [.ref l] ∧ H l = some (.lst (ns.map V.int)) ∧ Q (.int ns.sum) H
theorem call_sum0 (hc : X.calm = true) : CallR X (.builtin "sum") rSum0 := by
  intro pins s σ H xs us Q I r h
  obtain ⟨l, ns, e, hl, q⟩ := h
  exact call_sum hc pins s σ H xs us Q I r ⟨l, ns, e, SqL.of hl, q⟩
end
/-- [.. for x in t], t a tuple, no test -/
theorem comp_tp {K : PySem.W.Frag} {a : Addr} {xs : List V} {te : TE} {H : Hp} {R : Addr → Hp → Prop} {fs : St} (Pv : Addr → Nat → List V → Hp → Prop) (hn : xs.length ≤ 100000) (hp0 : ∀ p, H p = none → Pv p 0 [] (upd H p (.lst [])))
    (hl : ∀ p i ys H', H p = none → Pv p i ys H' → H' a = some (.tup xs))
    (hte : ∀ p i ys H' x, H p = none → xs[i]? = some x → ys.length = i → Pv p i ys H' → H' p = some (.lst ys) → ∀ Q' : VK, (∀ v H'', H'' p = some (.lst ys) → Pv p (i + 1) (ys ++ [v]) (upd H'' p (.lst (ys ++ [v]))) → Q' v H'') → te (some x :: fs) H' Q')
    (q : ∀ p ys H', H p = none → Pv p xs.length ys H' → H' p = some (.lst ys) → ys.length = xs.length → R p H') :
    ∀ p, H p = none → ∃ W : Nat → Nat → List V → St → Hp → Prop, (∃ m, W 0 m [] (none :: fs) (upd H p (.lst []))) ∧ ∀ i m ys σ' H', W i m ys σ' H' →
      ((Itt K a).stop i H' ∧ R p H') ∨ ((Itt K a).go i H' ∧ ∀ x H2, (Itt K a).yld i H' x H2 → gName 0 x σ' H2 fun σ2 H3 => tTT σ2 H3 fun b H4 => if b = true then te σ2 H4 fun v H5 => ys.length < sizeLine ∧ H5 p = some (.lst ys) ∧ (∃ m', m' < m ∧ W (i + 1) m' (ys ++ [v]) σ2 (upd H5 p (.lst (ys ++ [v]))))
        else ∃ m', m' < m ∧ W (i + 1) m' ys σ2 H4) := by
  intro p hp
  refine ⟨fun i m ys σ' H' => m = xs.length - i ∧ i ≤ xs.length ∧ ys.length = i ∧ Pv p i ys H' ∧ H' p = some (.lst ys) ∧ ∃ o, σ' = o :: fs, ⟨xs.length, by simp, Nat.zero_le _, rfl, hp0 p hp, upd_same, _, rfl⟩, ?_⟩
  rintro i m ys σ' H' ⟨rfl, hi, hlen, pv, hp', o, rfl⟩
  have hla := hl p i ys H' hp pv
  by_cases hlt : i < xs.length
  · refine .inr ⟨⟨xs, xs[i], SqT.of hla, List.getElem?_eq_getElem hlt⟩, fun x H2 hy => ?_⟩
    obtain ⟨rfl, hx⟩ := hy
    have hx' := hx xs (SqT.of hla)
    change te (some x :: fs) H2 _
    refine hte p i ys H2 x hp hx' hlen pv hp' _ fun v H5 h5 pv5 => ⟨?_, h5, xs.length - (i + 1), by omega, rfl, hlt, by simp [hlen], pv5, upd_same, _, rfl⟩
    rw [hlen, sizeLine_eq]; omega
  · have e : i = xs.length := by omega
    subst e
    exact .inl ⟨⟨xs, SqT.of hla, Nat.le_refl _⟩, q p ys H' hp pv hp' hlen⟩
end L2
namespace L2
open PySem PySem.Spec PyProof.Rows MA
section
variable {X : Cx}
/-- t + u of tuples, also of empty ones -/
def rCatT' (K : PySem.W.Frag) : R2 := fun x y H Q => ∃ a b xs ys, x = .ref a ∧ y = .ref b ∧ SqT K H a xs ∧ SqT K H b ys ∧ xs.length + ys.length ≤ sizeLine ∧
  (xs = [] → Q (.ref b) H) ∧ (xs ≠ [] → ys = [] → Q (.ref a) H) ∧ (xs ≠ [] → ys ≠ [] → ∀ p, H p = none → Q (.ref p) (upd H p (.tup (xs ++ ys))))
theorem op_catT' : OpR X (binaryOp .Add) (rCatT' X.K) := by
  intro pins s σ H x y v u Q I rx ry h
  obtain ⟨a, b, xs, ys, e1, e2, ha, hb, hz, q0, q1, q2⟩ := h
  by_cases e : xs = []
  · subst e1 e2
    subst e
    cases rx
    cases ry
    obtain ⟨its, r1, p1, _⟩ := I.tuple ha
    obtain ⟨its2, r2, p2, _⟩ := I.tuple hb
    cases r1
    obtain ⟨⟨cls, dd, data, sl⟩, ho, hc, n, hd⟩ := id p1
    obtain ⟨⟨cls2, dd2, data2, sl2⟩, ho2, hc2, n2, hd2⟩ := id p2
    simp only at hc hd hc2 hd2
    subst hc hd hc2 hd2
    exact concat_meets ⟨_, ho, rfl⟩ ⟨_, ho2, rfl⟩ noFill_tuple_add seq_tuple_add PySem.F.slot_tuple_add PySem.F.entry_tuple_add (PySem.F.args_tuple_add_2 _ _)
      (tuple_addW0 a b [].toArray its2.toArray n n2 dd dd2 sl sl2 (by simp)) ⟨ho, ho2, ⟨.ref b, H, I, rfl, q0 rfl⟩⟩
  · exact op_catT pins s σ H x y v u Q I rx ry ⟨a, b, xs, ys, e1, e2, ha, hb, e, hz, q1 e, q2 e⟩
end
end L2

set_option Elab.async false
set_option linter.all false
set_option maxRecDepth 100000
set_option maxHeartbeats 1000000
namespace L2
open PySem PySem.Spec PyProof.Rows MA
theorem tuple_mul1 (l : Addr) (items : Array Value) (n : Nat) (dd : Option Addr) (sl : Array (Option Value)) (u : Tok) :
    Meets (Builtin.«tuple.__mul__» ⟨[.ref l, .int 1 u], []⟩) (fun _ R s => s.heap.get? l = some { cls := .type "tuple", dict := dd, data := .seq items n, slots := sl } ∧ R (.ok (.ret (Value.ref l))) { s with heap := s.heap, toks := s.toks }) :=
  .of_wp fun prog w A R s h => by
    obtain ⟨hp, g, d, tk, os⟩ := s; obtain ⟨hl, h⟩ := h
    have f1 := AutoSeq1.idx_int; have f2 := AutoSeq1.sub_tuple_tuple; have f3 := AutoSeq1.sub_list_list; have f4 := AutoSeq1.sub_tuple_list; have f5 := AutoSeq1.sub_list_tuple
    wp_walk using wpAny_loadPart' hl
    exact ⟨_, rfl, h⟩
theorem tuple_mul0 (l : Addr) (items : Array Value) (n : Nat) (dd : Option Addr) (sl : Array (Option Value)) (u : Tok) (he : ¬ items.isEmpty = true) :
    Meets (Builtin.«tuple.__mul__» ⟨[.ref l, .int 0 u], []⟩) (fun _ R s => s.heap.get? l = some { cls := .type "tuple", dict := dd, data := .seq items n, slots := sl } ∧ R (.ok (.ret (Value.ref s.heap.objs.size))) { s with heap := s.heap.push { cls := Value.type "tuple", data := Data.seq #[] }, toks := s.toks }) :=
  .of_wp fun prog w A R s h => by
    obtain ⟨hp, g, d, tk, os⟩ := s; obtain ⟨hl, h⟩ := h
    have f1 := AutoSeq1.idx_int; have f2 := AutoSeq1.sub_tuple_tuple; have f3 := AutoSeq1.sub_list_list; have f4 := AutoSeq1.sub_tuple_list; have f5 := AutoSeq1.sub_list_tuple
    wp_walk using wpAny_loadPart' hl
    exact ⟨_, rfl, h⟩
theorem tuple_mul2 (l : Addr) (items : Array Value) (n : Nat) (dd : Option Addr) (sl : Array (Option Value)) (x : Int) (u : Tok) (he : items.isEmpty = false) (h1 : (decide (x < -(2 ^ 63)) || decide (x ≥ 2 ^ 63)) = false) (h2 : (x == 1) = false) (h3 : decide (x ≤ 0) = false)
    (h4 : decide ((items.size : Int) * x > (2 ^ 63 - 1) / 8) = false) (h5 : Builtin.Tuple.tupleTooMany ((items.size : Int) * x) = false) (h6 : ((List.replicate x.toNat items).foldl (· ++ ·) #[]).size ≤ sizeLine) :
    Meets (Builtin.«tuple.__mul__» ⟨[.ref l, .int x u], []⟩) (fun _ R s => s.heap.get? l = some { cls := .type "tuple", dict := dd, data := .seq items n, slots := sl } ∧ R (.ok (.ret (Value.ref s.heap.objs.size))) { s with heap := s.heap.push { cls := Value.type "tuple", data := Data.seq ((List.replicate x.toNat items).foldl (· ++ ·) #[]) }, toks := s.toks }) :=
  .of_wp fun prog w A R s h => by
    obtain ⟨hp, g, d, tk, os⟩ := s; obtain ⟨hl, h⟩ := h
    have f1 := AutoSeq1.idx_int; have f2 := AutoSeq1.sub_tuple_tuple; have f3 := AutoSeq1.sub_list_list; have f4 := AutoSeq1.sub_tuple_list; have f5 := AutoSeq1.sub_list_tuple
    wp_walk using wpAny_loadPart' hl
    refine wpAny_ite_false (by rw [h1]; rfl) ?_
    wp_walk using wpAny_loadPart' hl
    refine wpAny_ite_false h4 ?_
    wp_walk using wpAny_loadPart' hl
    first
    | exact ⟨_, rfl, h⟩
    | (refine wpAny_ite_false (by rw [h5]; rfl) ?_
       wp_walk using wpAny_loadPart' hl
       first
       | exact ⟨_, rfl, h⟩
       | (refine wpAny_ite_false (decide_eq_false (Nat.not_lt.mpr h6)) ?_
          wp_walk using wpAny_loadPart' hl
          exact ⟨_, rfl, h⟩))
    | (refine wpAny_ite_false (decide_eq_false (Nat.not_lt.mpr h6)) ?_
       wp_walk using wpAny_loadPart' hl
       exact ⟨_, rfl, h⟩)
theorem noFill_tuple_mul : fillsNumberSlot (.type "tuple") "mul" = pure false :=
  PySem.fillsNumberSlot_seq (id := "tuple.__mul__") (r := some (.builtin "tuple.__rmul__")) F.slot_tuple_mul.lookup (by decide +kernel) F.slot_tuple_rmul.lookup (by decide +kernel)
theorem repeat_tuple : seqRepeat? (.type "tuple") = pure (some (.builtin "tuple.__mul__")) := by
  unfold seqRepeat?
  rw [PySem.seqSlot_of (T := "tuple") (name := "__mul__") (id := "tuple.__mul__") F.slot_tuple_mul.lookup (by decide +kernel), PySem.seqSlot_of (T := "tuple") (name := "__rmul__") (id := "tuple.__rmul__") F.slot_tuple_rmul.lookup (by decide +kernel)]
  rfl
theorem int_rmul_tuple (a : Int) (t : Tok) (l : Addr) (items : Array Value) (n : Nat) (d : Option Addr) (sl : Array (Option Value)) :
    Meets (Builtin.«int.__rmul__» ⟨[.int a t, .ref l], []⟩) (fun _ R s => s.heap.get? l = some { cls := .type "tuple", dict := d, data := .seq items n, slots := sl } ∧ R (.ok (.ret Value.notImplemented)) s) :=
  .of_wp fun prog w A R s h => by obtain ⟨hp, g, d, tk, os⟩ := s; obtain ⟨hl, h⟩ := h; wp_walk; exact ⟨_, rfl, h⟩
theorem foldl_rep' {α : Type} (its : List α) : ∀ (m : Nat) (acc : List α), List.foldl (fun x1 x2 => x1 ++ x2) acc.toArray (List.replicate m its.toArray) = (acc ++ (List.replicate m its).flatten).toArray
  | 0, acc => by simp
  | m + 1, acc => by
    rw [List.replicate_succ, List.foldl_cons, List.replicate_succ, List.flatten_cons]
    have : acc.toArray ++ its.toArray = (acc ++ its).toArray := by simp
    rw [this, foldl_rep' its m (acc ++ its), List.append_assoc]
section
variable {X : Cx}
/-- a tuple times an int, the tuple not empty, from 0 to a thousand times -/
theorem op_repT : OpR X (binaryOp .Mult) (fun x y H Q => ∃ l k xs, x = .ref l ∧ y = .int k ∧ H l = some (.tup xs) ∧ xs ≠ [] ∧ 0 ≤ k ∧ k ≤ 1000 ∧ xs.length ≤ 1000 ∧
    (k = 1 → Q (.ref l) H) ∧ (k ≠ 1 → ∀ p, H p = none → Q (.ref p) (upd H p (.tup (List.replicate k.toNat xs).flatten)))) := by
  intro pins s σ H x y v u Q I rx ry h
  obtain ⟨l, k, xs, rfl, rfl, hH, hne, k0, k1, hx, q1, q2⟩ := h
  cases rx
  obtain ⟨t, rfl⟩ := ry
  obtain ⟨its, r, p1, hz⟩ := I.tuple (SqT.of (K := X.K) hH)
  have hlen := r.length
  have hne' : its ≠ [] := fun z => hne (r.nil_iff.mp z)
  obtain ⟨⟨cls, dd, data, sl⟩, ho, hc, n, hd⟩ := id p1
  simp only at hc hd
  subst hc hd
  refine wpAny_binaryOp_repeat_ref (T := "tuple") (U := "int") (by decide) ⟨_, ho, rfl⟩ (fun s' => typeIs_int s' k t) noFill_tuple_mul F.fills_int_mul F.slot_int_rmul repeat_tuple F.slot_int_index.lookup
    (call_meets F.slot_int_rmul (typeIs_int s k t) F.entry_int_rmul (F.args_int_rmul_2 _ _) (int_rmul_tuple k t l its.toArray n dd sl) ⟨ho, rfl, ⟨_, ho, rfl⟩, ?_⟩)
  have new : ∀ zs : List V, ∀ us : List Value, Vals zs us → zs.length ≤ sizeLine → (∀ p, H p = none → Q (.ref p) (upd H p (.tup zs))) → EP X pins σ Q (.ref s.heap.objs.size) { s with heap := s.heap.push { cls := .type "tuple", data := .seq us.toArray } } := fun zs us rz hzs hq =>
    ⟨.ref s.heap.objs.size, _, I.laid (t' := s.toks) (o := .tup zs) (fun b ob q => Heap.get?_push_of_some _ q) (Nat.le_refl _) ⟨hzs, _, rz, IsTupN.new _ _⟩, rfl, hq _ (I.hok.fresh (Nat.le_refl _))⟩
  by_cases e1 : k = 1
  · subst e1
    exact call_meets F.slot_tuple_mul ⟨_, ho, rfl⟩ F.entry_tuple_mul (F.args_tuple_mul_2 _ _) (tuple_mul1 l its.toArray n dd sl t) ⟨ho, ⟨.ref l, H, I, rfl, q1 rfl⟩⟩
  by_cases e0 : k = 0
  · subst e0
    exact call_meets F.slot_tuple_mul ⟨_, ho, rfl⟩ F.entry_tuple_mul (F.args_tuple_mul_2 _ _) (tuple_mul0 l its.toArray n dd sl t (by simpa using hne')) ⟨ho, new [] [] .nil (by simp) (q2 (by decide))⟩
  have hfold : List.foldl (fun x1 x2 => x1 ++ x2) #[] (List.replicate k.toNat its.toArray) = (List.replicate k.toNat its).flatten.toArray := by
    have := foldl_rep' its k.toNat []
    simpa using this
  have hsz : (its.length : Int) * k ≤ 1000 * 1000 := Int.mul_le_mul (by omega) k1 k0 (by decide)
  have hflat : (List.replicate k.toNat its).flatten.length ≤ sizeLine := by
    rw [len_rep]
    have : k.toNat * its.length ≤ 1000 * 1000 := Nat.mul_le_mul (by omega) (by omega)
    rw [sizeLine_eq]; omega
  refine call_meets F.slot_tuple_mul ⟨_, ho, rfl⟩ F.entry_tuple_mul (F.args_tuple_mul_2 _ _) (tuple_mul2 l its.toArray n dd sl k t (by simpa using hne') ?_ (by simpa using e1) (by simp; omega) ?_ ?_ (by rw [hfold]; simpa using hflat)) ⟨ho, ?_⟩
  · simp; omega
  · simp; omega
  · unfold Builtin.Tuple.tupleTooMany
    rw [List.size_toArray, sizeLine_eq]
    simp
    omega
  · rw [hfold]
    refine new _ _ (r.rep k.toNat) ?_ (q2 e1)
    rw [len_rep]
    have : k.toNat * xs.length ≤ 1000 * 1000 := Nat.mul_le_mul (by omega) (by omega)
    rw [sizeLine_eq]; omega
end
end L2

set_option Elab.async false
set_option linter.all false
set_option maxRecDepth 100000
set_option maxHeartbeats 1000000
namespace L2
open PySem PySem.Spec PyProof.Rows
end L2

set_option Elab.async false
set_option linter.all false
set_option maxRecDepth 100000
set_option maxHeartbeats 1000000
namespace My
open PySem L2 MA
/-! a pen that is a list: its cells, where it stands, what is left -/
abbrev penV (c : Addr) (a l : Int) : List V := [.ref c, .int a, .int l]
structure SameY (p : Addr) (H H' : Hp) : Prop where
  all : ∀ b o, H b = some o → b ≠ p → H' b = some o
  pen : ∀ c a l, H p = some (.lst (penV c a l)) → ∃ a' l', H' p = some (.lst (penV c a' l'))
theorem SameY.trans {p : Addr} {H H1 H2 : Hp} (a : SameY p H H1) (b : SameY p H1 H2) : SameY p H H2 :=
  ⟨fun c o h n => b.all c o (a.all c o h n) n, fun c x l h => let ⟨x', l', h'⟩ := a.pen c x l h; b.pen c x' l' h'⟩
theorem Same.y {p : Addr} {H H' : Hp} (a : Same H H') : SameY p H H' := ⟨fun b o h _ => a b o h, fun _ x l h => ⟨x, l, a _ _ h⟩⟩
theorem SameY.upd {p c : Addr} {H : Hp} {a l a' l' : Int} (h : H p = some (.lst (penV c a l))) : SameY p H (upd H p (.lst (penV c a' l'))) :=
  ⟨fun b o e hb => by rw [upd_ne hb]; exact e, fun c' x y e => by rw [h] at e; cases e; exact ⟨a', l', upd_same⟩⟩
end My

set_option Elab.async false
set_option linter.all false
set_option maxRecDepth 100000
set_option maxHeartbeats 1000000
namespace L2
open PySem PySem.Spec PyProof.Rows
end L2
namespace My
open PySem L2 MA
end My

set_option Elab.async false
set_option linter.all false
set_option maxRecDepth 100000
set_option maxHeartbeats 4000000
namespace L2
open PySem PySem.Spec PyProof.Rows
end L2

set_option Elab.async false
set_option linter.all false
set_option maxRecDepth 100000
set_option maxHeartbeats 4000000
namespace L2
open PySem PySem.Spec PyProof.Rows
end L2

set_option Elab.async false
set_option linter.all false
set_option maxRecDepth 100000
set_option maxHeartbeats 4000000
namespace L2
open PySem PySem.Spec PyProof.Rows
end L2
namespace L2
open PySem PySem.Spec PyProof.Rows
end L2

set_option Elab.async false
set_option linter.all false
set_option maxRecDepth 100000
set_option maxHeartbeats 4000000
namespace L2
open PySem PySem.Spec PyProof.Rows
end L2

set_option Elab.async false
set_option linter.all false
set_option maxRecDepth 100000
set_option maxHeartbeats 1000000
namespace L2
open PySem PySem.Spec PyProof.Rows MA
/-! ### ints in a row -/
abbrev iv (ns : List Int) : List V := ns.map V.int
theorem iv_at {ns : List Int} {i : Nat} {x : V} (h : (iv ns)[i]? = some x) : ∃ y, ns[i]? = some y ∧ x = .int y := by
  rw [List.getElem?_map] at h
  cases e : ns[i]? with
  | none => rw [e] at h; cases h
  | some y => rw [e] at h; cases h; exact ⟨y, rfl, rfl⟩
theorem iv_get {ns : List Int} {i : Nat} (h : i < ns.length) : (iv ns)[i]? = some (.int ns[i]) := by rw [List.getElem?_map, List.getElem?_eq_getElem h]; rfl
theorem iv_atI {ns : List Int} {i : Nat} (h : i < ns.length) : atI (iv ns) (i : Int) = some (.int (ns.getD i 0)) := by
  rw [atI_nat (iv_get h), getD_of h]
theorem cut_drop {xs : List V} {k : Nat} (h : k ≤ xs.length) : cutV xs (some (k : Int)) none = xs.drop k := by
  unfold cutV
  rw [HT.sIx_nat, HT.sIx_none]
  rw [List.take_of_length_le (by rw [List.length_drop]; omega), Nat.min_eq_left h]
end L2
namespace My
open PySem L2 MA
theorem lz {m : Nat} (n : Nat) (h : m = n) (hn : n ≤ 100 := by decide) : m ≤ sizeLine := by
  rw [h, sizeLine_eq]; omega
theorem lzz {m : Nat} (h : m ≤ 10000) : m ≤ sizeLine := by rw [sizeLine_eq]; omega
end My

set_option Elab.async false
set_option linter.all false
set_option maxRecDepth 100000
set_option maxHeartbeats 1000000
namespace L2
open PySem PySem.Spec PyProof.Rows MA
end L2
namespace HT
open PySem PySem.Spec PyProof.Rows
section
variable {prog : Program} {w : World} {A : Around} {E : Value → Shared → Prop} {s : Shared}
theorem getItem_tuple_all {t sl : Addr} {items : Array Value} {vl vu : Value} {lo hi : Option Int} {Q : Value → Shared → Prop} (ht : IsTup s.heap t items) (hs : s.heap.IsSliceOf sl vl vu .none) (pl : IsPart vl lo) (pu : IsPart vu hi)
    (hw : sIx items.size 0 lo = 0 ∧ sIx items.size items.size hi = items.size) (h : Q (.ref t) s) : wpAny (model prog w) A (getItem (.ref t) (.ref sl)) Q E s := by
  obtain ⟨os, q1, q2, q3⟩ := id hs
  have T : s.TypeIs (.ref sl) "slice" := ⟨os, q1, q2⟩
  unfold getItem
  try with_reducible refine wpAny_holding ?_
  first | refine wpAny_bind (wpAny_pure ?_) | skip
  refine wpAny_bind (wpAny_sequenceKey ht.typeIs (by decide) (wpAny_bind (wpAny_callSpecial?_slot (name := Str.ofString "__getitem__") ht.typeIs PyProof.Rows.slot_tuple_getitem (wpAny_call_entry PyProof.Rows.slot_tuple_getitem ht.typeIs entry_tuple_getitem ?_ (args_tuple_getitem _ _)))))
  refine wpAny_bind (m := Builtin.Tuple.tupleItemsOf (.ref t)) (tupleItemsOf_ ht (wpAny_bind (wpAny_typeOf T ?_)))
  rw [if_pos (by decide)]
  refine wpAny_bind (sliceApplied_gen hs pl pu ?_)
  show wpAny (model prog w) _ (if (((sIx items.size 0 lo : Nat) : Int) == 0 && (1 : Int) == 1 && (sIx items.size items.size hi - sIx items.size 0 lo) == items.size) = true then _ else _) _ _ s
  rw [if_pos (by rw [hw.1, hw.2]; simp)]
  refine wpAny_bind (m := Builtin.Tuple.tupleIsExact (.ref t)) ?_
  unfold Builtin.Tuple.tupleIsExact
  refine wpAny_bind (wpAny_typeOf ht.typeIs (wpAny_pure ?_))
  rw [if_pos (by decide)]
  exact wpAny_bind (wpAny_rule (wpAny_pure ⟨_, rfl, wpAny_pure h⟩))
theorem adjust_rev (n : Nat) : Builtin.Slice.sliceAdjust none none (-1) (n : Int) = ((n : Int) - 1, -1) := by
  simp [Builtin.Slice.sliceAdjust]
theorem places_rev (n : Nat) : Builtin.Slice.slicePlaces ((n : Int) - 1) (-1) (-1) = n := by
  unfold Builtin.Slice.slicePlaces
  simp
  try omega
theorem pick_rev (xs : Array Value) : ((List.range xs.size).filterMap fun (m : Nat) => xs[(((xs.size : Int) - 1) + (m : Int) * -1).toNat]?).toArray = xs.toList.reverse.toArray := by
  have e : (List.range xs.size).filterMap (fun (m : Nat) => xs[(((xs.size : Int) - 1) + (m : Int) * -1).toNat]?) = ((List.range xs.size).map fun k => xs.size - 1 - k).filterMap (xs[·]?) := by
    rw [List.filterMap_map]
    congr 1
    funext m
    have : (((xs.size : Int) - 1) + (m : Int) * -1).toNat = xs.size - 1 - m := by omega
    simp only [this, Function.comp]
  rw [e, PySem.W.krv_range, List.filterMap_reverse, PySem.W.krv_all]
theorem getItem_tuple_rev {t sl : Addr} {items : Array Value} {vk : Value} {Q : Value → Shared → Prop} (ht : IsTup s.heap t items) (hs : s.heap.IsSliceOf sl .none .none vk) (pk : IsPart vk (some (-1)))
    (h : Q (.ref s.heap.objs.size) { s with heap := s.heap.push { cls := .type "tuple", data := .seq items.toList.reverse.toArray } }) (hsz : items.size ≤ sizeLine) : wpAny (model prog w) A (getItem (.ref t) (.ref sl)) Q E s := by
  obtain ⟨os, q1, q2, q3⟩ := id hs
  have T : s.TypeIs (.ref sl) "slice" := ⟨os, q1, q2⟩
  have ok : sizeOk (.seq items.toList.reverse.toArray) := by
    show items.toList.reverse.toArray.size ≤ sizeLine
    rw [List.size_toArray, List.length_reverse, Array.length_toList]
    exact hsz
  unfold getItem
  try with_reducible refine wpAny_holding ?_
  first | refine wpAny_bind (wpAny_pure ?_) | skip
  refine wpAny_bind (wpAny_sequenceKey ht.typeIs (by decide) (wpAny_bind (wpAny_callSpecial?_slot (name := Str.ofString "__getitem__") ht.typeIs PyProof.Rows.slot_tuple_getitem (wpAny_call_entry PyProof.Rows.slot_tuple_getitem ht.typeIs entry_tuple_getitem ?_ (args_tuple_getitem _ _)))))
  refine wpAny_bind (m := Builtin.Tuple.tupleItemsOf (.ref t)) (tupleItemsOf_ ht (wpAny_bind (wpAny_typeOf T ?_)))
  rw [if_pos (by decide)]
  refine wpAny_bind (m := Builtin.Slice.sliceApplied (.ref sl) (pure (items.size : Int))) ?_
  unfold Builtin.Slice.sliceApplied Builtin.Slice.sliceFields
  refine wpAny_bind (wpAny_bind (wpAny_field q1 q3 (x := .none) rfl (wpAny_bind (wpAny_field q1 q3 (x := .none) rfl (wpAny_bind (wpAny_field q1 q3 (x := vk) rfl (wpAny_pure ?_)))))))
  refine wpAny_bind (slicePart_ pk ?_)
  show wpAny (model prog w) _ (if ((-1 : Int) == 0) = true then _ else _) _ _ s
  rw [if_neg (by decide)]
  refine wpAny_bind (slicePart_none (wpAny_bind (slicePart_none (wpAny_bind (wpAny_pure ?_)))))
  show wpAny (model prog w) _ (match Builtin.Slice.sliceAdjust none none (-1) (items.size : Int) with | (lo, hi) => pure (lo, (-1 : Int), Builtin.Slice.slicePlaces lo hi (-1))) _ _ s
  rw [adjust_rev]
  show wpAny (model prog w) _ (pure (((items.size : Int) - 1), (-1 : Int), Builtin.Slice.slicePlaces ((items.size : Int) - 1) (-1) (-1))) _ _ s
  rw [places_rev]
  refine wpAny_pure ?_
  show wpAny (model prog w) _ (if (((items.size : Int) - 1) == 0 && (-1 : Int) == 1 && items.size == items.size) = true then _ else _) _ _ s
  rw [if_neg (by simp), pick_rev]
  first
    | exact wpAny_bind (m := Builtin.Tuple.tupleExact _) (wpAny_newObj_type (wpAny_pure ⟨_, rfl, wpAny_pure h⟩) ok)
    | exact wpAny_bind (m := Builtin.Tuple.tupleExact _) (wpAny_newObj_type (wpAny_bind (wpAny_pure (wpAny_pure ⟨_, rfl, wpAny_pure h⟩))) ok)
    | exact wpAny_bind (wpAny_bind (m := Builtin.Tuple.tupleExact _) (wpAny_newObj_type (wpAny_pure (wpAny_pure ⟨_, rfl, wpAny_pure h⟩)) ok))
end
end HT
namespace L2
open PySem PySem.Spec PyProof.Rows MA
/-- t[lo:hi], whatever it is of t -/
theorem sl_tupS {X : Cx} : SlR X (fun x lo hi H Q => ∃ a xs, x = .ref a ∧ H a = some (.tup xs) ∧ ∀ c H', Same H H' → H' c = some (.tup (cutV xs lo hi)) → Q (.ref c) H') := by
  intro pins s σ H x v vl vu lo hi sl Q I rx hs pl pu h
  obtain ⟨a, xs, e, hx, q⟩ := h
  by_cases hw : HT.sIx xs.length 0 lo = 0 ∧ HT.sIx xs.length xs.length hi = xs.length
  · subst e
    cases rx
    obtain ⟨its, r, ht, hz⟩ := I.tuple (SqT.of (K := X.K) hx)
    have hlen : its.toArray.size = xs.length := by rw [List.size_toArray]; exact r.length.symm
    refine ⟨"tuple", _, PyProof.Rows.slot_tuple_getitem.lookup, ht.typeIs, HT.getItem_tuple_all ht hs pl pu (by rw [hlen]; exact hw) ⟨.ref a, H, I, rfl, q a H (Same.refl _) ?_⟩⟩
    have : cutV xs lo hi = xs := by
      unfold cutV
      rw [hw.1, hw.2]
      simp
    rw [this]
    exact hx
  · exact sl_tup pins s σ H x v vl vu lo hi sl Q I rx hs pl pu ⟨a, xs, e, SqT.of hx, hw, fun p hp => q p _ (same_new hp _) upd_same⟩
section
variable {X : Cx} {e : Expr} {te : TE} {p2 p3 p4 pos : Pos}
/-- t[::-1] of a tuple: a new tuple -/
def tRevT (te : TE) : TE := fun σ H Q => te σ H fun x H1 => ∃ a xs, x = .ref a ∧ H1 a = some (.tup xs) ∧ ∀ p, H1 p = none → Q (.ref p) (upd H1 p (.tup xs.reverse))
theorem pe_revT {kk : _} (he : PE X e te) : PE X (.Subscript e (.Slice none none (some (.UnaryOp .USub (.Constant (.int 1) kk p3) p4)) p2) pos) (tRevT te) := by
  intro pins s σ H Q I h
  refine Subscript_ (thn (he pins s σ H _ I h) fun v s1 ⟨x, H1, I1, r1, q1⟩ => ?_)
  obtain ⟨a, xs, rfl, hx, q⟩ := q1
  have hst : PO X (some (.UnaryOp .USub (.Constant (.int 1) kk p3) p4)) (tPart (tUn (rU fun i => .int (-i)) (tC (.int 1)))) := po_some (pe_un un_neg pe_int)
  refine wpAny_Slice ?_
  rw [evalPart_none]
  refine wpAny_pure (wpAny_pure ?_)
  refine thn (hst pins s1 σ H1 (fun st H2 => st = some (-1) ∧ H2 = H1) I1 ?_) fun vk s2 h2 => ?_
  · exact ⟨_, rfl, _, rfl, rfl, rfl⟩
  obtain ⟨st, H2, I2, pk, rfl, rfl⟩ := h2
  have I4 : Inv X pins σ H2 { s2 with heap := s2.heap.push { cls := .type "slice", data := .fields #[.none, .none, vk] } } := I2.kept (t' := s2.toks) fun b ob q => Heap.get?_push_of_some _ q
  cases r1
  obtain ⟨its, r, ht, hz⟩ := I4.tuple (SqT.of (K := X.K) hx)
  have hlen := r.length
  refine tail_any (T := "tuple") (ops := [.ref a, .ref s2.heap.objs.size]) ht.typeIs slot_tuple_getitem.lookup ?_ (by with_unfolding_all rfl)
  refine HT.getItem_tuple_rev ht (Heap.IsSliceOf.new ..) pk ?_ (by rw [List.size_toArray] <;> omega)
  refine ⟨.ref _, _, I4.laid (t' := s2.toks) (o := .tup xs.reverse) (fun b ob q => Heap.get?_push_of_some _ q) (Nat.le_refl _) ?_, rfl, q _ (I4.hok.fresh (Nat.le_refl _))⟩
  exact ⟨by rw [List.length_reverse]; exact hz, _, r.reverse, IsTupN.new _ _⟩
/-- t + u of tuples: some tuple of both -/
theorem op_catS : OpR X (binaryOp .Add) (fun x y H Q => ∃ a b xs ys, x = .ref a ∧ y = .ref b ∧ H a = some (.tup xs) ∧ H b = some (.tup ys) ∧ xs.length + ys.length ≤ 1000 ∧ ∀ c H', Same H H' → H' c = some (.tup (xs ++ ys)) → Q (.ref c) H') := by
  intro pins s σ H x y v u Q I rx ry h
  obtain ⟨a, b, xs, ys, e1, e2, ha, hb, hz, q⟩ := h
  refine op_catT' pins s σ H x y v u Q I rx ry ⟨a, b, xs, ys, e1, e2, SqT.of ha, SqT.of hb, by rw [sizeLine_eq]; omega, fun e => ?_, fun _ e => ?_, fun _ _ p hp => ?_⟩
  · subst e; exact q b H (Same.refl _) (by simpa using hb)
  · subst e; exact q a H (Same.refl _) (by simpa using ha)
  · exact q p _ (same_new hp _) upd_same
end
end L2
namespace L2
open PySem PySem.Spec PyProof.Rows MA
/-! ### data that lies in tuples and in what is new since H -/
open Classical in
noncomputable def res (H : Hp) (S : Addr → Prop) : Hp := fun a => if S a then H a else none
theorem res_pos {H : Hp} {S : Addr → Prop} {a : Addr} (h : S a) : res H S a = H a := by unfold res; rw [if_pos h]
theorem res_some {H : Hp} {S : Addr → Prop} {a : Addr} {o : HO} (h : res H S a = some o) : S a ∧ H a = some o := by
  unfold res at h
  by_cases c : S a
  · rw [if_pos c] at h; exact ⟨c, h⟩
  · rw [if_neg c] at h; cases h
theorem same_res {H H' : Hp} {S : Addr → Prop} (h : ∀ a o, S a → H a = some o → H' a = some o) : Same (res H S) (res H' S) := fun a o e => by
  obtain ⟨c, e⟩ := res_some e
  rw [res_pos c]; exact h a o c e
theorem res_same {H : Hp} {S : Addr → Prop} : Same (res H S) H := fun a o e => (res_some e).2
end L2

set_option Elab.async false
set_option linter.all false
set_option maxRecDepth 100000
set_option maxHeartbeats 4000000
namespace L2
open PySem PySem.Spec PyProof.Rows
/-! ### comprehensions of two clauses: the block's body is any action on the new list -/
abbrev TB := St → Hp → (St → Hp → Prop) → Prop
def PB (X : Cx) (p : Addr) (body : Value → Env → Sem Unit) (t : TB) : Prop :=
  ∀ (pins : List (Addr × Obj)) (s : Shared) (σ : St) (H : Hp) (Q : St → Hp → Prop), Inv X pins σ H s → t σ H Q →
    wpAny (model X.prog X.w) X.A (body (.ref p) X.env) (fun _ s' => ∃ σ' H', Inv X pins σ' H' s' ∧ Q σ' H') X.xe s
/-- the walk of one clause -/
def LoopW (J : It) (g : TG) (tc : TT) (tb : TB) (σ : St) (H : Hp) (Q : St → Hp → Prop) : Prop :=
  ∃ W : Nat → Nat → St → Hp → Prop, (∃ m, W 0 m σ H) ∧ ∀ i m σ' H', W i m σ' H' →
    (J.stop i H' ∧ Q σ' H') ∨ (J.go i H' ∧ ∀ x H2, J.yld i H' x H2 → g x σ' H2 fun σ2 H3 => tc σ2 H3 fun b H4 => if b = true then tb σ2 H4 fun σ5 H5 => ∃ m', m' < m ∧ W (i + 1) m' σ5 H5 else ∃ m', m' < m ∧ W (i + 1) m' σ2 H4)
def emitL (elt : Expr) : Value → Env → Sem Unit := fun acc env => do let _ ← call (.builtin "list.append") [acc, ← eval elt env]
def tEmit (p : Addr) (te : TE) : TB := fun σ H Q => te σ H fun v H5 => ∃ ys, ys.length < sizeLine ∧ H5 p = some (.lst ys) ∧ Q σ (upd H5 p (.lst (ys ++ [v])))
theorem pb_emit {X : Cx} {p : Addr} {elt : Expr} {te : TE} (he : PE X elt te) : PB X p (emitL elt) (tEmit p te) := by
  intro pins s σ H Q I h
  refine wpAny_bind (thn (he pins s σ H _ I h) fun y s8 h8 => ?_)
  obtain ⟨v, H8, I8, r8, ys, hz, hH8, w8⟩ := h8
  refine wpAny_bind (thn (mt_append (X := X) _ s8 σ H8 (.ref p) [v] (.ref p) [y] (fun x H9 => x = .non ∧ H9 = upd H8 p (.lst (ys ++ [v]))) I8 rfl (.cons r8 .nil) ⟨p, ys, v, rfl, rfl, hH8, hz, rfl, rfl⟩) fun _ s9 h9 => ?_)
  obtain ⟨z, H9, I9, _, _, e9⟩ := h9
  subst e9
  exact wpAny_pure ⟨σ, _, I9, w8⟩
/-- a turn of a clause, its body being any action -/
def turnOf (e : Expr) (d : Nat) (tg iter : Expr) (ifs : List Expr) (body : Value → Env → Sem Unit) (it acc : Value) (env : Env) : Sem Fin := do
  standAt iter.pos
  match ← pyNext it with
  | none => pure (.done .next)
  | some v =>
    letOwnedTupleGo tg it v
    assign tg env v
    let mut ok := true
    for c in ifs do
      if ok then ok ← isTrue c env (eval c env)
    if ok then
      body acc env
    again (.compLoop e d it acc env)
/-- the second clause as a body of the first -/
def twoL (e : Expr) (iter : Expr) : Value → Env → Sem Unit := fun acc env => do
  let x ← eval iter env
  standAt iter.pos
  let x ← foldedSetIterable iter env x
  let _ ← runOwn (.compStart e 1 (← holding [x] (pyIter x)) acc env) env
theorem turn_two0 (elt tg iter tg2 iter2 : Expr) (ifs ifs2 : List Expr) (scope : Scope) (pos : Pos) (it acc : Value) (env : Env) :
    compTurn (.ListComp elt [⟨tg, iter, ifs, 0⟩, ⟨tg2, iter2, ifs2, 0⟩] scope pos) 0 it acc env = turnOf (.ListComp elt [⟨tg, iter, ifs, 0⟩, ⟨tg2, iter2, ifs2, 0⟩] scope pos) 0 tg iter ifs (twoL (.ListComp elt [⟨tg, iter, ifs, 0⟩, ⟨tg2, iter2, ifs2, 0⟩] scope pos) iter2) it acc env := by
  unfold turnOf
  refine congrArg (standAt iter.pos >>= ·) (funext fun _ => congrArg (pyNext it >>= ·) (funext fun r => ?_))
  cases r with
  | none => rfl
  | some v =>
    refine congrArg (letOwnedTupleGo tg it v >>= ·) (funext fun _ => congrArg (assign tg env v >>= ·) (funext fun _ => congrArg (_ >>= ·) (funext fun ok => ?_)))
    cases ok with
    | false => rfl
    | true =>
      rw [if_pos rfl, if_pos rfl]
      simp only [twoL, bind_assoc]
      rfl
theorem turn_two1 (elt tg iter tg2 iter2 : Expr) (ifs ifs2 : List Expr) (scope : Scope) (pos : Pos) (it acc : Value) (env : Env) :
    compTurn (.ListComp elt [⟨tg, iter, ifs, 0⟩, ⟨tg2, iter2, ifs2, 0⟩] scope pos) 1 it acc env = turnOf (.ListComp elt [⟨tg, iter, ifs, 0⟩, ⟨tg2, iter2, ifs2, 0⟩] scope pos) 1 tg2 iter2 ifs2 (emitL elt) it acc env := by rfl
/-- a clause's start: its iterator is asked for itself, or not -/
theorem start_of {M : Model} {A : Around} {R : Result → Shared → Prop} {s : Shared} {e : Expr} {d : Nat} {g : Comprehension} {it acc : Value} {env : Env} (hg : (clausesOf e)[d]? = some g) (ha : g.is_async = 0)
    (h0 : codeAny M A (.compLoop e d it acc env) R s) (hden : M.den (.compStart e d it acc env) = (compStart e d it acc env).onRaise (fun x => do noteFrame x env; standAt theWindowsPlace)) (hun : A.under (.compStart e d it acc env) = A) (hq : Code.quiet (.compLoop e d it acc env) = true)
    (h : wpAny M A (pyIter it) (fun it' s' => codeAny M A (.compLoop e d it' acc env) R s') (notedBy M A env fun x s' => R (.error x) s') s) (hq' : ∀ it', Code.quiet (.compLoop e d it' acc env) = true) : codeAny M A (.compStart e d it acc env) R s := by
  refine codeAny_of_tree ?_
  rw [hden, hun]
  refine wpAny_notedAt ?_
  unfold compStart
  rw [hg]
  simp only [Option.elim, ha]
  show wpAny _ _ (ask >>= _) _ _ s
  refine wpAny_bind (wpAny_askSetting (wpAny_ite ?_))
  split
  · first
      | exact wpAny_bind (wpAny_pure (wpAny_pure ⟨hq, h0⟩))
      | exact wpAny_pure ⟨hq, h0⟩
  · refine wpAny_bind (wpAny_rule ?_)
    show wpAny _ _ (standAt g.iter.pos >>= _) _ _ s
    exact wpAny_bind (wpAny_standAt (wpAny_bind (wpAny_mono h (fun it' s' h' => wpAny_pure ⟨hq' it', h'⟩) fun _ _ x => x)))
theorem loop_of {X : Cx} {elt tg iter : Expr} {gens : List Comprehension} {scope : Scope} {pos : Pos} {d : Nat} {ifs : List Expr} {body : Value → Env → Sem Unit} {J : It} {fp : List Addr} {it p : Addr} {tn : Nat → Heap → Prop} {g : TG} {tc : TT} {tb : TB} {pins : List (Addr × Obj)} {s : Shared} {σ : St} {H : Hp} {Q : St → Hp → Prop} {R : Result → Shared → Prop}
    (hturn : compTurn (.ListComp elt gens scope pos) d (.ref it) (.ref p) X.env = turnOf (.ListComp elt gens scope pos) d tg iter ifs body (.ref it) (.ref p) X.env) (hc : X.calm = true) (hxe : ∀ e s, X.xe e s → False) (T : Turn X.prog X.w X.K tg J fp it tn) (hg : PG X tg g) (ht : PTs X ifs tc) (hb : PB X p body tb)
    (I : Inv X pins σ H s) (st : tn 0 s.heap) (f2 : ∀ b ∈ fp, FpOk X pins H b) (h : LoopW J g tc tb σ H Q) (hR : ∀ s' σ' H', Inv X pins σ' H' s' → Q σ' H' → R (.ok .next) s') :
    codeAny (model X.prog X.w) X.A (.compLoop (.ListComp elt gens scope pos) d (.ref it) (.ref p) X.env) R s := by
  obtain ⟨W, ⟨m0, w0⟩, turn⟩ := h
  have stat : ∀ {H' : Hp}, (∀ b ∈ fp, H' b = none) → ∀ b ∈ fp, FpOk X pins H' b := fun hn b hb => ⟨hn b hb, (f2 b hb).2⟩
  refine codeAny_loop rfl (fun n s' => ∃ i σ' H', Inv X pins σ' H' s' ∧ tn i s'.heap ∧ (∀ b ∈ fp, H' b = none) ∧ W i n σ' H') (fun n s' hI => ?_) m0 ⟨0, σ, H, I, st, fun b hb => (f2 b hb).1, w0⟩
  obtain ⟨i, σ', H', J', st', fr', w'⟩ := hI
  show wpAny _ X.A ((compTurn (.ListComp elt gens scope pos) d (.ref it) (.ref p) X.env).onRaise (fun x => do noteFrame x X.env; theTreesLotGoes x)) _ _ s'
  refine wpAny_noted ?_
  rw [hturn]
  unfold turnOf
  rcases turn i n σ' H' w' with ⟨stop, q⟩ | ⟨go, step⟩
  · refine wpAny_bind (wpAny_standAt (wpAny_bind (wpAny_mono (T.done X rfl rfl rfl hc i pins s' σ' H' X.xe J' (stat fr') st' stop) (fun r s4 h4 => ?_) fun _ _ x => (hxe _ _ x).elim)))
    obtain ⟨hr, I4⟩ := h4
    subst hr
    exact wpAny_pure (hR s4 σ' H' I4 q)
  · refine wpAny_bind (wpAny_standAt (wpAny_bind (wpAny_mono (T.item X rfl rfl rfl hc i pins s' σ' H' X.xe J' (stat fr') st' go) (fun r s4 h4 => ?_) fun _ _ x => (hxe _ _ x).elim)))
    obtain ⟨u, hr, h4⟩ := h4
    subst hr
    refine wpAny_bind (wpAny_mono h4 (fun _ s5 h5 => ?_) fun _ _ x => (hxe _ _ x).elim)
    obtain ⟨x, H5, I5, r5, y5, st5, fr5⟩ := h5
    have I5' := I5.pinned (stat fr5) (T.obj _ _ st5)
    refine wpAny_bind (wpAny_mono (hg _ s5 σ' H5 x u _ I5' r5 (step x H5 y5)) (fun _ s6 h6 => ?_) fun _ _ x => (hxe _ _ x).elim)
    obtain ⟨σ6, H6, I6, q6⟩ := h6
    have again : ∀ {σ7 : St} {H7 : Hp} {s7 : Shared}, Inv X (pins ++ pinsAt fp s5.heap) σ7 H7 s7 → (∃ m', m' < n ∧ W (i + 1) m' σ7 H7) →
        ∃ m, m < n ∧ ∃ i σ' H', Inv X pins σ' H' s7 ∧ tn i s7.heap ∧ (∀ b ∈ fp, H' b = none) ∧ W i m σ' H' := fun {σ7 H7 s7} I7 n7 => by
      obtain ⟨m', hm, w7⟩ := n7
      refine ⟨m', hm, i + 1, σ7, H7, I7.unpinned, T.keep _ _ _ st5 fun b hb o e => (I7.pin (b, o) (List.mem_append_right _ (List.mem_append_right _ (mem_pinsAt hb e)))).1, fun b hb => ?_, w7⟩
      obtain ⟨o, e, d⟩ := T.obj _ _ st5 b hb
      exact (I7.pin (b, o) (List.mem_append_right _ (List.mem_append_right _ (mem_pinsAt hb e)))).2.1
    refine wpAny_bind (wpAny_mono (ht _ s6 σ6 H6 _ I6 q6) (fun ok s7 h7 => ?_) fun _ _ x => (hxe _ _ x).elim)
    obtain ⟨H7, I7, q7⟩ := h7
    cases ok with
    | false =>
      rw [if_neg Bool.false_ne_true] at q7
      exact wpAny_pure ⟨rfl, again I7 q7⟩
    | true =>
      rw [if_pos rfl] at q7
      refine wpAny_bind (wpAny_mono (hb _ s7 σ6 H7 _ I7 q7) (fun y s8 h8 => ?_) fun _ _ x => (hxe _ _ x).elim)
      obtain ⟨σ8, H8, I8, w8⟩ := h8
      exact wpAny_pure ⟨rfl, again I8 w8⟩
def tTwo (wi : TI) (g : TG) (tc : TT) (tb : TB) : TB := fun σ H Q => wi σ H fun J H1 => LoopW J g tc tb σ H1 Q
theorem pb_two {X : Cx} {elt tg iter tg2 iter2 : Expr} {ifs ifs2 : List Expr} {scope : Scope} {pos : Pos} {p : Addr} {wi : TI} {g : TG} {tc : TT} {te : TE} (hc : X.calm = true) (hxe : ∀ e s, X.xe e s → False) (hi : PI X tg2 iter2 wi) (hg : PG X tg2 g) (ht : PTs X ifs2 tc) (he : PE X elt te)
    (hs : ∀ x, foldedSetIterable iter2 X.env x = pure x) : PB X p (twoL (.ListComp elt [⟨tg, iter, ifs, 0⟩, ⟨tg2, iter2, ifs2, 0⟩] scope pos) iter2) (tTwo wi g tc (tEmit p te)) := by
  intro pins s σ H Q I h
  unfold twoL
  refine wpAny_bind (thn (hi pins s σ H _ I h) fun v s1 h1 => wpAny_bind (wpAny_standAt (wpAny_bind (wpAny_of_eq (hs v) (wpAny_bind (wpAny_holding (thn h1 fun itv s2 h2 => ?_)))))))
  obtain ⟨it, fp, tn, J, H2, e, I2, T, st2, f2, h3⟩ := h2
  subst e
  refine wpAny_bind (wpAny_runOwn ?_)
  have loop : codeAny (model X.prog X.w) X.A (.compLoop (.ListComp elt [⟨tg, iter, ifs, 0⟩, ⟨tg2, iter2, ifs2, 0⟩] scope pos) 1 (.ref it) (.ref p) X.env) (fun r s' => match r with | .ok f => wpAny (model X.prog X.w) X.A (pure ()) (fun _ s' => ∃ σ' H', Inv X pins σ' H' s' ∧ Q σ' H') X.xe s' | .error e => cameBackBy (model X.prog X.w) X.A X.env X.xe e s') s2 :=
    loop_of (turn_two1 _ _ _ _ _ _ _ _ _ _ _ _) hc hxe T hg ht (pb_emit he) I2 st2 f2 h3 fun s' σ' H' I' q' => wpAny_pure ⟨σ', H', I', q'⟩
  exact start_of (g := ⟨tg2, iter2, ifs2, 0⟩) rfl rfl loop rfl rfl rfl (T.self X.A 0 _ _ _ st2 loop) fun _ => rfl
def tComp2 (σ0 : St → St) (wi : TI) (g : TG) (tc : TT) (wi2 : TI) (g2 : TG) (tc2 : TT) (te : TE) : TE := fun σ H Q => wi σ H fun J H1 => ∀ p, H1 p = none → LoopW J g tc (tTwo wi2 g2 tc2 (tEmit p te)) (σ0 σ) (upd H1 p (.lst [])) fun _ H' => Q (.ref p) H'
theorem comp_core2 {X : Cx} {elt tg iter tg2 iter2 : Expr} {ifs ifs2 : List Expr} {scope : Scope} {pos pos2 : Pos} {wi wi2 : TI} {g g2 : TG} {tc tc2 : TT} {te : TE} {N : List Str} {σ0 : St → St} {pins : List (Addr × Obj)} {s : Shared} {σ : St} {H : Hp} {Q : VK} {use : Option (Value → Sem Unit)} {QQ : Value → Shared → Prop}
    (hc : X.calm = true) (hxe : ∀ e s, X.xe e s → False) (hcell : ∀ y ∈ scope.names, y.2 ≠ .cell) (hkind : scope.kind = .function) (hnames : ∀ y ∈ scope.names, y.2 = .local → scope.names.lookup y.1 = some .local)
    (hfr : ∀ y ∈ scope.names, y.2 = .free → X.env.kindOf y.1 = some .cell ∨ X.env.kindOf y.1 = some .free) (hσ : Sees X scope N σ0)
    (hi : PI X tg iter wi)
    (hg : ∀ cl C s H ex, PG (cxComp X scope N cl C s H ex) tg g) (ht : ∀ cl C s H ex, PTs (cxComp X scope N cl C s H ex) ifs tc) (hi2 : ∀ cl C s H ex, PI (cxComp X scope N cl C s H ex) tg2 iter2 wi2) (hg2 : ∀ cl C s H ex, PG (cxComp X scope N cl C s H ex) tg2 g2) (ht2 : ∀ cl C s H ex, PTs (cxComp X scope N cl C s H ex) ifs2 tc2) (he : ∀ cl C s H ex, PE (cxComp X scope N cl C s H ex) elt te)
    (hs : ∀ x, foldedSetIterable iter X.env x = pure x) (hs2 : ∀ env x, foldedSetIterable iter2 env x = pure x) (I : Inv X pins σ H s) (h : tComp2 σ0 wi g tc wi2 g2 tc2 te σ H Q)
    (hend : ∀ (p C : Addr) (H' : Hp) (s' : Shared) (m : Str → Option Value) (f : Flow), Inv X pins σ H' s' → FpOk X pins H' C → s'.heap.Ns C m → (∀ h', Heap.SameBut C s'.heap h' → Inv X pins σ H' { s' with heap := h' }) → Q (.ref p) H' →
      compPost (model X.prog X.w) X.A X.xe use QQ (.ref p) C (.ok f) s') :
    wpAny (model X.prog X.w) X.A (comprehension (.ListComp elt [⟨tg, iter, ifs, 0⟩, ⟨tg2, iter2, ifs2, 0⟩] scope pos) scope X.env pos2 (newList []) false (eval iter X.env) use) QQ X.xe s := by
  obtain ⟨cl, hclos, hcl1, hcl2⟩ := closure_of (env := X.env) (scope := scope) fun y hy hf => I.ok.has y.1 (hfr y hy hf)
  refine wpAny_comprehension_free (use := use) rfl hs hclos hkind hnames (thn (hi pins s σ H _ I h) fun v s1 h1 => thn h1 fun itv s2 h2 => ?_)
  obtain ⟨it, fp, tn, J, H2, e, I2, T, st2, f2, h3⟩ := h2
  subst e
  have hpn : H2 s2.heap.objs.size = none := I2.hok.fresh (Nat.le_refl _)
  have h4 := h3 _ hpn
  refine wpAny_newObj_type ?_
  generalize hp : s2.heap.objs.size = p at *
  have I3 : Inv X pins σ (upd H2 p (.lst [])) { s2 with heap := s2.heap.push { cls := .type "list", dict := none, data := .seq ([] : List Value).toArray } } := by
    refine I2.laid (a := p) (o := .lst []) (t' := s2.toks) (fun b u q => Heap.get?_push_of_some _ q) (Nat.le_of_eq hp) ⟨Nat.zero_le _, [], 0, .nil, ?_⟩
    rw [← hp]
    exact Heap.get?_push_size _ rfl
  have hf3 : ∀ b ∈ fp, FpOk X pins (upd H2 p (.lst [])) b := fun b hb => by
    obtain ⟨o, ho, _⟩ := T.obj _ _ st2 b hb
    have : b ≠ p := by rw [← hp]; exact Nat.ne_of_lt (Heap.lt_size ho)
    exact ⟨by rw [upd_ne this]; exact (f2 b hb).1, (f2 b hb).2⟩
  generalize hs3 : ({ s2 with heap := s2.heap.push { cls := .type "list", dict := none, data := .seq ([] : List Value).toArray } } : Shared) = s3 at *
  have st3 : tn 0 s3.heap := by rw [← hs3]; exact T.keep _ _ _ st2 fun b _ o e => Heap.get?_push_of_some _ e
  generalize hH3 : upd H2 p (.lst []) = H3 at *
  refine wpAny_newFunctionEnv hcell (by intro y hy; simp at hy) (fun h1 hns1 hsb1 => ?_) hkind
  generalize hC : s3.heap.objs.size = C at *
  have keep : ∀ b u, s3.heap.get? b = some u → h1.get? b = some u := fun b u q =>
    hsb1.extBut b u (by rw [← hC]; exact Nat.ne_of_lt (Heap.lt_size q)) (Heap.get?_push_of_some _ q)
  have fpC : ∀ b ∈ fp, b ≠ C := fun b hb => by
    obtain ⟨o, ho, _⟩ := T.obj _ _ st3 b hb
    rw [← hC]; exact Nat.ne_of_lt (Heap.lt_size ho)
  have hCn : H3 C = none := I3.hok.fresh (Nat.le_of_eq hC)
  -- the block's own invariant, at its entry
  have ok' : (cxComp X scope N cl C s3 H3 fp).Ok := by
    refine ⟨I3.mod, hkind, I3.ok.glob, I3.ok.blt, Nat.le_of_eq hC, fun x y c a b => I3.ok.inj x y c (hcl1 x c a) (hcl1 y c b), fun x hx => ?_, fun _ _ z => Bool.noConfusion (show false = true from z), I3.ok.hd, I3.ok.frames, .inl rfl, fun b hb => ⟨fpC b hb, fun x c q => (hf3 b hb).2.2.2.2.1 x c (hcl1 x c q)⟩,
      I3.bs, Nat.le_trans I3.ok.bsz I3.sz, fun b o e hb => ?_, fun b hb z => ?_, I3.stack, I3.stkFree⟩
    · have hx' : (relabel scope X.env).names.lookup x = some .cell ∨ (relabel scope X.env).names.lookup x = some .free := hx
      rcases hx' with z | z
      · rcases lookup_relabel_mem z with y | ⟨_, y⟩
        · exact absurd rfl (hcell _ y)
        · exact hcl2 x y
      · rcases lookup_relabel_mem z with y | ⟨y, _⟩
        · exact hcl2 x y
        · cases y
    · rcases (hf3 b hb).2.2.2.1 with z | z
      · exact I3.ok.noex b o e z
      · exact absurd (Nat.lt_of_lt_of_le (Heap.lt_size e) (Nat.le_trans I3.ok.bsz z)) (Nat.lt_irrefl _)
    · rcases List.mem_cons.mp (I3.stkSub b z) with q | q
      · exact (hf3 b hb).2.1 q
      · exact (hf3 b hb).2.2.1 q
  have J0 : Inv (cxComp X scope N cl C s3 H3 fp) [] (σ0 σ) H3 { s3 with heap := h1, toks := s3.toks + ([] : List (Str × Value)).length } := by
    refine ⟨ok', rfl, I3.bare, Un.kept keep, ⟨_, hns1, fun i x v a b c => ?_⟩, fun x c q => ?_, hCn, fun x c q => I3.freeC x c (hcl1 x c q), fun q hq => absurd (show q ∈ ([] : List (Addr × Obj)) from hq) (by simp), I3.hok.kept keep, (hσ σ).1⟩
    · obtain ⟨hf, j, hj, hv⟩ := (hσ σ).2 i x v a b
      have hm := mem_of_lookupF hf
      obtain ⟨m, hn, hl⟩ := id I3.loc
      have hk := hfr _ hm rfl
      have hvis : Vis X.env.scope x := hk.elim (fun z => .inr (.inl z)) fun z => .inr (.inr z)
      obtain ⟨u, r, lk⟩ := hl j x v hj hv hvis
      refine ⟨u, r, .inr ⟨lookup_relabel_free hf, ?_⟩⟩
      obtain ⟨c', hc'⟩ := hcl2 x hm
      refine ⟨c', hc', ?_⟩
      have hx := hcl1 x c' hc'
      rcases lk with ⟨kl, _⟩ | ⟨_, c2, e2, o2, ho2, hd2⟩
      · rcases hk with z | z <;> rw [kl] at z <;> cases z
      · rw [hx] at e2
        cases e2
        exact ⟨o2, keep _ _ ho2, hd2⟩
    · obtain ⟨v, o, ho, hd⟩ := I3.cell x c (hcl1 x c q)
      exact ⟨v, o, keep _ _ ho, hd⟩
  have st4 : tn 0 h1 := T.keep _ _ _ st3 fun b _ o e => keep b o e
  have stat : ∀ {H' : Hp}, (∀ b ∈ fp, H' b = none) → ∀ b ∈ fp, FpOk (cxComp X scope N cl C s3 H3 fp) [] H' b := fun hn b hb =>
    ⟨hn b hb, fpC b hb, fun z => ok'.exfs b hb z, .inl hb, fun x c q => (hf3 b hb).2.2.2.2.1 x c (hcl1 x c q), fun q hq => absurd (show q ∈ ([] : List (Addr × Obj)) from hq) (by simp)⟩
  -- back to the def
  have back : ∀ {σ' : St} {H' : Hp} {s' : Shared} {pl : List (Addr × Obj)}, Inv (cxComp X scope N cl C s3 H3 fp) pl σ' H' s' → ∀ h', Heap.SameBut C s'.heap h' → Inv X pins σ H' { s' with heap := h' } := fun {σ' H' s' pl} J h' hsb => by
    have I5 : Inv X pins σ H' s' := Inv.call' (ch := fp) I3 J.os J.base J.hok J.bare fun b hb => ⟨(hf3 b hb).2.2.2.1, (hf3 b hb).2.1, (hf3 b hb).2.2.2.2.1, (hf3 b hb).2.2.2.2.2⟩
    refine Inv.turned (it := C) (t' := s'.toks) I5 (fun b o hb e => hsb.extBut b o hb e) J.free (fun z => ?_) (.inr ?_) (fun x c q z => ?_) fun q hq z => ?_
    · exact absurd (show X.env.locals < C by rw [← hC]; exact I3.lt) (by rw [z]; exact Nat.lt_irrefl _)
    · rw [← hC]; exact I3.sz
    · obtain ⟨v, o, ho, _⟩ := I3.cell x c q
      have := Heap.lt_size ho
      rw [z, hC] at this
      exact Nat.lt_irrefl _ this
    · have := Heap.lt_size (I3.pin q hq).1
      rw [z, hC] at this
      exact Nat.lt_irrefl _ this
  have ff : ∀ b ∈ fp, FpOk (cxComp X scope N cl C s3 H3 fp) [] H3 b := stat fun b hb => (hf3 b hb).1
  have loop : codeAny (model X.prog X.w) X.A (.compLoop (.ListComp elt [⟨tg, iter, ifs, 0⟩, ⟨tg2, iter2, ifs2, 0⟩] scope pos) 0 (.ref it) (.ref p) (compEnvC scope cl C X.env)) (compPost (model X.prog X.w) X.A X.xe use QQ (.ref p) C) { s3 with heap := h1, toks := s3.toks + ([] : List (Str × Value)).length } := by
    refine loop_of (X := cxComp X scope N cl C s3 H3 fp) (Q := fun _ H' => Q (.ref p) H') (turn_two0 _ _ _ _ _ _ _ _ _ _ _ _) hc hxe T (hg cl C s3 H3 fp) (ht cl C s3 H3 fp) (pb_two hc hxe (hi2 cl C s3 H3 fp) (hg2 cl C s3 H3 fp) (ht2 cl C s3 H3 fp) (he cl C s3 H3 fp) (hs2 _)) J0 st4 ff h4 ?_
    intro s4 σ' H' I4 q
    obtain ⟨m, hn, _⟩ := id I4.loc
    have I5 : Inv X pins σ H' s4 := Inv.call' (ch := fp) I3 I4.os I4.base I4.hok I4.bare fun b hb => ⟨(hf3 b hb).2.2.2.1, (hf3 b hb).2.1, (hf3 b hb).2.2.2.2.1, (hf3 b hb).2.2.2.2.2⟩
    exact hend p C H' s4 m _ I5 (I3.fpOk (Nat.le_of_eq hC) I4.free) hn (fun h' hsb => back I4 h' hsb) q
  exact codeAny_compStart_list loop (T.self X.A 0 _ _ _ st4 loop)
theorem pe_comp2 {X : Cx} {elt tg iter tg2 iter2 : Expr} {ifs ifs2 : List Expr} {scope : Scope} {pos : Pos} {wi wi2 : TI} {g g2 : TG} {tc tc2 : TT} {te : TE} {N : List Str} {σ0 : St → St}
    (hc : X.calm = true) (hxe : ∀ e s, X.xe e s → False) (hcell : ∀ y ∈ scope.names, y.2 ≠ .cell) (hkind : scope.kind = .function) (hnames : ∀ y ∈ scope.names, y.2 = .local → scope.names.lookup y.1 = some .local)
    (hfr : ∀ y ∈ scope.names, y.2 = .free → X.env.kindOf y.1 = some .cell ∨ X.env.kindOf y.1 = some .free) (hσ : Sees X scope N σ0)
    (hi : PI X tg iter wi)
    (hg : ∀ cl C s H ex, PG (cxComp X scope N cl C s H ex) tg g) (ht : ∀ cl C s H ex, PTs (cxComp X scope N cl C s H ex) ifs tc) (hi2 : ∀ cl C s H ex, PI (cxComp X scope N cl C s H ex) tg2 iter2 wi2) (hg2 : ∀ cl C s H ex, PG (cxComp X scope N cl C s H ex) tg2 g2) (ht2 : ∀ cl C s H ex, PTs (cxComp X scope N cl C s H ex) ifs2 tc2) (he : ∀ cl C s H ex, PE (cxComp X scope N cl C s H ex) elt te)
    (hs : ∀ x, foldedSetIterable iter X.env x = pure x := by intro _; rfl) (hs2 : ∀ env x, foldedSetIterable iter2 env x = pure x := by intro _ _; rfl) : PE X (.ListComp elt [⟨tg, iter, ifs, 0⟩, ⟨tg2, iter2, ifs2, 0⟩] scope pos) (tComp2 σ0 wi g tc wi2 g2 tc2 te) := by
  intro pins s σ H Q I h
  rw [eval_ListComp]
  refine comp_core2 (use := none) (QQ := EP X pins σ Q) hc hxe hcell hkind hnames hfr hσ hi hg ht hi2 hg2 ht2 he hs hs2 I h ?_
  intro p C H' s' m f I5 fC hn back q
  exact ⟨m, hn, fun h' hsb => ⟨.ref p, H', back h' hsb, rfl, q⟩⟩
end L2

set_option Elab.async false
set_option linter.all false
set_option maxRecDepth 100000
set_option maxHeartbeats 1000000
namespace L2
open PySem PySem.Spec PyProof.Rows MA
/-! ### set(list of ints), len of a set, list(range(n)) -/
/-! ### readings of a clause's walk -/
/-! ### a tuple, a list walked inside a comprehension: no K -/
end L2

set_option Elab.async false
set_option linter.all false
set_option maxRecDepth 100000
set_option maxHeartbeats 1000000
namespace L2
open PySem PySem.Spec PyProof.Rows MA SeqAt
/-! ### a text and a dict are not the same -/
end L2

set_option Elab.async false
set_option linter.all false
set_option maxRecDepth 100000
set_option maxHeartbeats 1000000
namespace PySem
open Sem (wp)
namespace F
end F
end PySem
namespace L2
open PySem PySem.Spec PyProof.Rows MA
end L2

set_option Elab.async false
set_option linter.all false
set_option maxRecDepth 100000
set_option maxHeartbeats 4000000
namespace L2
open PySem PySem.Spec PyProof.Rows
/-! ### dict comprehensions of one clause -/
end L2

set_option Elab.async false
set_option linter.all false
set_option maxRecDepth 100000
set_option maxHeartbeats 1000000
namespace L2
open PySem PySem.Spec PyProof.Rows
/-! ### for k, v in d.items(): the dict is frozen from then on -/
end L2

set_option Elab.async false
set_option linter.all false
set_option maxRecDepth 100000
set_option maxHeartbeats 4000000
/-! ### isinstance of an own exception -/
namespace L2
open PySem PySem.Builtin PySem.Builtin.ObjectAttr PySem.Spec PyProof.Rows
/-- an own class under ValueError, as the module's part shows it -/
structure ExcK (K : PySem.W.Frag) (C : Addr) : Prop where
  ga : PySem.W.findIn K (.ref C) "__getattribute__" = some (some (.builtin "BaseException.__getattribute__"))
  gh : PySem.W.findIn K (.ref C) "__getattr__" = some none
  cl : PySem.W.findIn K (.ref C) "__class__" = some (some (.builtin "object.__class__"))
  gs : PySem.W.specialIn K (.builtin "object.__class__") "__get__" = some (some (.builtin "getset_descriptor.__get__"))
  tk : PySem.W.takesIn K (.builtin "object.__class__") = some true
  cd : (PySem.W.clsIn K C).isSome = true
  ob : PySem.W.mroIn K C (.type "object") = some true
  be : PySem.W.mroIn K C (.type "BaseException") = some true
/-- a thing whose class is the one at C -/
def ExcAt (e C : Addr) (h : Heap) : Prop := ∃ o, h.get? e = some o ∧ o.cls = .ref C
section
variable {K : PySem.W.Frag} {e C : Addr} {h : Heap} {M : Model}
theorem ExcAt.type (x : ExcAt e C h) : PySem.W.Looks M h (typeOf (.ref e)) (.ref C) := by
  obtain ⟨o, h1, h2⟩ := x
  exact h2 ▸ (PySem.W.Looks.ld h1).andThen .now
theorem exc_find (X : K.In h) (z : ExcK K C) : PySem.W.Looks M h (find (.ref e) (.ref C) "__class__") (.bind (.builtin "getset_descriptor.__get__") (.builtin "object.__class__")) := by
  have l1 := PySem.W.looks_findIn (M := M) X z.cl
  have l2 : PySem.W.Looks M h (getOf (some (.builtin "object.__class__"))) (some (.builtin "getset_descriptor.__get__")) := PySem.W.looks_specialIn X z.gs
  have l3 := PySem.W.looks_takesIn (M := M) X z.tk
  have l4 : PySem.W.Looks M h (dataDescriptor? (some (.builtin "object.__class__")) (some (.builtin "getset_descriptor.__get__"))) (some (.builtin "getset_descriptor.__get__", .builtin "object.__class__")) := l3.andThen .now
  exact l1.andThen (l2.andThen (l4.andThen (.tag .now)))
end
section
variable {prog : Program} {w : World} {A : Around} {E : Value → Shared → Prop} {s : Shared} {K : PySem.W.Frag} {e C : Addr}
open PySem.W PySem.Builtin.Getset_descriptor in
theorem exc_getter {R : Result → Shared → Prop} {tp : Value} (X : K.In s.heap) (x : ExcAt e C s.heap) (z : ExcK K C) (q : R (.ok (.ret (.ref C))) s) :
    codeAny (model prog w) A (.call (.builtin "getset_descriptor.__get__") ⟨[.builtin "object.__class__", .ref e, tp], []⟩) R s := by
  obtain ⟨hh, gg, dr, tt, os⟩ := s
  have l0 := x.type (M := model prog w)
  have l1 := looks_mroIn (M := model prog w) X z.ob
  refine codeAny_call_builtin KF.slot_gs.plain
    KF.entry_gs (KF.slot_gs.check _ _ _ _ _ _ _ _
      KF.type_class (KF.args_gs _ _ _) ?_)
  unfold Builtin.«getset_descriptor.__get__»
    descrGet
  rw [dga_obj]
  refine wpAny_bind (wpAny_pure ?_)
  unfold descrGetter descrCheckInstance
    descrNameAndClass isInstance
  simp only [KF.owner_class]
  repeat lk
  refine ⟨Code.quiet_builtin _
    (by decide +kernel), codeAny_builtin KF.entry_class ?_⟩
  unfold Builtin.«object.__class__»
    shownTypeOf
  repeat lk
  exact q
open PySem.W in
theorem exc_check {M : Model} {nv : Value} {Q : Unit → Shared → Prop} (X : K.In s.heap) (x : ExcAt e C s.heap) (z : ExcK K C) (q : Q () s) :
    wpAny M A (checkBuiltinCall "BaseException.__getattribute__" ⟨[.ref e, nv], []⟩) Q E s := by
  obtain ⟨hh, gg, dr, tt, os⟩ := s
  have l0 := x.type (M := M)
  have l1 := looks_mroIn (M := M) X z.be
  have k1 : builtinKind "BaseException.__getattribute__" = some .slot := by decide +kernel
  have k2 : splitId "BaseException.__getattribute__" = some ("BaseException", "__getattribute__") := by decide +kernel
  have k3 := F.args_bexc_ga (.ref e) nv
  simp only [checkBuiltinCall, k1, k2]
  unfold isInstance
  refine wpAny_bind ?_
  repeat lk
  repeat (first | exact q | wp_step)
open PySem.W in
theorem exc_attr {Q : Option Value → Shared → Prop} (X : K.In s.heap) (x : ExcAt e C s.heap) (z : ExcK K C) (q : Q (some (.ref C)) { s with toks := s.toks + 1 }) :
    wpAny (model prog w) A (getAttr? (.ref e) "__class__") Q E s := by
  obtain ⟨hh, gg, dr, tt, os⟩ := s
  have l0 := x.type (M := model prog w)
  have l1 := looks_findIn (M := model prog w) X z.ga
  have l2 := looks_findIn (M := model prog w) X z.gh
  have l3 := exc_find (M := model prog w) (e := e) X z
  have b1 := F.attr_ValueError.ga.bind (.ref e)
  unfold getAttr? getAttrBy? getAttrBy
  refine wpAny_bind (wpAny_mkText (wpAny_bind (wpAny_attempt (wpAny_holding
    (wpAny_bind (l0.at (wpAny_bind (l1.at ?_))))))))
  have hx2 : (Value.builtin "BaseException.__getattribute__" == Value.builtin "object.__getattribute__") = false := by decide +kernel
  dsimp only
  rw [hx2, Bool.and_false, if_neg Bool.false_ne_true]
  unfold getAttrByItsOwn
  refine wpAny_bind (l2.at ?_)
  refine wpAny_bind (wpAny_attempt (wpAny_holding ?_))
  show wpAny _ _ (boundAndCalled _ _ _) _ _ _
  unfold boundAndCalled
  rw [b1]
  refine wpAny_bind (wpAny_pure ?_)
  refine wpAny_call (codeAny_call_builtin F.attr_ValueError.ga.plain F.entry_bexc_ga (exc_check X x z ?_))
  unfold Builtin.«object.__getattribute__»
  refine wpAny_bind (wpAny_pure ?_)
  refine wpAny_bind (wpAny_pure ?_)
  refine wpAny_bind (l0.at ?_)
  refine wpAny_bind (l3.at ?_)
  show wpAny _ _ (holding [_] (call _ [_, _, _]) >>= ret) _ _ _
  refine wpAny_bind (wpAny_holding (wpAny_call (exc_getter X x z ?_)))
  refine wpAny_pure ?_
  show wpAny _ _ (handedOut _) _ _ _
  exact handed_on rfl (wpAny_pure q)
open PySem.W in
theorem kitx_exc (z : ExcK K C) : KitX K (.ref e) (.ref C) (ExcAt e C) where
  ty := fun _ _ _ x => x.type
  it := fun _ _ X _ => by
    obtain ⟨cd, hc⟩ := Option.isSome_iff_exists.mp z.cd
    unfold clsIn at hc
    split at hc
    · rename_i ho
      intro A' Q' E' s' k q'
      unfold isType loadHead
      refine wpAny_bind (wpAny_loadPart (k _ _ (X _ _ ho)) ?_)
      exact wpAny_pure q'
    · cases hc
  ne := fun h tp dd its n sl X htp => by
    obtain ⟨cd, hc⟩ := Option.isSome_iff_exists.mp z.cd
    refine Bool.eq_false_iff.mpr fun q' => ?_
    have e' : C = tp := Value.ref.inj (beq_iff_eq.mp q')
    subst e'
    unfold clsIn at hc
    split at hc
    · rename_i ho
      have z' := (X _ _ ho).symm.trans htp
      cases z'
    · cases hc
  ca := fun X x q => exc_attr X x z q
end
end L2

set_option Elab.async false
set_option linter.all false
set_option maxRecDepth 100000
set_option maxHeartbeats 4000000
/-! ### own exceptions -/
namespace L2
open PySem PySem.Spec PyProof.Rows
/-- an own exception in flight, at x, of the class at C: all that was tracked or stood ahead of the call stands in B, which the flight keeps -/
structure FlyB (B : Heap) (a0 : Value) (P : Program) (w : World) (outer : List Env) (H : Hp) (s : Shared) (x C : Addr) (H' : Hp) (s' : Shared) : Prop where
  os : s'.os = s.os
  bare : AllBare s'.gens
  un : Un (frs outer) [] H H' s.heap s'.heap
  hok : HOk P w H' s'.heap
  fl : Heap.FlyingW B outer x (.ref C) a0 s'.heap
  tr : ∀ b u, H' b = some u → ∃ o, B.get? b = some o
  pre : ∀ b o, s.heap.get? b = some o → b ∉ frs outer → ∃ o', B.get? b = some o'
def Fly (P : Program) (w : World) (outer : List Env) (H : Hp) (s : Shared) (x C : Addr) (H' : Hp) (s' : Shared) : Prop := ∃ B a0, FlyB B a0 P w outer H s x C H' s'
def CX1 (P : Program) (w : World) : CXT := fun outer H s E e s' => ∃ x C H', e = .ref x ∧ Fly P w outer H s x C H' s' ∧ E (.ref C) none H'
section
variable {X : Cx} {pins : List (Addr × Obj)} {σ : St} {H H' : Hp} {s s' : Shared}
/-- the frame is left: seen from the callers -/
theorem left_un {h2 h' B : Heap} (I : Inv X pins σ H s) (hx : X.ex = []) (hst : frs X.stack = X.env.locals :: X.fs) (u : Un (frs X.stack) [] H H' s.heap h2) (kB : B.StaysIn h2) (k' : B.StaysIn h')
    (ff : h'.FunFrames B X.outer) (up : h2.UpToSlots h') (pre : ∀ b o, s.heap.get? b = some o → b ∉ frs X.stack → ∃ o', B.get? b = some o') : Un X.fs [] X.H₀ H' X.s₀.heap h' := by
  have nx : ∀ b : Addr, b ∉ X.ex := fun b z => by rw [hx] at z; exact absurd z (by simp)
  have nL : ∀ b o, X.s₀.heap.get? b = some o → b ≠ X.env.locals := fun b o e => Nat.ne_of_lt (Nat.lt_of_lt_of_le (Heap.lt_size e) I.ok.above)
  have nS : ∀ b o, X.s₀.heap.get? b = some o → b ∉ X.fs → b ∉ frs X.stack := fun b o e hb z => by
    rw [hst] at z
    exact (List.mem_cons.mp z).elim (nL b o e) hb
  refine ⟨fun b o e n hb _ => ?_, fun b o e n hb _ => ?_, fun b o e n _ => ?_, fun b o e _ => ?_, fun b xs q => u.tups b xs (I.base.tups b xs q), fun b o v q => u.frzs b o v (I.base.frzs b o v q), fun b ps q => ?_⟩
  · have e1 := I.base.keep b o e n hb (nx b)
    have n1 := I.base.free b o e n (nx b)
    have e2 := u.keep b o e1 n1 (nS b o e hb) (by simp)
    obtain ⟨o', e3⟩ := pre b o e1 (nS b o e hb)
    have e4 := kB b o' e3
    rw [e2] at e4
    cases e4
    exact k' b o e3
  · obtain ⟨sl, e1⟩ := I.base.slot b o e n hb (nx b)
    have n1 := I.base.free b o e n (nx b)
    obtain ⟨sl2, e2⟩ := u.slot b _ e1 n1 (by rw [hst]; exact List.mem_cons_of_mem _ hb) (by simp)
    obtain ⟨_, o3, e3, hd⟩ := I.funs.mem hb
    rw [e1] at e3
    cases e3
    obtain ⟨sl3, e4⟩ := up b _ e2 hd
    exact ⟨sl3, e4⟩
  · obtain ⟨o1, e1⟩ := I.base.there b o e (nx b)
    exact u.free b o1 e1 (I.base.free b o e n (nx b)) (by simp)
  · obtain ⟨o1, e1⟩ := I.base.there b o e (nx b)
    by_cases hb : b ∈ X.fs
    · obtain ⟨_, o2, e2, _⟩ := ff.mem hb
      exact ⟨o2, e2⟩
    · obtain ⟨o2, e2⟩ := pre b o1 e1 (nS b o e hb)
      exact ⟨o2, k' b o2 e2⟩
  · obtain ⟨m1, e1⟩ := I.base.tbls b ps q
    obtain ⟨m2, e2⟩ := u.tbls b _ e1
    exact ⟨m1 ++ m2, by rw [e2, Array.append_assoc]⟩
/-- what is tracked stands in B -/
theorem hok_of_B {P : Program} {w : World} {h2 h' B : Heap} (hok : HOk P w H' h2) (kB : B.StaysIn h2) (k' : B.StaysIn h') (tr : ∀ b u, H' b = some u → ∃ o, B.get? b = some o) : HOk P w H' h' := fun a o e =>
  (hok a o e).stay (fun b u hb q => by
    obtain ⟨o', e'⟩ : ∃ o', B.get? b = some o' := by
      rcases hb with z | z
      · subst z; exact tr b o e
      · exact tr b _ z
    have e2 := kB b o' e'
    rw [q] at e2
    cases e2
    exact k' b u e') (fun _ q => q) fun _ _ q => q
/-- a def's body: its own frame is the uppermost one -/
structure Body (X : Cx) : Prop where
  ex : X.ex = []
  st : X.stack = X.env :: X.outer
  fr : X.env.frame = some X.env.locals
theorem Body.frs (b : Body X) : L2.frs X.stack = X.env.locals :: X.fs := by
  rw [b.st]
  show List.filterMap _ _ = _
  rw [List.filterMap_cons, b.fr]
  rfl
/-- an exception of a callee leaves this def, too -/
theorem fly_leave {M : Model} {E : XK} {E' : Value → Shared → Prop} {x C : Addr} (b : Body X) (I : Inv X pins σ H s) (F : Fly X.prog X.w X.stack H s x C H' s') (hE : E (.ref C) none H') :
    wpAny M X.A (leaving X.env (.ref x)) (fun _ s'' => CX1 X.prog X.w X.outer X.H₀ X.s₀ E (.ref x) s'') E' s' := by
  obtain ⟨B, a0, F⟩ := F
  have fl := F.fl
  have tr := F.tr
  have pre := F.pre
  have fl2 := fl
  rw [b.st] at fl2
  refine wpAny_leaves_onW (by rw [I.ok.frames, b.st]) b.fr fl2 fun h' f' up => ?_
  refine ⟨x, C, H', rfl, ⟨B, a0, F.os.trans I.os, F.bare, left_un I b.ex b.frs F.un fl.1 f'.1 f'.2.2.1 up pre, hok_of_B F.hok fl.1 f'.1 tr, f', tr, fun c o e hc => ?_⟩, hE⟩
  obtain ⟨o1, e1⟩ := I.base.there c o e (by rw [b.ex]; simp)
  refine pre c o1 e1 fun z => ?_
  rw [b.frs] at z
  exact (List.mem_cons.mp z).elim (Nat.ne_of_lt (Nat.lt_of_lt_of_le (Heap.lt_size e) I.ok.above)) hc
/-- an exception that was made here leaves this def -/
theorem made_leave {M : Model} {E : XK} {E' : Value → Shared → Prop} {x C : Addr} {vs : List Value} {h3 : Heap} (b : Body X) (I : Inv X pins σ H s) (hm : Heap.MadeExcOf s.heap h3 x (.ref C) vs) (hE : E (.ref C) none H) :
    wpAny M X.A (leaving X.env (.ref x)) (fun _ s'' => CX1 X.prog X.w X.outer X.H₀ X.s₀ E (.ref x) s'') E' { s with heap := h3 } := by
  have kB : (PySem.W.hideAll s.heap (frs X.stack)).StaysIn s.heap := fun c o q => PySem.W.of_hideAll _ q
  have ff : s.heap.FunFrames (PySem.W.hideAll s.heap (frs X.stack)) (X.env :: X.outer) := by
    have := I.stack
    rw [b.st] at this ⊢
    exact PySem.W.funFrames_hide this fun env he c hc => List.mem_filterMap.mpr ⟨env, he, hc⟩
  have inB : ∀ c o, s.heap.get? c = some o → c ∉ frs X.stack → (PySem.W.hideAll s.heap (frs X.stack)).get? c = some o := fun c o e hc => PySem.W.hideAll_get _ e hc
  have tr : ∀ c u, H c = some u → ∃ o, (PySem.W.hideAll s.heap (frs X.stack)).get? c = some o := fun c u q => by
    have : ∃ o, s.heap.get? c = some o := by
      have z := I.hok c u q
      cases u with
      | lst xs => obtain ⟨_, _, _, _, e⟩ := z; exact ⟨_, e⟩
      | tup xs => obtain ⟨_, _, _, o, e, _⟩ := z; exact ⟨_, e⟩
      | dK kvs => obtain ⟨_, _, _, _, o, _, _, e, _⟩ := z; exact ⟨_, e⟩
      | dT kvs => obtain ⟨_, _, _, _, o, _, _, e, _⟩ := z; exact ⟨_, e⟩
      | set S n => obtain ⟨o, _, _, _, e, _⟩ := z; exact ⟨_, e⟩
      | ins C dx fs => obtain ⟨_, _, _, e, _⟩ := z; exact ⟨_, e⟩
      | own y => exact z
      | xd fs => obtain ⟨_, ⟨_, _, _, e, _⟩, _⟩ := z; exact ⟨_, e⟩
      | rng lo hi => obtain ⟨_, _, _, e⟩ := z; exact ⟨_, e⟩
      | frz ob u => obtain ⟨e, _⟩ := z; exact ⟨_, e⟩
      | tbl ps => exact ⟨_, z⟩
      | tab q => obtain ⟨_, e, _⟩ := z; exact ⟨_, e⟩
      | met f y => exact ⟨_, z⟩
      | ext φ => obtain ⟨_, e, _⟩ := z; exact e
    obtain ⟨o, e⟩ := this
    exact ⟨o, inB c o e fun z => by rw [I.stkFree c z] at q; cases q⟩
  refine wpAny_leaves_madeW (by rw [I.ok.frames, b.st]) b.fr kB ff hm fun h' t f' _ _ up => ?_
  have k3 : ∀ c o, s.heap.get? c = some o → h3.get? c = some o := hm.keeps
  have kB3 : (PySem.W.hideAll s.heap (frs X.stack)).StaysIn h3 := fun c o q => k3 c o (kB c o q)
  have hok3 : HOk X.prog X.w H h3 := I.hok.kept k3
  refine ⟨x, C, H, rfl, ⟨_, _, I.os, I.bare, left_un I b.ex b.frs (Un.kept k3) kB3 f'.1 f'.2.2.1 up fun c o e hc => ⟨o, inB c o e hc⟩, hok_of_B hok3 kB3 f'.1 tr, f', tr, fun c o e hc => ?_⟩, hE⟩
  obtain ⟨o1, e1⟩ := I.base.there c o e (by rw [b.ex]; simp)
  refine ⟨o1, inB c o1 e1 fun z => ?_⟩
  rw [b.frs] at z
  exact (List.mem_cons.mp z).elim (Nat.ne_of_lt (Nat.lt_of_lt_of_le (Heap.lt_size e) I.ok.above)) hc
end
/-! ### raise -/
theorem body_of {CX : CXT} {P : Program} {w : World} {K : PySem.W.Frag} {mg : Str → Option Value} {base : Heap} {N : List Str} {qual : Str} {scope : Scope} {f : Addr} {cd : Value} {A : Around} {outer : List Env} {s : Shared} {H : Hp} {E : XK} :
    Body (cxOf CX P w K mg base N qual scope f cd A outer s H E) := ⟨rfl, rfl, rfl⟩
/-- what an exception that is made here must do -/
def Raises (X : Cx) (E : XK) : Prop := ∀ (pins : List (Addr × Obj)) (σ : St) (H : Hp) (s : Shared) (h3 : Heap) (x C : Addr) (vs : List Value), Inv X pins σ H s → Heap.MadeExcOf s.heap h3 x (.ref C) vs → E (.ref C) none H → X.xe (.ref x) { s with heap := h3 }
section
variable {P : Program} {w : World} {K : PySem.W.Frag} {mg : Str → Option Value} {base : Heap} {N : List Str} {qual : Str} {scope : Scope} {f : Addr} {cd : Value} {A : Around} {outer : List Env} {s : Shared} {H : Hp} {E : XK}
theorem raises1 : Raises (cxOf (CX1 P w) P w K mg base N qual scope f cd A outer s H E) E := fun pins σ H1 s1 h3 x C vs I hm hE => made_leave body_of I hm hE
theorem passes1 : Passes (CX1 P w) (cxOf (CX1 P w) P w K mg base N qual scope f cd A outer s H E) E := fun pins σ H1 s1 e s' I h => by
  obtain ⟨x, C, H', rfl, F, hE⟩ := h
  exact fly_leave body_of I F hE
end
abbrev bmVE : List Value := [.type "ValueError", .type "Exception", .type "BaseException", .type "object"]
open PySem.W in
theorem exc_obj {K : Frag} {h : Heap} {C : Addr} {bmB : List Value} {ni : String} (X : K.In h) (z : excIn K C bmB ni = true) :
    ∃ bm N nm qn bs hd sn sub ab col dd k0 k1 k2 k3 k5 mN, h.get? C = some (excClassObj nm qn C N bs bm hd sn sub ab col dd k0 k1 k2 k3 k5 ni) ∧ h.Ns N mN ∧ mN "__init__" = none ∧ OwnTail h bmB bm := by
  unfold excIn at z
  split at z
  · rename_i dd cd sl ho
    split at z
    · rename_i C' bm k0 k1 k2 k3 n k5 hm hs
      simp only [Bool.and_eq_true, beq_iff_eq, Bool.not_eq_true'] at z
      obtain ⟨⟨⟨⟨⟨z1, z2⟩, z3⟩, z4⟩, z5⟩, z6⟩ := z
      subst z1
      subst z2
      obtain ⟨nm, bs, mro, ns, qn, hd, sn, sub, ab, col, del⟩ := cd
      dsimp only at hm z3 z5 z6
      subst hm
      subst z3
      have e : sl = #[k0, k1, k2, k3, some (.builtin n), k5] := by
        cases sl with
        | mk l => simp only at hs; rw [hs]
      subst e
      refine ⟨bm, ns, nm, qn, bs, hd, sn, sub, ab, col, dd, k0, k1, k2, k3, k5, h.nsMap ns, X _ _ ho, ?_, ?_, tail_of_in X z4⟩
      · exact .of_isNs (isNs_of_in X z5)
      · exact nsMap_none_of_in X z5 z6
    · cases z
  · cases z
def tRaise (C : Addr) (E : XK) (t : TA) : TS := fun _ σ H => t σ H fun vs H1 => vs.length ≤ sizeLine ∧ E (.ref C) none H1
theorem ps_raise {X : Cx} {E : XK} {C : Addr} {x : Str} {e : Expr} {es : List Expr} {t : TA} {np cpos pos : Pos} (R : Raises X E) (hc : X.calm = true) (z : PySem.W.excIn X.K C bmVE "ValueError.__new__" = true) (hg : Gl X x) (hm : X.mg x = some (.ref C)) (ha : PA X (e :: es) t)
    (hd : (x == ("__debug__" : Str)) = false := by decide) (he : starEach (e :: es) X.env = (false, eval e X.env) :: starEach es X.env := by rfl) (hpl : (backTo cpos (starEach es X.env)).any (·.1) = false := by rfl) :
    PS X (.Raise (some (.Call (.Name x np) (e :: es) [] cpos)) none pos) (tRaise C E t) := by
  intro pins s σ H D I h
  obtain ⟨bm, N, nm, qn, bs, hdc, sn, sub, ab, col, dd, k0, k1, k2, k3, k5, mN, hC, hN, hni, T⟩ := exc_obj I.mod.kin z
  refine wpAny_Raise_call_subT (C := C) (nm := nm) (q := qn) (N := N) (bs := bs) (bm := bm) (hdct := hdc) (sn := sn) (sub := sub) (ab := ab) (col := col) (dd := dd) (k0 := k0) (k1 := k1) (k2 := k2) (k3 := k3) (k5 := k5)
    F.excBase_ValueError (mN := mN) (T.hasType F.excBase_ValueError.hasBase) (I.ok.hd hc) ?_ hni (ld_glob I hg hm ⟨rfl, ?_⟩ hd)
  · rw [he]
    show (false || (backTo cpos (starEach es X.env)).any (·.1)) = false
    rw [hpl]
    rfl
  · have h1 := ha cpos pins s σ H _ I h
    rw [he] at h1 ⊢
    exact Calls.evalArgs_plain (thn h1 fun us s2 ⟨vs, H2, I2, r, hz, hE⟩ => ⟨rfl, by rw [← r.length]; exact hz, I2.bk _ _ hC, hN.keeps I2.bk, T.keeps I2.bk, fun h' x' hm' => R pins σ H2 s2 h' x' C us I2 hm' hE⟩)
/-- a def that may be called by its name, and may raise -/
structure Cal1 (P : Program) (w : World) (K : PySem.W.Frag) (mg : Str → Option Value) (base : Heap) (x : Str) (ps : List Str) (k : Nat) (sp : Sp) : Prop where
  ex : ∃ f fd, FnOk P w K mg base (CX1 P w) k f fd ps sp ∧ mg x = some (.ref f) ∧ PySem.W.keepIn K (.ref f) = true ∧ Binds K fd ps []
section
variable {P : Program} {w : World} {K : PySem.W.Frag} {mg : Str → Option Value} {base : Heap} {x : Str} {ps : List Str} {k : Nat} {sp : Sp}
theorem FunAt.cal1 {N : List Str} {st : Stmt} (F : FunAt K mg x ps st) (S : FnScope N ps (defScope st)) (len : ∀ vs H Q E, sp vs H Q E → vs.length = ps.length)
    (hbody : ∀ (f : Addr) (cdv : Value) (A : Around) (outer : List Env) (s : Shared) (H : Hp) (vs : List V) (Q : VK) (E : XK), Room k (A.deeper (envOfC x (defScope st) s.heap.objs.size f cdv)) → sp vs H Q E →
      ∃ t, PSs (cxOf (CX1 P w) P w K mg base N x (defScope st) f cdv A outer s H E) (defBody st) t ∧ t { nx := fun _ H' => Q .non H', rt := Q } (start N vs) H) : Cal1 P w K mg base x ps (k + 1) sp := by
  obtain ⟨f, fd, F1, m, b⟩ := F.ex
  refine ⟨f, fd, ?_, m, F1.kp, b⟩
  obtain ⟨oc, od, kV, doc, pm, an, cdv, ct, osl, rfl, lk, hcd⟩ := F1.ex
  exact fn_of lk hcd S len fun A outer s H vs Q E hr hsp => hbody f cdv A outer s H vs Q E hr hsp
end
theorem cc1 {X : Cx} {x : Str} {ps : List Str} {k : Nat} {sp : Sp} {e : Expr} {es : List Expr} {t : TA} {p pos : Pos} {E : XK} (hx : Passes (CX1 X.prog X.w) X E) (c : Cal1 X.prog X.w X.K X.mg X.base x ps k sp) (hr : Room k X.A) (ha : PA X (e :: es) t) (hg : Gl X x := by rfl) (hd : (x == ("__debug__" : Str)) = false := by decide)
    (hs : starEach (e :: es) X.env = (false, eval e X.env) :: starEach es X.env := by rfl) (hp : (backTo pos (starEach es X.env)).any (·.1) = false := by rfl) : PE X (.Call (.Name x p) (e :: es) [] pos) (tCall sp [] E t) := by
  obtain ⟨f, fd, F, m, kp, b⟩ := c.ex
  exact pe_call F hr hg m kp b .nil hx ha hd hs hp
end L2

set_option Elab.async false
set_option linter.all false
set_option maxRecDepth 100000
set_option maxHeartbeats 4000000
/-! ### try .. except -/
namespace L2
open PySem PySem.Spec PyProof.Rows
section
variable {P : Program} {w : World} {outer : List Env} {H H' : Hp} {s s' : Shared} {x C : Addr} {B : Heap} {a0 : Value}
/-- the flight goes on to another heap -/
theorem FlyB.move {h5 : Heap} (F : FlyB B a0 P w outer H s x C H' s') (ff : s.heap.FunFrames B outer) (f' : Heap.FlyingW B outer x (.ref C) a0 h5) (up : s'.heap.UpToSlots h5) : FlyB B a0 P w outer H s x C H' { s' with heap := h5 } := by
  refine ⟨F.os, F.bare, ⟨fun b o e n hb _ => ?_, fun b o e n hb _ => ?_, F.un.free, fun b o e _ => ?_, F.un.tups, F.un.frzs, F.un.tbls⟩, hok_of_B F.hok F.fl.1 f'.1 F.tr, f', F.tr, F.pre⟩
  · have e2 := F.un.keep b o e n hb (by simp)
    obtain ⟨o', e3⟩ := F.pre b o e hb
    have e4 := F.fl.1 b o' e3
    rw [e2] at e4
    cases e4
    exact f'.1 b o e3
  · obtain ⟨sl, e2⟩ := F.un.slot b o e n hb (by simp)
    obtain ⟨_, o3, e3, hd⟩ := ff.mem hb
    rw [e] at e3
    cases e3
    obtain ⟨sl3, e4⟩ := up b _ e2 hd
    exact ⟨sl3, e4⟩
  · by_cases hb : b ∈ frs outer
    · obtain ⟨_, o2, e2, _⟩ := f'.2.2.1.mem hb
      exact ⟨o2, e2⟩
    · obtain ⟨o2, e2⟩ := F.pre b o e hb
      exact ⟨o2, f'.1 b o2 e2⟩
theorem FlyB.ne (F : FlyB B a0 P w outer H s x C H' s') {b : Addr} {u : HO} (e : H' b = some u) : b ≠ x := fun z => by
  obtain ⟨o, e'⟩ := F.tr b u e
  rw [z, F.fl.2.1] at e'
  cases e'
theorem FlyB.at (F : FlyB B a0 P w outer H s x C H' s') : ExcAt x C s'.heap := by
  obtain ⟨o, e, c⟩ := F.fl.there
  exact ⟨o, e, c⟩
/-- the thing as an object of its own -/
abbrev excO (x C : Addr) : HO := .ext (ExcAt x C)
theorem excO_ok {h : Heap} (z : ExcAt x C h) : ObjOk P w H h x (excO x C) := by
  obtain ⟨o, e, c⟩ := z
  refine ⟨⟨o, e, c⟩, ⟨o, e⟩, fun h1 h2 ⟨o1, e1, c1⟩ k => ⟨o1, k o1 e1, c1⟩⟩
theorem FlyB.fresh (F : FlyB B a0 P w outer H s x C H' s') : s.heap.get? x = none := by
  cases e : s.heap.get? x with
  | none => rfl
  | some o =>
    by_cases hb : x ∈ frs outer
    · obtain ⟨_, o2, e2, hd⟩ := F.fl.2.2.1.mem hb
      obtain ⟨o3, vs, e3, _, hd3, _⟩ := F.fl.first
      rw [e2] at e3
      cases e3
      exact absurd hd3 (hd vs)
    · obtain ⟨o', e'⟩ := F.pre x o e hb
      rw [F.fl.2.1] at e'
      cases e'
theorem FlyB.free (F : FlyB B a0 P w outer H s x C H' s') : H' x = none := by
  cases e : H' x with
  | none => rfl
  | some u => exact absurd rfl (F.ne e)
theorem FlyB.un2 (F : FlyB B a0 P w outer H s x C H' s') : Un (frs outer) [] H (upd H' x (excO x C)) s.heap s'.heap where
  keep := F.un.keep
  slot := F.un.slot
  free := fun b o e n he => by
    rw [upd_ne fun z => by rw [z, F.fresh] at e; cases e]
    exact F.un.free b o e n he
  there := F.un.there
  tups := fun b xs q => by rw [upd_ne (F.ne (F.un.tups b xs q))]; exact F.un.tups b xs q
  frzs := fun b o u q => by rw [upd_ne (F.ne (F.un.frzs b o u q))]; exact F.un.frzs b o u q
  tbls := fun b ps q => by
    obtain ⟨m, e⟩ := F.un.tbls b ps q
    exact ⟨m, by rw [upd_ne (F.ne e)]; exact e⟩
theorem FlyB.hok2 (F : FlyB B a0 P w outer H s x C H' s') : HOk P w (upd H' x (excO x C)) s'.heap := fun b u q => by
  by_cases hb : b = x
  · subst hb
    rw [upd_same] at q
    cases q
    exact excO_ok F.at
  · rw [upd_ne hb] at q
    exact (F.hok b u q).stay (fun _ _ _ z => z) (fun c z => by rw [upd_ne (F.ne z)]; exact z) (fun c xs z => by rw [upd_ne (F.ne z)]; exact z) fun c ob z => by rw [upd_ne (F.ne z)]; exact z
end
section
variable {X : Cx} {pins : List (Addr × Obj)} {σ : St} {H H' : Hp} {s s' : Shared} {x C : Addr} {B : Heap} {a0 : Value}
theorem FlyB.inv (I : Inv X pins σ H s) (F : FlyB B a0 X.prog X.w X.stack H s x C H' s') : Inv X pins σ H' s' := I.call' F.os F.un F.hok F.bare fun b z => absurd z (by simp)
theorem FlyB.land (I : Inv X pins σ H s) (F : FlyB B a0 X.prog X.w X.stack H s x C H' s') : Inv X pins σ (upd H' x (excO x C)) s' := I.call' F.os F.un2 F.hok2 F.bare fun b z => absurd z (by simp)
/-- within the suite of an except -/
abbrev Cx.mark (X : Cx) (x : Addr) : Cx := { X with A := X.A.mark (some (.ref x)), calm := false, xe := fun _ _ => False }
theorem Inv.mark (I : Inv X pins σ H s) (x : Addr) : Inv (X.mark x) pins σ H s :=
  ⟨⟨I.ok.mod, I.ok.kind, I.ok.glob, I.ok.blt, I.ok.above, I.ok.inj, I.ok.has, I.ok.cab, (fun z => Bool.noConfusion z), I.ok.frames, I.ok.stk, I.ok.exf, I.ok.bs, I.ok.bsz, I.ok.noex, I.ok.exfs, I.ok.funs, I.ok.frf⟩, I.os, I.bare, I.base, I.loc, I.cell, I.free, I.freeC, I.pin, I.hok, I.len⟩
theorem Inv.unmark (K : X.Ok) (I : Inv (X.mark x) pins σ H s) : Inv X pins σ H s := ⟨K, I.os, I.bare, I.base, I.loc, I.cell, I.free, I.freeC, I.pin, I.hok, I.len⟩
/-- a name of ours goes -/
theorem unname_ok {M : Model} {A : Around} {E : Value → Shared → Prop} {i : Nat} {n : Str} {pos : Pos} {Q : Unit → Shared → Prop} (I : Inv X pins σ H s) (hN : X.N.Nodup) (hi : X.N[i]? = some n) (hl : X.env.scope.names.lookup n = some .local)
    (q : ∀ s', Inv X pins (σ.set i none) H s' → Q () s') : wpAny M A (do bindName X.env n .none; unbindBehindTheSuite X.env n pos) Q E s := by
  obtain ⟨m, hn, hlk⟩ := id I.loc
  have hcls : (X.env.scope.kind == .class || (X.env.scope.kind == .module && X.env.locals != X.env.globals)) = false := by rw [I.ok.kind]; rfl
  refine wpAny_nameGoes_keeps hl hn hcls fun h' v hn' hs => ?_
  obtain ⟨oL, _, _, hoL, _⟩ := id hn
  have low : ∀ b o, X.s₀.heap.get? b = some o → b ≠ X.env.locals := fun b o e => Nat.ne_of_lt (Nat.lt_of_lt_of_le (Heap.lt_size e) I.ok.above)
  refine q _ ⟨I.ok, I.os, I.bare, ⟨fun b o e n' hb hx => ?_, fun b o e n' hb hx => ?_, I.base.free, fun b o e hx => ?_, I.base.tups, I.base.frzs, I.base.tbls⟩, ⟨_, hn', fun j y v' e1 e2 e3 => ?_⟩, fun y c e => ?_, I.free, I.freeC, fun p hp => ?_, fun b ob e => ?_, by simpa using I.len⟩
  · exact (hs.2 b (low b o e)).trans (I.base.keep b o e n' hb hx)
  · obtain ⟨sl, e1⟩ := I.base.slot b o e n' hb hx
    exact ⟨sl, (hs.2 b (low b o e)).trans e1⟩
  · obtain ⟨o', e1⟩ := I.base.there b o e hx
    exact ⟨o', (hs.2 b (low b o e)).trans e1⟩
  · by_cases hj : j = i
    · subst hj
      have : j < σ.length := by rw [I.len]; exact (List.getElem?_eq_some_iff.mp hi).1
      rw [List.getElem?_set_self this] at e2
      cases e2
    · rw [List.getElem?_set_ne (Ne.symm hj)] at e2
      obtain ⟨u', r', lk⟩ := hlk j y v' e1 e2 e3
      refine ⟨u', r', ?_⟩
      rcases lk with ⟨k, e⟩ | ⟨k, c, e, z⟩
      · refine .inl ⟨k, ?_⟩
        have : y ≠ n := fun e => hj (nodup_ix hN e1 (e ▸ hi))
        show (if y = n then v else m y) = some u'
        rw [if_neg this]
        exact e
      · exact .inr ⟨k, c, e, z.sameBut hs (I.cne y c e)⟩
  · obtain ⟨w', z⟩ := I.cell y c e
    exact ⟨w', z.sameBut hs (I.cne y c e)⟩
  · obtain ⟨e, n', ne, nf, d⟩ := I.pin p hp
    exact ⟨(hs.2 p.1 ne).trans e, n', ne, nf, d⟩
  · refine (I.hok b ob e).stay (fun c w' hc q => (hs.2 c ?_).trans q) (fun _ q => q) fun _ _ q => q
    rintro rfl
    rcases hc with z | z
    · subst z; rw [I.free] at e; cases e
    · rw [I.free] at z; cases z
end
/-! ### what may raise: an expression, a statement -/
def FX (X : Cx) (pins : List (Addr × Obj)) (EX : St → Addr → Hp → Prop) (e : Value) (s' : Shared) : Prop :=
  ∃ x C σ H H' s, e = .ref x ∧ Inv X pins σ H s ∧ Fly X.prog X.w X.stack H s x C H' s' ∧ EX σ C H'
abbrev TEX := St → Hp → VK → (Addr → Hp → Prop) → Prop
abbrev TSX := Ends → (St → Addr → Hp → Prop) → St → Hp → Prop
def PEX (X : Cx) (e : Expr) (t : TEX) : Prop :=
  ∀ (pins : List (Addr × Obj)) (s : Shared) (σ : St) (H : Hp) (Q : VK) (EX : St → Addr → Hp → Prop), Inv X pins σ H s → t σ H Q (EX σ) → wpAny (model X.prog X.w) X.A (eval e X.env) (EP X pins σ Q) (FX X pins EX) s
def PSX (X : Cx) (st : List Stmt) (t : TSX) : Prop :=
  ∀ (pins : List (Addr × Obj)) (s : Shared) (σ : St) (H : Hp) (D : Ends) (EX : St → Addr → Hp → Prop), Inv X pins σ H s → t D EX σ H → wpAny (model X.prog X.w) X.A (execs st X.env) (SP X pins D) (FX X pins EX) s
theorem execs_one {M : Model} {A : Around} {E : Value → Shared → Prop} {st : Stmt} {env : Env} {Q : Flow → Shared → Prop} {s : Shared} (h : wpAny M A (exec st env) Q E s) : wpAny M A (execs [st] env) Q E s := by
  refine wpAny_execs_cons (thn h fun f s1 q => ?_)
  cases f with
  | next => exact wpAny_execs_nil q
  | ret v => exact q
  | brk => exact q
  | cont => exact q
section
variable {X : Cx}
def sxSet (i : Nat) (te : TEX) : TSX := fun D EX σ H => te σ H (fun v H1 => D.nx (σ.set i (some v)) H1) (EX σ)
theorem psx_set {i : Nat} {x : Str} {e : Expr} {te : TEX} {pos pos' : Pos} (hN : X.N.Nodup) (hi : X.N[i]? = some x) (hx : Loc X.env.scope x) (he : PEX X e te) (hs : swapsWith e (some (.Name x pos')) pos.line X.env = pure false := by rfl)
    (hf : X.fn x = true ∨ X.env.scope.names.lookup x = some .local := by first | exact .inl rfl | exact .inr rfl | assumption) : PSX X [.Assign [.Name x pos'] e pos] (sxSet i te) := by
  intro pins s σ H D EX I h
  refine execs_one (wpAny_Assign_Name (wpAny_mono (he pins s σ H _ EX I h) (fun v s1 ⟨x1, H1, I1, r, q⟩ => ?_) fun _ _ z => z) hs)
  exact store_ok I1 hN hi hx r (fun s2 I2 => ⟨_, H1, I2, q⟩) hf
end
/-! ### the statement -/
/-- try: body except c as n: suite -/
def tTryAs (K : PySem.W.Frag) (cv : Value) (m : Nat) (tb : TSX) (ts : TS) : TS := fun D σ H => tb D (fun σ' C H' => PySem.W.exmOne K (.ref C) cv = some true ∧ ∀ p, H' p = none →
  ts { nx := fun σ2 H2 => D.nx (σ2.set m none) H2, rt := D.rt, bk := fun σ2 H2 => D.bk (σ2.set m none) H2, ct := fun σ2 H2 => D.ct (σ2.set m none) H2 } (σ'.set m (some (.ref p))) (upd H' p (excO p C))) σ H
theorem ps_tryAs {X : Cx} {body suite : List Stmt} {b0 : Stmt} {c n : Str} {np hp pos : Pos} {cv : Value} {m : Nat} {tb : TSX} {ts : TS} (hB : Body X) (hN : X.N.Nodup) (hm : X.N[m]? = some n) (hl : X.env.scope.names.lookup n = some .local) (hg : Gl X c) (hcv : X.mg c = some cv)
    (hb : PSX X body tb) (hs : ∀ x, PSs (X.mark x) (b0 :: suite) ts) (hd : (c == ("__debug__" : Str)) = false := by decide) :
    PS X (.Try body [.ExceptHandler (some (.Name c np)) (some n) (b0 :: suite) hp] [] [] pos) (tTryAs X.K cv m tb ts) := by
  intro pins s σ H D I h
  refine wpAny_Try_except (wpAny_mono (hb pins s σ H D _ I h) (fun f s1 q => ?_) fun e s1 z => ?_)
  · cases f with
    | next => exact wpAny_execs_nil q
    | ret v => exact q
    | brk => exact q
    | cont => exact q
  · obtain ⟨x, C, σ', H1, H', s0, rfl, I0, ⟨B, a0, F⟩, hk, hq⟩ := z
    have stk : s0.heap.FunFrames B X.stack := by
      have h1 := I0.stack
      have all : ∀ l : List Env, (∀ b ∈ frs l, b ∈ frs X.stack) → s0.heap.FunFrames X.base l → s1.heap.FunFrames B l → s0.heap.FunFrames B l := by
        intro l
        induction l with
        | nil => intro _ _ _; trivial
        | cons env r ih =>
          intro hs hl hf
          obtain ⟨k1, ⟨L, o, f1, _, ho, hd1⟩, hr⟩ := hl
          obtain ⟨_, ⟨L2, o2, f2, hn2, _, _⟩, hr2⟩ := hf
          rw [f1] at f2
          cases f2
          exact ⟨k1, ⟨L, o, f1, hn2, ho, hd1⟩, ih (fun b hb => hs b (by unfold frs; rw [List.filterMap_cons, f1]; exact List.mem_cons_of_mem _ hb)) hr hr2⟩
      exact all X.stack (fun _ hb => hb) h1 F.fl.2.2.1
    have fl := F.fl
    have fl' := F.fl
    rw [hB.st] at fl'
    refine wpAny_looks_onW (by rw [I.ok.frames, hB.st]) hB.fr fl' fun h4 held4 up4 => wpAny_landsW held4 fun h5 fl5 up5 => ?_
    have fl5' := fl5
    rw [← hB.st] at fl5'
    have F5 := F.move stk fl5' (up4.trans up5)
    have I5 := F5.inv I0
    have Im := I5.mark x
    refine wpAny_handleBy_cons (codeAny_handlers_test (ld_glob Im hg hcv ?_ hd)) (by intro q; cases q)
    refine (PySem.W.exm_one Im.kIn F5.at.type hk).here ?_
    refine codeAny_handlers_suite_as (lands_againW fl5' fun h6 fl6 up6 => ?_)
    have F6 := F5.move stk fl6 up6
    have I6 := F6.land I0
    refine store_ok I6 hN hm (.inl hl) (v := .ref x) rfl (fun s7 I7 => ?_) (.inr hl)
    refine wpAny_mono (hs x pins s7 _ _ _ (I7.mark x) (hq x F6.free)) (fun f s8 q => ?_) fun _ _ z => False.elim z
    cases f with
    | next =>
      obtain ⟨σ8, H8, I8, q8⟩ := q
      exact unname_ok (I8.unmark I.ok) hN hm hl fun s9 I9 => ⟨_, H8, I9, q8⟩
    | ret v =>
      obtain ⟨v8, σ8, H8, I8, r8, q8⟩ := q
      exact unname_ok (I8.unmark I.ok) hN hm hl fun s9 I9 => ⟨v8, _, H8, I9, r8, q8⟩
    | brk =>
      obtain ⟨σ8, H8, I8, q8⟩ := q
      exact unname_ok (I8.unmark I.ok) hN hm hl fun s9 I9 => ⟨_, H8, I9, q8⟩
    | cont =>
      obtain ⟨σ8, H8, I8, q8⟩ := q
      exact unname_ok (I8.unmark I.ok) hN hm hl fun s9 I9 => ⟨_, H8, I9, q8⟩
end L2

set_option Elab.async false
set_option linter.all false
set_option maxRecDepth 100000
set_option maxHeartbeats 4000000
/-! ### lambdas -/
namespace L2
open PySem PySem.Spec PyProof.Rows
end L2

set_option Elab.async false
set_option linter.all false
set_option maxRecDepth 100000
set_option maxHeartbeats 4000000
/-! ### a lambda without arguments, handed to a def that calls it -/
namespace L2
open PySem PySem.Spec PyProof.Rows
/-! ### the lambda is made -/
end L2

set_option Elab.async false
set_option linter.all false
set_option maxRecDepth 100000
set_option maxHeartbeats 4000000
namespace L2
open PySem PySem.Spec PyProof.Rows
/-! ### the closure is called, within a try -/
/-! ### isinstance(x, c): c by its name -/
/-- .. x an own exception -/
def rIsiE (K : PySem.W.Frag) : List V → Hp → VK → Prop := fun xs H Q => ∃ e C y cv b, xs = [.ref e, y] ∧ RelV y cv ∧ H e = some (excO e C) ∧ ExcK K C ∧ PySem.W.kitOne K (.ref C) cv = some b ∧ Q (.bl b) H
theorem call_isiE {X : Cx} : CallR X (.builtin "isinstance") (rIsiE X.K) := by
  intro pins s σ H xs us Q I r h
  obtain ⟨e, C, y, cv, b, rfl, ry, he, z, kb, q⟩ := h
  obtain ⟨u, w', rfl, ru, rw'⟩ := vals2 r
  obtain rfl : u = Value.ref e := ru
  have ew : w' = cv := by
    cases y <;> first | exact (show _ = _ from rw').trans (show _ = _ from ry).symm | skip
    all_goals
      obtain ⟨t1, z1⟩ := rw'
      obtain ⟨t2, z2⟩ := ry
      skip
    all_goals
      subst z1 z2
      unfold PySem.W.kitOne at kb
      simp [PySem.W.kitCls] at kb
  subst ew
  exact PySem.W.kia_one (kitx_exc z) I.kIn (I.hok e _ he).1 kb (fun z => nomatch z) fun tk => ⟨.bl b, H, I.tok _, rfl, q⟩
end L2

set_option Elab.async false
set_option linter.all false
set_option maxRecDepth 100000
set_option maxHeartbeats 4000000
/-! ### the head of a law one of whose defs makes lambdas -/
namespace L2
open PySem PySem.Spec PyProof.Rows
end L2
namespace L2
theorem body_nox {X : Cx} (b : Body X := by exact ⟨rfl, rfl, rfl⟩) : Body X := b
end L2

set_option Elab.async false
set_option linter.all false
set_option maxRecDepth 100000
set_option maxHeartbeats 4000000
namespace My
open PySem L2 MA
/-- the own classes by their names -/
structure Errs where
  ball : Addr
  c0 : Addr
  c1 : Addr
  c2 : Addr
  c3 : Addr
  c4 : Addr
  c5 : Addr
  c6 : Addr
  c7 : Addr
  c8 : Addr
end My
namespace L2
end L2
namespace My
open PySem L2 MA
end My
namespace My
open PySem L2 MA
end My

set_option Elab.async false
set_option linter.all false
set_option maxRecDepth 100000
set_option maxHeartbeats 4000000
namespace L2
open PySem PySem.Spec PyProof.Rows
end L2
namespace My
open PySem L2 MA
theorem same_updN {H H' : Hp} {l : Addr} (hl : H l = none) (s : Same H H') (o : HO) : Same H (upd H' l o) := fun b u q => by rw [upd_ne (ne_of_none q hl)]; exact s _ _ q
theorem ixN_nat {n j : Nat} (h : j < n) : ixN n ((j : Nat) : Int) = some j := by
  unfold ixN
  rw [if_pos (by omega), if_pos (by omega)]
  simp
theorem atI_iv {ns : List Int} {j : Nat} {x : Int} (h : ns[j]? = some x) : atI (iv ns) ((j : Nat) : Int) = some (.int x) := atI_nat (by rw [List.getElem?_map, h]; rfl)
theorem iv_set (ns : List Int) (j : Nat) (y : Int) : (iv ns).set j (.int y) = iv (ns.set j y) := by show (ns.map V.int).set j (.int y) = (ns.set j y).map V.int; rw [List.map_set]
end My
namespace My
open PySem L2 MA
end My

set_option Elab.async false
set_option linter.all false
set_option maxRecDepth 100000
set_option maxHeartbeats 4000000
namespace L2
open PySem PySem.Spec PyProof.Rows
theorem PS.nox {X : Cx} {st : Stmt} {t : TS} (h : PS X.nox st t) : PS X st t := fun pins s σ H D I hw =>
  wpAny_mono (h pins s σ H D (I.wish _) hw) (fun _ _ q => q.unwish) fun _ _ z => False.elim z
end L2
namespace My
open PySem L2 MA
end My

set_option Elab.async false
set_option linter.all false
set_option maxRecDepth 100000
set_option maxHeartbeats 4000000
namespace L2
open PySem PySem.Spec PyProof.Rows
end L2

set_option Elab.async false
set_option linter.all false
set_option maxRecDepth 100000
set_option maxHeartbeats 4000000
namespace L2
open PySem PySem.Spec PyProof.Rows
end L2

set_option Elab.async false
set_option linter.all false
set_option maxRecDepth 100000
set_option maxHeartbeats 4000000
namespace L2
open PySem PySem.Spec PyProof.Rows
end L2

set_option Elab.async false
set_option linter.all false
set_option maxRecDepth 100000
set_option maxHeartbeats 4000000
namespace L2
open PySem PySem.Spec PyProof.Rows
end L2

set_option Elab.async false
set_option linter.all false
set_option maxRecDepth 100000
set_option maxHeartbeats 4000000
namespace L2
open PySem PySem.Spec PyProof.Rows
end L2

set_option Elab.async false
set_option linter.all false
set_option maxRecDepth 100000
set_option maxHeartbeats 4000000
namespace L2
open PySem PySem.Spec PyProof.Rows
end L2

set_option Elab.async false
set_option linter.all false
set_option maxRecDepth 100000
set_option maxHeartbeats 4000000
namespace L2
open PySem PySem.Spec PyProof.Rows
end L2

set_option Elab.async false
set_option linter.all false
set_option maxRecDepth 100000
set_option maxHeartbeats 4000000
namespace L2
open PySem PySem.Spec PyProof.Rows MA
section
variable {X : Cx}
/-- != of a list and the empty list -/
theorem op_neE (hu : X.A.units < cLine) : OpR X (compareOp .NotEq) (fun x y H Q => ∃ p q xs, x = .ref p ∧ y = .ref q ∧ H p = some (.lst xs) ∧ H q = some (.lst []) ∧ Q (.bl (decide (xs ≠ []))) H) := by
  intro pins s σ H x y v u Q I rx ry h
  obtain ⟨p, q, xs, rfl, rfl, h1, h2, k⟩ := h
  cases rx
  cases ry
  obtain ⟨us, r1, t1, z1⟩ := I.list (SqL.of h1)
  obtain ⟨ws, r2, t2, z2⟩ := I.list (SqL.of h2)
  cases r2
  by_cases e : xs = []
  · subst e
    cases r1
    refine PySem.W.cmp_ofNotEq (SeqAt.RcNeAt.lists (e := fun _ => true) t1.isList t2.isList rfl hu (fun j a b => absurd a (by simp)) X.prog X.w X.xe _ (fin_bl I k ?_))
    simp
  · have hl := r1.length
    have hx : 0 < xs.length := List.length_pos_iff.mpr e
    refine PySem.W.cmp_ofNotEq (SeqAt.RcNeAt.lists_lengths t1.isList t2.isList (by simp; intro z; rw [z] at hl; simp at hl; exact e hl) hu X.prog X.w X.xe _ (fin_bl I k ?_))
    simp [e]
end
end L2

set_option Elab.async false
set_option linter.all false
set_option maxRecDepth 100000
set_option maxHeartbeats 4000000
namespace My
open PySem L2 MA
end My

set_option Elab.async false
set_option linter.all false
set_option maxRecDepth 100000
set_option maxHeartbeats 4000000
namespace L2
open PySem PySem.Spec PyProof.Rows MA SeqAt
end L2

set_option Elab.async false
set_option linter.all false
set_option maxRecDepth 100000
set_option maxHeartbeats 4000000
namespace My
open PySem L2 MA
end My

set_option Elab.async false
set_option linter.all false
set_option maxRecDepth 100000
set_option maxHeartbeats 4000000
namespace My
open PySem L2 MA
end My

set_option Elab.async false
set_option linter.all false
set_option maxRecDepth 100000
set_option maxHeartbeats 4000000
namespace My
open PySem L2 MA
end My

set_option Elab.async false
set_option linter.all false
set_option maxRecDepth 100000
set_option maxHeartbeats 4000000
/-! ### min(xs, key=lambda x: ..), over a list or a tuple -/
namespace L2
open PySem PySem.Spec PyProof.Rows
end L2

set_option Elab.async false
set_option linter.all false
set_option maxRecDepth 100000
set_option maxHeartbeats 4000000
namespace L2
open PySem PySem.Spec PyProof.Rows
end L2

set_option Elab.async false
set_option linter.all false
set_option maxRecDepth 100000
set_option maxHeartbeats 4000000
/-! ### == and != of data: ints, texts, tuples and lists of them, nested -/
namespace L2
open PySem PySem.Spec PyProof.Rows MA SeqAt
theorem pairs_ext : ∀ {a b : List (PyData × PyData)}, a.map (·.1) = b.map (·.1) → a.map (·.2) = b.map (·.2) → a = b
  | [], [], _, _ => rfl
  | [], _ :: _, x, _ => by simp at x
  | _ :: _, [], x, _ => by simp at x
  | p :: r, p' :: r', x, y => by
    simp at x y
    rw [pairs_ext x.2 y.2, Prod.ext x.1 y.1]
mutual
theorem DataV.inj {H : Hp} : ∀ {v : V} {d d' : PyData}, DataV H v d → DataV H v d' → d = d'
  | _, _, _, .non, h => by cases h; rfl
  | _, _, _, .bl b, h => by cases h; rfl
  | _, _, _, .int i, h => by cases h; rfl
  | _, _, _, .str x, h => by cases h; rfl
  | _, _, _, .lst e r, h => by
    cases h with
    | lst e' r' => rw [e] at e'; cases e'; rw [DataL.inj r r']
    | tup e' r' => rw [e] at e'; cases e'
    | dict e' r' q' => rw [e] at e'; cases e'
  | _, _, _, .tup e r, h => by
    cases h with
    | lst e' r' => rw [e] at e'; cases e'
    | tup e' r' => rw [e] at e'; cases e'; rw [DataL.inj r r']
    | dict e' r' q' => rw [e] at e'; cases e'
  | _, _, _, .dict e r q, h => by
    cases h with
    | lst e' r' => rw [e] at e'; cases e'
    | tup e' r' => rw [e] at e'; cases e'
    | dict e' r' q' =>
      rw [e] at e'; cases e'
      have h1 := DataL.inj r r'
      have h2 := DataL.inj q q'
      exact congrArg PyData.dict (pairs_ext h1 h2)
theorem DataL.inj {H : Hp} : ∀ {vs : List V} {ds ds' : List PyData}, DataL H vs ds → DataL H vs ds' → ds = ds'
  | _, _, _, .nil, h => by cases h; rfl
  | _, _, _, .cons x r, h => by
    cases h with
    | cons x' r' => rw [DataV.inj x x', DataL.inj r r']
end
/-- what == compares without a word -/
def cmpN : Nat → PyData → PyData → Prop
  | _, .int _, .int _ => True
  | _, .str _, .str _ => True
  | n + 1, .tuple xs, .tuple ys => ∀ p ∈ xs.zip ys, cmpN n p.1 p.2
  | n + 1, .list xs, .list ys => ∀ p ∈ xs.zip ys, cmpN n p.1 p.2
  | _, _, _ => False
noncomputable def cdec (p : Prop) : Bool := @decide p (Classical.propDecidable p)
theorem cdec_iff {p : Prop} : cdec p = true ↔ p := by unfold cdec; exact @decide_eq_true_iff p (Classical.propDecidable p)
theorem cdec_eq {p : Prop} {b : Bool} (h : b = true ↔ p) : b = cdec p := by rw [Bool.eq_iff_iff, h, cdec_iff]
theorem DataL.nth {H : Hp} : ∀ {vs : List V} {ds : List PyData}, DataL H vs ds → ∀ {j : Nat}, j < vs.length → DataV H (vs.getD j .non) (ds.getD j .none)
  | _, _, .cons x r, 0, _ => x
  | _, _, .cons x r, j + 1, h => DataL.nth r (j := j) (by simpa using h)
theorem zip_at {ds es : List PyData} {j : Nat} (h1 : j < ds.length) (h2 : j < es.length) : (ds.getD j .none, es.getD j .none) ∈ ds.zip es := by
  have e : (ds.zip es)[j]? = some (ds.getD j .none, es.getD j .none) := by
    rw [List.getElem?_zip_eq_some]
    exact ⟨by rw [List.getElem?_eq_getElem h1]; simp [List.getD_eq_getElem?_getD, List.getElem?_eq_getElem h1], by rw [List.getElem?_eq_getElem h2]; simp [List.getD_eq_getElem?_getD, List.getElem?_eq_getElem h2]⟩
  exact List.mem_of_getElem? e
theorem all_iff {ds es : List PyData} (hl : ds.length = es.length) : ((List.range ds.length).all fun j => cdec (ds.getD j .none = es.getD j .none)) = true ↔ ds = es := by
  rw [List.all_eq_true]
  constructor
  · intro h
    refine List.ext_getElem hl fun i h1 h2 => ?_
    have := cdec_iff.mp (h i (List.mem_range.mpr h1))
    simpa [List.getD_eq_getElem?_getD, List.getElem?_eq_getElem h1, List.getElem?_eq_getElem h2] using this
  · rintro rfl j hj
    exact cdec_iff.mpr rfl
theorem tup_res {ds es : List PyData} : ((List.range (min ds.length es.length)).all (fun j => cdec (ds.getD j .none = es.getD j .none)) && ds.length == es.length) = cdec (ds = es) := by
  refine cdec_eq ?_
  rw [Bool.and_eq_true, beq_iff_eq]
  constructor
  · rintro ⟨h, hl⟩
    rw [← hl, Nat.min_self] at h
    exact (all_iff hl).mp h
  · rintro rfl
    rw [Nat.min_self]
    exact ⟨(all_iff rfl).mpr rfl, rfl⟩
theorem cdec_tup {ds es : List PyData} : cdec (PyData.tuple ds = PyData.tuple es) = cdec (ds = es) := by
  refine (cdec_eq ?_).symm
  rw [cdec_iff]
  exact ⟨fun h => by rw [h], fun h => PyData.tuple.inj h⟩
theorem cdec_lst {ds es : List PyData} : cdec (PyData.list ds = PyData.list es) = cdec (ds = es) := by
  refine (cdec_eq ?_).symm
  rw [cdec_iff]
  exact ⟨fun h => by rw [h], fun h => PyData.list.inj h⟩
section
variable {X : Cx} {pins : List (Addr × Obj)} {σ : St} {H : Hp} {s : Shared}
theorem eqAt_D (I : Inv X pins σ H s) : ∀ (n : Nat) {A : Around} {x y : V} {d d' : PyData} {u v : Value}, A.units + n < cLine → DataV H x d → DataV H y d' → RelV x u → RelV y v → cmpN n d d' → EqAt A s u v (cdec (d = d')) := by
  intro n
  induction n with
  | zero =>
    intro A x y d d' u v hu h1 h2 r1 r2 hc
    cases h1 with
    | int i =>
      cases h2 with
      | int j =>
        have := eqAt_V (A := A) (s := s) r1 r2 rfl rfl
        rw [show eqV (.int i) (.int j) = cdec (PyData.int i = PyData.int j) from cdec_eq (by simp [eqV])] at this
        exact this
      | _ => exact False.elim hc
    | str i =>
      cases h2 with
      | str j =>
        have := eqAt_V (A := A) (s := s) r1 r2 rfl rfl
        rw [show eqV (.str i) (.str j) = cdec (PyData.str i = PyData.str j) from cdec_eq (by simp [eqV])] at this
        exact this
      | _ => exact False.elim hc
    | _ => first | exact False.elim hc | (cases h2 <;> exact False.elim hc)
  | succ n ih =>
    intro A x y d d' u v hu h1 h2 r1 r2 hc
    cases h1 with
    | int i =>
      cases h2 with
      | int j =>
        have := eqAt_V (A := A) (s := s) r1 r2 rfl rfl
        rw [show eqV (.int i) (.int j) = cdec (PyData.int i = PyData.int j) from cdec_eq (by simp [eqV])] at this
        exact this
      | _ => exact False.elim hc
    | str i =>
      cases h2 with
      | str j =>
        have := eqAt_V (A := A) (s := s) r1 r2 rfl rfl
        rw [show eqV (.str i) (.str j) = cdec (PyData.str i = PyData.str j) from cdec_eq (by simp [eqV])] at this
        exact this
      | _ => exact False.elim hc
    | @tup a xs ds e1 q1 =>
      cases h2 with
      | @tup b ys es e2 q2 =>
        cases r1
        cases r2
        by_cases e : a = b
        · subst e
          rw [e1] at e2
          cases e2
          rw [DataL.inj q1 q2, show cdec (PyData.tuple es = PyData.tuple es) = true from cdec_iff.mpr rfl]
          exact EqAt.same _
        obtain ⟨us, v1, t1, z1⟩ := I.tuple (SqT.of e1)
        obtain ⟨ws, v2, t2, z2⟩ := I.tuple (SqT.of e2)
        have l1 := q1.length
        have l2 := q2.length
        have m1 := v1.length
        have m2 := v2.length
        refine EqAt.of_refs e ?_
        have key := RcAt.tuples (A := A) (s := s) (e := fun j => cdec (ds.getD j .none = es.getD j .none)) (show s.heap.IsTuple a us.toArray from t1) (show s.heap.IsTuple b ws.toArray from t2) (by omega) (fun j x y => ?_)
        · rw [List.size_toArray, List.size_toArray, ← m1, ← m2, l1, l2, tup_res, ← cdec_tup] at key
          exact key
        · have hx : j < xs.length := by have := x; rw [List.size_toArray] at this; omega
          have hy : j < ys.length := by have := y; rw [List.size_toArray] at this; omega
          exact ih (by show A.in1.units + n < cLine; have : A.in1.units = A.units + 1 := rfl; omega) (q1.nth hx) (q2.nth hy) (rel_at v1 x) (rel_at v2 y) (hc _ (zip_at (by omega) (by omega)))
      | _ => exact False.elim hc
    | @lst a xs ds e1 q1 =>
      cases h2 with
      | @lst b ys es e2 q2 =>
        cases r1
        cases r2
        by_cases e : a = b
        · subst e
          rw [e1] at e2
          cases e2
          rw [DataL.inj q1 q2, show cdec (PyData.list es = PyData.list es) = true from cdec_iff.mpr rfl]
          exact EqAt.same _
        obtain ⟨us, v1, t1, z1⟩ := I.list (SqL.of e1)
        obtain ⟨ws, v2, t2, z2⟩ := I.list (SqL.of e2)
        have l1 := q1.length
        have l2 := q2.length
        have m1 := v1.length
        have m2 := v2.length
        refine EqAt.of_refs e ?_
        by_cases hl : xs.length = ys.length
        · have key := RcAt.lists (A := A) (s := s) (e := fun j => cdec (ds.getD j .none = es.getD j .none)) t1.isList t2.isList (by rw [List.size_toArray, List.size_toArray]; omega) (by omega) (fun j x y => ?_)
          · rw [List.size_toArray, ← m1, l1, show ((List.range ds.length).all fun j => cdec (ds.getD j .none = es.getD j .none)) = cdec (ds = es) from cdec_eq (all_iff (by omega)), ← cdec_lst] at key
            exact key
          · have hx : j < xs.length := by have := x; rw [List.size_toArray] at this; omega
            have hy : j < ys.length := by have := y; rw [List.size_toArray] at this; omega
            exact ih (by show A.in1.units + n < cLine; have : A.in1.units = A.units + 1 := rfl; omega) (q1.nth hx) (q2.nth hy) (rel_at v1 x) (rel_at v2 y) (hc _ (zip_at (by omega) (by omega)))
        · rw [show cdec (PyData.list ds = PyData.list es) = false from (cdec_eq (b := false) (by constructor <;> intro z; cases z; exact absurd (congrArg List.length (PyData.list.inj z)) (by omega))).symm]
          exact RcAt.lists_lengths t1.isList t2.isList (by rw [List.size_toArray, List.size_toArray]; simp; omega) (by omega)
      | _ => exact False.elim hc
    | _ => first | exact False.elim hc | (cases h2 <;> exact False.elim hc)
/-- == of data -/
def rEqD (n : Nat) : R2 := fun x y H Q => ∃ d d', DataV H x d ∧ DataV H y d' ∧ cmpN n d d' ∧ ∀ b : Bool, (b = true ↔ d = d') → Q (.bl b) H
def rNeD (n : Nat) : R2 := fun x y H Q => ∃ d d', DataV H x d ∧ DataV H y d' ∧ cmpN n d d' ∧ ∀ b : Bool, (b = true ↔ d ≠ d') → Q (.bl b) H
theorem op_eqD (n : Nat) (hu : X.A.units + (n + 1) < cLine) : OpR X (compareOp .Eq) (rEqD (n + 1)) := by
  intro pins s σ H x y v u Q I rx ry h
  obtain ⟨d, d', h1, h2, hc, k⟩ := h
  cases h1 with
  | int i =>
    cases h2 with
    | int j => exact op_eq pins s σ H _ _ v u Q I rx ry ⟨rfl, k _ (by simp)⟩
    | _ => exact False.elim hc
  | str i =>
    cases h2 with
    | str j => exact op_eq pins s σ H _ _ v u Q I rx ry ⟨rfl, k _ (by simp)⟩
    | _ => exact False.elim hc
  | @tup a xs ds e1 q1 =>
    cases h2 with
    | @tup b ys es e2 q2 =>
      cases rx
      cases ry
      obtain ⟨us, v1, t1, z1⟩ := I.tuple (SqT.of e1)
      obtain ⟨ws, v2, t2, z2⟩ := I.tuple (SqT.of e2)
      have l1 := q1.length
      have l2 := q2.length
      have m1 := v1.length
      have m2 := v2.length
      refine PySem.W.cmp_ofEq (RcAt.tuples (e := fun j => cdec (ds.getD j .none = es.getD j .none)) (show s.heap.IsTuple a us.toArray from t1) (show s.heap.IsTuple b ws.toArray from t2) (by omega) (fun j x y => ?_) X.prog X.w X.xe _ (fin_bl I (k (cdec (PyData.tuple ds = PyData.tuple es)) ?_) ?_))
      · have hx : j < xs.length := by have := x; rw [List.size_toArray] at this; omega
        have hy : j < ys.length := by have := y; rw [List.size_toArray] at this; omega
        exact eqAt_D I n (by show X.A.in1.units + n < cLine; have : X.A.in1.units = X.A.units + 1 := rfl; omega) (q1.nth hx) (q2.nth hy) (rel_at v1 x) (rel_at v2 y) (hc _ (zip_at (by omega) (by omega)))
      · exact cdec_iff
      · rw [List.size_toArray, List.size_toArray, ← m1, ← m2, l1, l2, tup_res, ← cdec_tup]
    | _ => exact False.elim hc
  | @lst a xs ds e1 q1 =>
    cases h2 with
    | @lst b ys es e2 q2 =>
      cases rx
      cases ry
      obtain ⟨us, v1, t1, z1⟩ := I.list (SqL.of e1)
      obtain ⟨ws, v2, t2, z2⟩ := I.list (SqL.of e2)
      have l1 := q1.length
      have l2 := q2.length
      have m1 := v1.length
      have m2 := v2.length
      by_cases hl : xs.length = ys.length
      · refine PySem.W.cmp_ofEq (RcAt.lists (e := fun j => cdec (ds.getD j .none = es.getD j .none)) t1.isList t2.isList (by rw [List.size_toArray, List.size_toArray]; omega) (by omega) (fun j x y => ?_) X.prog X.w X.xe _ (fin_bl I (k (cdec (PyData.list ds = PyData.list es)) ?_) ?_))
        · have hx : j < xs.length := by have := x; rw [List.size_toArray] at this; omega
          have hy : j < ys.length := by have := y; rw [List.size_toArray] at this; omega
          exact eqAt_D I n (by show X.A.in1.units + n < cLine; have : X.A.in1.units = X.A.units + 1 := rfl; omega) (q1.nth hx) (q2.nth hy) (rel_at v1 x) (rel_at v2 y) (hc _ (zip_at (by omega) (by omega)))
        · exact cdec_iff
        · rw [List.size_toArray, ← m1, l1, show ((List.range ds.length).all fun j => cdec (ds.getD j .none = es.getD j .none)) = cdec (ds = es) from cdec_eq (all_iff (by omega)), ← cdec_lst]
      · have nd : PyData.list ds ≠ PyData.list es := fun z => absurd (congrArg List.length (PyData.list.inj z)) (by omega)
        refine PySem.W.cmp_ofEq (RcAt.lists_lengths t1.isList t2.isList (by rw [List.size_toArray, List.size_toArray]; simp; omega) (by omega) X.prog X.w X.xe _ (fin_bl I (k false ?_) rfl))
        simp [nd]
    | _ => exact False.elim hc
  | _ => first | exact False.elim hc | (cases h2 <;> exact False.elim hc)
theorem op_neD (n : Nat) (hu : X.A.units + (n + 1) < cLine) : OpR X (compareOp .NotEq) (rNeD (n + 1)) := by
  intro pins s σ H x y v u Q I rx ry h
  obtain ⟨d, d', h1, h2, hc, k⟩ := h
  cases h1 with
  | int i =>
    cases h2 with
    | int j => exact op_ne pins s σ H _ _ v u Q I rx ry ⟨rfl, k _ (by simp)⟩
    | _ => exact False.elim hc
  | str i =>
    cases h2 with
    | str j => exact op_ne pins s σ H _ _ v u Q I rx ry ⟨rfl, k _ (by simp)⟩
    | _ => exact False.elim hc
  | @tup a xs ds e1 q1 =>
    cases h2 with
    | @tup b ys es e2 q2 =>
      cases rx
      cases ry
      obtain ⟨us, v1, t1, z1⟩ := I.tuple (SqT.of e1)
      obtain ⟨ws, v2, t2, z2⟩ := I.tuple (SqT.of e2)
      have l1 := q1.length
      have l2 := q2.length
      have m1 := v1.length
      have m2 := v2.length
      refine PySem.W.cmp_ofNotEq (RcNeAt.tuples (e := fun j => cdec (ds.getD j .none = es.getD j .none)) (show s.heap.IsTuple a us.toArray from t1) (show s.heap.IsTuple b ws.toArray from t2) (by omega) (fun j x y => ?_) X.prog X.w X.xe _ (fin_bl I (k (!cdec (PyData.tuple ds = PyData.tuple es)) ?_) ?_))
      · have hx : j < xs.length := by have := x; rw [List.size_toArray] at this; omega
        have hy : j < ys.length := by have := y; rw [List.size_toArray] at this; omega
        exact eqAt_D I n (by show X.A.in1.units + n < cLine; have : X.A.in1.units = X.A.units + 1 := rfl; omega) (q1.nth hx) (q2.nth hy) (rel_at v1 x) (rel_at v2 y) (hc _ (zip_at (by omega) (by omega)))
      · rw [Bool.not_eq_true', ← Bool.not_eq_true, not_congr cdec_iff]
      · rw [List.size_toArray, List.size_toArray, ← m1, ← m2, l1, l2, tup_res, ← cdec_tup]
    | _ => exact False.elim hc
  | @lst a xs ds e1 q1 =>
    cases h2 with
    | @lst b ys es e2 q2 =>
      cases rx
      cases ry
      obtain ⟨us, v1, t1, z1⟩ := I.list (SqL.of e1)
      obtain ⟨ws, v2, t2, z2⟩ := I.list (SqL.of e2)
      have l1 := q1.length
      have l2 := q2.length
      have m1 := v1.length
      have m2 := v2.length
      by_cases hl : xs.length = ys.length
      · refine PySem.W.cmp_ofNotEq (RcNeAt.lists (e := fun j => cdec (ds.getD j .none = es.getD j .none)) t1.isList t2.isList (by rw [List.size_toArray, List.size_toArray]; omega) (by omega) (fun j x y => ?_) X.prog X.w X.xe _ (fin_bl I (k (!cdec (PyData.list ds = PyData.list es)) ?_) ?_))
        · have hx : j < xs.length := by have := x; rw [List.size_toArray] at this; omega
          have hy : j < ys.length := by have := y; rw [List.size_toArray] at this; omega
          exact eqAt_D I n (by show X.A.in1.units + n < cLine; have : X.A.in1.units = X.A.units + 1 := rfl; omega) (q1.nth hx) (q2.nth hy) (rel_at v1 x) (rel_at v2 y) (hc _ (zip_at (by omega) (by omega)))
        · rw [Bool.not_eq_true', ← Bool.not_eq_true, not_congr cdec_iff]
        · rw [List.size_toArray, ← m1, l1, show ((List.range ds.length).all fun j => cdec (ds.getD j .none = es.getD j .none)) = cdec (ds = es) from cdec_eq (all_iff (by omega)), ← cdec_lst]
      · have nd : PyData.list ds ≠ PyData.list es := fun z => absurd (congrArg List.length (PyData.list.inj z)) (by omega)
        refine PySem.W.cmp_ofNotEq (RcNeAt.lists_lengths t1.isList t2.isList (by rw [List.size_toArray, List.size_toArray]; simp; omega) (by omega) X.prog X.w X.xe _ (fin_bl I (k true ?_) rfl))
        simp [nd]
    | _ => exact False.elim hc
  | _ => first | exact False.elim hc | (cases h2 <;> exact False.elim hc)
end
end L2

set_option Elab.async false
set_option linter.all false
set_option maxRecDepth 100000
set_option maxHeartbeats 4000000
namespace PySem.SeqAt
open AutoSeq1 (wpAny_loadPart')
open MeetsSeq MeetsSeq2 MeetsSeq3 SeqRoads2
end PySem.SeqAt
namespace L2
open PySem PySem.Spec PyProof.Rows MA
/-- [.. for x in t if ..], t a tuple -/
theorem comp_tpT {K : PySem.W.Frag} {a : Addr} {xs : List V} {tc : TT} {te : TE} {H : Hp} {R : Addr → Hp → Prop} {fs : St} (Pv : Addr → Nat → List V → Hp → Prop) (hn : xs.length ≤ 100000) (hp0 : ∀ p, H p = none → Pv p 0 [] (upd H p (.lst [])))
    (hl : ∀ p i ys H', H p = none → Pv p i ys H' → H' a = some (.tup xs))
    (hte : ∀ p i ys H' x, H p = none → xs[i]? = some x → ys.length ≤ i → Pv p i ys H' → H' p = some (.lst ys) → ∀ (Qf : Hp → Prop) (Q' : VK), (∀ H'', H'' p = some (.lst ys) → Pv p (i + 1) ys H'' → Qf H'') →
      (∀ v H'', H'' p = some (.lst ys) → Pv p (i + 1) (ys ++ [v]) (upd H'' p (.lst (ys ++ [v]))) → Q' v H'') → tc (some x :: fs) H' (fun b H4 => if b = true then te (some x :: fs) H4 Q' else Qf H4))
    (q : ∀ p ys H', H p = none → Pv p xs.length ys H' → H' p = some (.lst ys) → R p H') :
    ∀ p, H p = none → ∃ W : Nat → Nat → List V → St → Hp → Prop, (∃ m, W 0 m [] (none :: fs) (upd H p (.lst []))) ∧ ∀ i m ys σ' H', W i m ys σ' H' →
      ((Itt K a).stop i H' ∧ R p H') ∨ ((Itt K a).go i H' ∧ ∀ x H2, (Itt K a).yld i H' x H2 → gName 0 x σ' H2 fun σ2 H3 => tc σ2 H3 fun b H4 => if b = true then te σ2 H4 fun v H5 => ys.length < sizeLine ∧ H5 p = some (.lst ys) ∧ (∃ m', m' < m ∧ W (i + 1) m' (ys ++ [v]) σ2 (upd H5 p (.lst (ys ++ [v]))))
        else ∃ m', m' < m ∧ W (i + 1) m' ys σ2 H4) := by
  intro p hp
  refine ⟨fun i m ys σ' H' => m = xs.length - i ∧ i ≤ xs.length ∧ ys.length ≤ i ∧ Pv p i ys H' ∧ H' p = some (.lst ys) ∧ ∃ o, σ' = o :: fs, ⟨xs.length, by simp, Nat.zero_le _, Nat.le_refl _, hp0 p hp, upd_same, _, rfl⟩, ?_⟩
  rintro i m ys σ' H' ⟨rfl, hi, hlen, pv, hp', o, rfl⟩
  have hla := hl p i ys H' hp pv
  by_cases hlt : i < xs.length
  · refine .inr ⟨⟨xs, xs[i], SqT.of hla, List.getElem?_eq_getElem hlt⟩, fun x H2 hy => ?_⟩
    obtain ⟨rfl, hx⟩ := hy
    have hx' := hx xs (SqT.of hla)
    change tc (some x :: fs) H2 _
    refine hte p i ys H2 x hp hx' hlen pv hp' _ _ (fun H5 h5 pv5 => ⟨xs.length - (i + 1), by omega, rfl, hlt, by omega, pv5, h5, _, rfl⟩) fun v H5 h5 pv5 => ⟨?_, h5, xs.length - (i + 1), by omega, rfl, hlt, by simp; omega, pv5, upd_same, _, rfl⟩
    rw [sizeLine_eq]; omega
  · have e : i = xs.length := by omega
    subst e
    exact .inl ⟨⟨xs, SqT.of hla, Nat.le_refl _⟩, q p ys H' hp pv hp'⟩
end L2

set_option Elab.async false
set_option linter.all false
set_option maxRecDepth 100000
set_option maxHeartbeats 4000000
/-! ### methods and classes of the text -/
namespace L2
open PySem PySem.Spec PyProof.Rows
end L2

set_option Elab.async false
set_option linter.all false
set_option maxRecDepth 100000
set_option maxHeartbeats 4000000
namespace PyProof.Rows
open PySem
end PyProof.Rows
namespace L2
open PySem PySem.Spec PyProof.Rows MA
end L2

set_option Elab.async false
set_option linter.all false
set_option maxRecDepth 100000
set_option maxHeartbeats 4000000
/-! ### reversed(range(n)) -/
namespace L2
open PySem PySem.Spec PyProof.Rows
end L2

set_option Elab.async false
set_option linter.all false
set_option maxRecDepth 100000
set_option maxHeartbeats 4000000
/-! ### a def handed over, called in a try -/
namespace L2
open PySem PySem.Spec PyProof.Rows
end L2

set_option Elab.async false
set_option linter.all false
set_option maxRecDepth 100000
set_option maxHeartbeats 4000000
/-! ### a comprehension whose own names are seen by another one within it -/
namespace L2
open PySem PySem.Spec PyProof.Rows
theorem cells_go : ∀ (names : List (Str × NameKind)) (n : Nat) (a acc : List (Str × Addr)), cellsFrom n names (a ++ acc) = cellsFrom n names a ++ acc
  | [], _, _, _ => rfl
  | (x, k) :: r, n, a, acc => by
    unfold cellsFrom
    split
    · exact cells_go r (n + 1) ((x, n) :: a) acc
    · exact cells_go r n a acc
theorem cells_app {names : List (Str × NameKind)} {n : Nat} {acc : List (Str × Addr)} : cellsFrom n names acc = cellsFrom n names [] ++ acc := cells_go names n [] acc
theorem own_mem' : ∀ {names : List (Str × NameKind)} {n : Nat} {a : List (Str × Addr)} {x : Str} {c : Addr}, (x, c) ∈ cellsFrom n names a → (x, c) ∈ a ∨ (x, NameKind.cell) ∈ names
  | [], _, _, _, _, h => .inl h
  | (y, k) :: r, n, a, x, c, h => by
    unfold cellsFrom at h
    split at h
    · rename_i hk
      rcases own_mem' h with q | q
      · rcases List.mem_cons.mp q with z | z
        · cases z
          rw [eq_of_beq hk]
          exact .inr (by simp)
        · exact .inl z
      · exact .inr (List.mem_cons_of_mem _ q)
    · rcases own_mem' h with q | q
      · exact .inl q
      · exact .inr (List.mem_cons_of_mem _ q)
theorem own_mem {names : List (Str × NameKind)} {n : Nat} {x : Str} {c : Addr} (h : (x, c) ∈ cellsFrom n names []) : (x, NameKind.cell) ∈ names := (own_mem' h).elim (fun z => nomatch z) id
theorem has_lookup {x : Str} : ∀ {l : List (Str × Addr)}, (∃ c, (x, c) ∈ l) → ∃ c, l.lookup x = some c
  | [], ⟨_, h⟩ => nomatch h
  | (y, d) :: r, ⟨c, h⟩ => by
    rw [List.lookup_cons]
    cases e : x == y with
    | true => exact ⟨d, rfl⟩
    | false =>
      rcases List.mem_cons.mp h with z | z
      · cases z; simp at e
      · exact has_lookup ⟨c, z⟩
theorem own_keep : ∀ {names : List (Str × NameKind)} {n : Nat} {a : List (Str × Addr)} {x : Str} {c : Addr}, (x, c) ∈ a → (x, c) ∈ cellsFrom n names a
  | [], _, _, _, _, h => h
  | (y, k) :: r, n, a, x, c, h => by
    unfold cellsFrom
    split
    · exact own_keep (List.mem_cons_of_mem _ h)
    · exact own_keep h
theorem own_has' : ∀ {names : List (Str × NameKind)} {n : Nat} {a : List (Str × Addr)} {x : Str}, (x, NameKind.cell) ∈ names → ∃ c, (x, c) ∈ cellsFrom n names a
  | [], _, _, _, h => nomatch h
  | (y, k) :: r, n, a, x, h => by
    unfold cellsFrom
    rcases List.mem_cons.mp h with z | z
    · cases z
      rw [if_pos (show (NameKind.cell == NameKind.cell) = true from rfl)]
      exact ⟨n, own_keep (by simp)⟩
    · split
      · exact own_has' z
      · exact own_has' z
theorem own_has {names : List (Str × NameKind)} {n : Nat} {x : Str} (h : (x, NameKind.cell) ∈ names) : ∃ c, (cellsFrom n names []).lookup x = some c := has_lookup (own_has' h)
/-- the block of a comprehension, its own cells with it -/
theorem newFnEnvC {M : Model} {A : Around} {E : Value → Shared → Prop} {s : Shared} {scope : Scope} {globals : Addr} {cl : List (Str × Addr)} {qual : Str} {env : Env} {Q : Env → Shared → Prop}
    (h : Q { scope, locals := s.heap.objs.size, globals, cells := cellsFrom (s.heap.objs.size + 1) scope.names cl, qual, func := none, code := env.code, frame := env.frame, builtins := env.builtins } { s with heap := pushCells (s.heap.push { cls := .type "dict", data := .dict #[] }) scope.names }) :
    wpAny M A (newFunctionEnv scope globals cl [] qual none .none (some env)) Q E s := by
  simp only [newFunctionEnv, Option.isSome_some, if_true]
  refine wpAny_bind (wpAny_alloc ?_)
  refine wpAny_bind (wpAny_layCells _ (fun name kind cells => by cases hkc : kind == NameKind.cell <;> simp [hkc]) _ _ _ _ ?_)
  rw [show ({ s with heap := s.heap.push { cls := .type "dict", data := .dict #[] } } : Shared).heap.objs.size = s.heap.objs.size + 1 from Heap.size_push ..]
  exact wpAny_bind (wpAny_pure (wpAny_pure h))
def cxCompC (X : Cx) (scope : Scope) (N : List Str) (cl : List (Str × Addr)) (C : Addr) (s : Shared) (H : Hp) (ex : List Addr) : Cx :=
  { X with N := N, s₀ := s, H₀ := H, env := compEnvC scope cl C X.env, outer := X.stack, stack := X.stack, ex := ex, fn := fun x => scope.names.lookup x == some .cell, pn := [] }
theorem comp_coreC {X : Cx} {elt tg iter : Expr} {ifs : List Expr} {scope : Scope} {pos pos2 : Pos} {wi : TI} {g : TG} {tc : TT} {te : TE} {N : List Str} {σ0 : St → St} {pins : List (Addr × Obj)} {s : Shared} {σ : St} {H : Hp} {Q : VK} {use : Option (Value → Sem Unit)} {QQ : Value → Shared → Prop}
    (hc : X.calm = true) (hxe : ∀ e s, X.xe e s → False) (hap : ∀ y ∈ scope.names, y.2 = .free → (y.1, NameKind.cell) ∉ scope.names) (hkind : scope.kind = .function) (hnames : ∀ y ∈ scope.names, y.2 = .local → scope.names.lookup y.1 = some .local)
    (hfr : ∀ y ∈ scope.names, y.2 = .free → X.env.kindOf y.1 = some .cell ∨ X.env.kindOf y.1 = some .free) (hσ : Sees X scope N σ0)
    (hi : PI X tg iter wi)
    (hg : ∀ cl C s H ex, PG (cxCompC X scope N cl C s H ex) tg g) (ht : ∀ cl C s H ex, PTs (cxCompC X scope N cl C s H ex) ifs tc) (he : ∀ cl C s H ex, PE (cxCompC X scope N cl C s H ex) elt te)
    (hs : ∀ x, foldedSetIterable iter X.env x = pure x) (I : Inv X pins σ H s) (h : tComp σ0 wi g tc te σ H Q)
    (hend : ∀ (p C : Addr) (H' : Hp) (s' : Shared) (m : Str → Option Value) (f : Flow), Inv X pins σ H' s' → FpOk X pins H' C → s'.heap.Ns C m → (∀ h', Heap.SameBut C s'.heap h' → Inv X pins σ H' { s' with heap := h' }) → Q (.ref p) H' →
      compPost (model X.prog X.w) X.A X.xe use QQ (.ref p) C (.ok f) s') :
    wpAny (model X.prog X.w) X.A (comprehension (.ListComp elt [⟨tg, iter, ifs, 0⟩] scope pos) scope X.env pos2 (newList []) false (eval iter X.env) use) QQ X.xe s := by
  obtain ⟨cl, hclos, hcl1, hcl2⟩ := closure_of (env := X.env) (scope := scope) fun y hy hf => I.ok.has y.1 (hfr y hy hf)
  refine wpAny_comprehension_free (use := use) rfl hs hclos hkind hnames (thn (hi pins s σ H _ I h) fun v s1 h1 => thn h1 fun itv s2 h2 => ?_)
  obtain ⟨it, fp, tn, J, H2, e, I2, T, st2, f2, h3⟩ := h2
  subst e
  have hpn : H2 s2.heap.objs.size = none := I2.hok.fresh (Nat.le_refl _)
  obtain ⟨W, ⟨m0, w0⟩, turn⟩ := h3 _ hpn
  refine wpAny_newObj_type ?_
  generalize hp : s2.heap.objs.size = p at *
  have I3 : Inv X pins σ (upd H2 p (.lst [])) { s2 with heap := s2.heap.push { cls := .type "list", dict := none, data := .seq ([] : List Value).toArray } } := by
    refine I2.laid (a := p) (o := .lst []) (t' := s2.toks) (fun b u q => Heap.get?_push_of_some _ q) (Nat.le_of_eq hp) ⟨Nat.zero_le _, [], 0, .nil, ?_⟩
    rw [← hp]
    exact Heap.get?_push_size _ rfl
  have hf3 : ∀ b ∈ fp, FpOk X pins (upd H2 p (.lst [])) b := fun b hb => by
    obtain ⟨o, ho, _⟩ := T.obj _ _ st2 b hb
    have : b ≠ p := by rw [← hp]; exact Nat.ne_of_lt (Heap.lt_size ho)
    exact ⟨by rw [upd_ne this]; exact (f2 b hb).1, (f2 b hb).2⟩
  generalize hs3 : ({ s2 with heap := s2.heap.push { cls := .type "list", dict := none, data := .seq ([] : List Value).toArray } } : Shared) = s3 at *
  have st3 : tn 0 s3.heap := by rw [← hs3]; exact T.keep _ _ _ st2 fun b _ o e => Heap.get?_push_of_some _ e
  generalize hH3 : upd H2 p (.lst []) = H3 at *
  refine newFnEnvC ?_
  generalize hC : s3.heap.objs.size = C at *
  obtain ⟨own, ho⟩ : ∃ own, cellsFrom (C + 1) scope.names [] = own := ⟨_, rfl⟩
  obtain ⟨h1, hh1⟩ : ∃ h1, pushCells (s3.heap.push { cls := .type "dict", data := .dict #[] }) scope.names = h1 := ⟨_, rfl⟩
  have okc : CellsOk h1 (C + 1) own := by
    have := cellsFrom_ok scope.names (s3.heap.push { cls := .type "dict", data := .dict #[] }) (C + 1) [] ⟨fun _ _ hm => (nomatch hm), List.Pairwise.nil⟩ (by rw [Heap.size_push, hC]; exact Nat.le_refl _)
    rw [Heap.size_push, hC, ho, hh1] at this
    exact this
  rw [cells_app, ho, hh1]
  have hin : ∀ {x c}, (x, c) ∈ own → (x, NameKind.cell) ∈ scope.names := fun {x c} h => by rw [← ho] at h; exact own_mem h
  have hhas : ∀ {x}, (x, NameKind.cell) ∈ scope.names → ∃ c, own.lookup x = some c := fun {x} h => by rw [← ho]; exact own_has h
  have hns1 : h1.Ns C (fun _ => none) := by
    rw [← hh1, ← hC]
    exact (Heap.Ns.new s3.heap (.type "dict")).keeps (pushCells_keeps _ _)
  have keep : ∀ b u, s3.heap.get? b = some u → h1.get? b = some u := fun b u q => by rw [← hh1]; exact pushCells_keeps _ _ b u (Heap.get?_push_of_some _ q)
  have cases2 : ∀ {x c}, (own ++ cl).lookup x = some c → (h1.IsCell c none ∧ C + 1 ≤ c ∧ own.lookup x = some c) ∨ (own.lookup x = none ∧ cl.lookup x = some c) := fun {x c} h => by
    rw [List.lookup_append] at h
    cases e : own.lookup x with
    | some d =>
      rw [e] at h
      have : d = c := Option.some.inj h
      subst this
      have := okc.empty x d (mem_of_lookup e)
      exact .inl ⟨this.1, this.2, rfl⟩
    | none =>
      rw [e] at h
      exact .inr ⟨rfl, h⟩
  have clt : ∀ {x c}, cl.lookup x = some c → c < C := fun {x c} h => by
    obtain ⟨v, q⟩ := I3.cell x c (hcl1 x c h)
    rw [← hC]
    exact q.lt
  have fpC : ∀ b ∈ fp, b ≠ C := fun b hb => by
    obtain ⟨o, ho, _⟩ := T.obj _ _ st3 b hb
    rw [← hC]; exact Nat.ne_of_lt (Heap.lt_size ho)
  have fpCl : ∀ b ∈ fp, ∀ x c, (own ++ cl).lookup x = some c → c ≠ b := fun b hb x c q => by
    obtain ⟨o, hob, _⟩ := T.obj _ _ st3 b hb
    have lb : b < C := by rw [← hC]; exact Heap.lt_size hob
    rcases cases2 q with ⟨_, l, _⟩ | ⟨_, z⟩
    · intro z
      subst z
      exact absurd lb (Nat.not_lt.mpr (Nat.le_trans (Nat.le_succ _) l))
    · exact (hf3 b hb).2.2.2.2.1 x c (hcl1 x c z)
  have hCn : H3 C = none := I3.hok.fresh (Nat.le_of_eq hC)
  -- the block's own invariant, at its entry
  have ok' : (cxCompC X scope N (own ++ cl) C s3 H3 fp).Ok := by
    refine ⟨I3.mod, hkind, I3.ok.glob, I3.ok.blt, Nat.le_of_eq hC, fun x y c a b => ?inj, fun x hx => ?_, fun x c z q => ?cab, I3.ok.hd, I3.ok.frames, .inl rfl, fun b hb => ⟨fpC b hb, fun x c q => fpCl b hb x c q⟩,
      I3.bs, Nat.le_trans I3.ok.bsz I3.sz, fun b o e hb => ?_, fun b hb z => ?_, I3.stack, I3.stkFree⟩
    case inj =>
      rcases cases2 a with ⟨_, l1, e1⟩ | ⟨_, z1⟩ <;> rcases cases2 b with ⟨_, l2, e2⟩ | ⟨_, z2⟩
      · exact name_of_addr okc.apart (mem_of_lookup e1) (mem_of_lookup e2)
      · exact absurd (clt z2) (Nat.not_lt.mpr (Nat.le_trans (Nat.le_succ _) l1))
      · exact absurd (clt z1) (Nat.not_lt.mpr (Nat.le_trans (Nat.le_succ _) l2))
      · exact I3.ok.inj x y c (hcl1 x c z1) (hcl1 y c z2)
    case cab =>
      have hl : scope.names.lookup x = some .cell := by
        have z' : (scope.names.lookup x == some NameKind.cell) = true := z
        exact eq_of_beq z'
      obtain ⟨d, hd⟩ := hhas (mem_of_lookup hl)
      have q' : (own ++ cl).lookup x = some c := q
      rcases cases2 q' with ⟨_, l, _⟩ | ⟨n, _⟩
      · show s3.heap.objs.size ≤ c
        rw [hC]; exact Nat.le_trans (Nat.le_succ _) l
      · rw [hd] at n; cases n
    · have hx' : (relabel scope X.env).names.lookup x = some .cell ∨ (relabel scope X.env).names.lookup x = some .free := hx
      have fin : ∀ {d}, cl.lookup x = some d → ∃ c, (own ++ cl).lookup x = some c := fun {d} h => by
        rw [List.lookup_append]
        cases own.lookup x with
        | some e => exact ⟨e, rfl⟩
        | none => exact ⟨d, h⟩
      rcases hx' with z | z
      · rcases lookup_relabel_mem z with y | ⟨_, y⟩
        · obtain ⟨c, hc'⟩ := hhas y
          exact ⟨c, by show (own ++ cl).lookup x = some c; rw [List.lookup_append, hc']; rfl⟩
        · obtain ⟨c, hc'⟩ := hcl2 x y; exact fin hc'
      · rcases lookup_relabel_mem z with y | ⟨y, _⟩
        · obtain ⟨c, hc'⟩ := hcl2 x y; exact fin hc'
        · cases y
    · rcases (hf3 b hb).2.2.2.1 with z | z
      · exact I3.ok.noex b o e z
      · exact absurd (Nat.lt_of_lt_of_le (Heap.lt_size e) (Nat.le_trans I3.ok.bsz z)) (Nat.lt_irrefl _)
    · rcases List.mem_cons.mp (I3.stkSub b z) with q | q
      · exact (hf3 b hb).2.1 q
      · exact (hf3 b hb).2.2.1 q
  have J0 : Inv (cxCompC X scope N (own ++ cl) C s3 H3 fp) [] (σ0 σ) H3 { s3 with heap := h1 } := by
    refine ⟨ok', rfl, I3.bare, Un.kept keep, ⟨_, hns1, fun i x v a b c => ?_⟩, fun x c q => ?_, hCn, fun x c q => ?fc, fun q hq => absurd (show q ∈ ([] : List (Addr × Obj)) from hq) (by simp), I3.hok.kept keep, (hσ σ).1⟩
    · obtain ⟨hf, j, hj, hv⟩ := (hσ σ).2 i x v a b
      have hm := mem_of_lookupF hf
      obtain ⟨m, hn, hl⟩ := id I3.loc
      have hk := hfr _ hm rfl
      have hvis : Vis X.env.scope x := hk.elim (fun z => .inr (.inl z)) fun z => .inr (.inr z)
      obtain ⟨u, r, lk⟩ := hl j x v hj hv hvis
      refine ⟨u, r, .inr ⟨lookup_relabel_free hf, ?_⟩⟩
      obtain ⟨c', hc'⟩ := hcl2 x hm
      refine ⟨c', ?_, ?_⟩
      · show (own ++ cl).lookup x = some c'
        rw [List.lookup_append]
        cases e : own.lookup x with
        | none => exact hc'
        | some d => exact absurd (hin (mem_of_lookup e)) (hap _ hm rfl)
      have hx := hcl1 x c' hc'
      rcases lk with ⟨kl, _⟩ | ⟨_, c2, e2, o2, ho2, hd2⟩
      · rcases hk with z | z <;> rw [kl] at z <;> cases z
      · rw [hx] at e2
        cases e2
        exact ⟨o2, keep _ _ ho2, hd2⟩
    · rcases cases2 q with ⟨z, _⟩ | ⟨_, z⟩
      · exact ⟨none, z⟩
      · obtain ⟨v, o, ho, hd⟩ := I3.cell x c (hcl1 x c z)
        exact ⟨v, o, keep _ _ ho, hd⟩
    case fc =>
      rcases cases2 q with ⟨_, l, _⟩ | ⟨_, z⟩
      · exact I3.hok.fresh (by rw [hC]; exact Nat.le_trans (Nat.le_succ _) l)
      · exact I3.freeC x c (hcl1 x c z)
  have st4 : tn 0 h1 := T.keep _ _ _ st3 fun b _ o e => keep b o e
  have stat : ∀ {H' : Hp}, (∀ b ∈ fp, H' b = none) → ∀ b ∈ fp, FpOk (cxCompC X scope N (own ++ cl) C s3 H3 fp) [] H' b := fun hn b hb =>
    ⟨hn b hb, fpC b hb, fun z => ok'.exfs b hb z, .inl hb, fun x c q => fpCl b hb x c q, fun q hq => absurd (show q ∈ ([] : List (Addr × Obj)) from hq) (by simp)⟩
  -- back to the def
  have back : ∀ {σ' : St} {H' : Hp} {s' : Shared} {pl : List (Addr × Obj)}, Inv (cxCompC X scope N (own ++ cl) C s3 H3 fp) pl σ' H' s' → ∀ h', Heap.SameBut C s'.heap h' → Inv X pins σ H' { s' with heap := h' } := fun {σ' H' s' pl} J h' hsb => by
    have I5 : Inv X pins σ H' s' := Inv.call' (ch := fp) I3 J.os J.base J.hok J.bare fun b hb => ⟨(hf3 b hb).2.2.2.1, (hf3 b hb).2.1, (hf3 b hb).2.2.2.2.1, (hf3 b hb).2.2.2.2.2⟩
    refine Inv.turned (it := C) (t' := s'.toks) I5 (fun b o hb e => hsb.extBut b o hb e) J.free (fun z => ?_) (.inr ?_) (fun x c q z => ?_) fun q hq z => ?_
    · exact absurd (show X.env.locals < C by rw [← hC]; exact I3.lt) (by rw [z]; exact Nat.lt_irrefl _)
    · rw [← hC]; exact I3.sz
    · obtain ⟨v, o, ho, _⟩ := I3.cell x c q
      have := Heap.lt_size ho
      rw [z, hC] at this
      exact Nat.lt_irrefl _ this
    · have := Heap.lt_size (I3.pin q hq).1
      rw [z, hC] at this
      exact Nat.lt_irrefl _ this
  have loop : codeAny (model X.prog X.w) X.A (.compLoop (.ListComp elt [⟨tg, iter, ifs, 0⟩] scope pos) 0 (.ref it) (.ref p) (compEnvC scope (own ++ cl) C X.env)) (compPost (model X.prog X.w) X.A X.xe use QQ (.ref p) C) { s3 with heap := h1 } := by
    refine codeAny_loop rfl (fun n s' => ∃ i ys σ' H', Inv (cxCompC X scope N (own ++ cl) C s3 H3 fp) [] σ' H' s' ∧ tn i s'.heap ∧ (∀ b ∈ fp, H' b = none) ∧ W i n ys σ' H') (fun n s' hI => ?_) m0 ⟨0, [], σ0 σ, H3, J0, st4, fun b hb => (hf3 b hb).1, w0⟩
    obtain ⟨i, ys, σ', H', J', st', fr', w'⟩ := hI
    show wpAny _ X.A ((compTurn (.ListComp elt [⟨tg, iter, ifs, 0⟩] scope pos) 0 (.ref it) (.ref p) (compEnvC scope (own ++ cl) C X.env)).onRaise (fun x => do noteFrame x (compEnvC scope (own ++ cl) C X.env); theTreesLotGoes x)) _ _ s'
    refine wpAny_noted ?_
    rw [compTurn_list]
    rcases turn i n ys σ' H' w' with ⟨stop, q⟩ | ⟨go, step⟩
    · refine wpAny_bind (wpAny_standAt (wpAny_bind (wpAny_mono (T.done (cxCompC X scope N (own ++ cl) C s3 H3 fp) rfl rfl rfl hc i [] s' σ' H' X.xe J' (stat fr') st' stop) (fun r s4 h4 => ?_) fun _ _ x => (hxe _ _ x).elim)))
      obtain ⟨hr, I4⟩ := h4
      subst hr
      refine wpAny_pure ?_
      obtain ⟨m, hn, _⟩ := id I4.loc
      have I5 : Inv X pins σ H' s4 := Inv.call' (ch := fp) I3 I4.os I4.base I4.hok I4.bare fun b hb => ⟨(hf3 b hb).2.2.2.1, (hf3 b hb).2.1, (hf3 b hb).2.2.2.2.1, (hf3 b hb).2.2.2.2.2⟩
      exact hend p C H' s4 m _ I5 (I3.fpOk (Nat.le_of_eq hC) I4.free) hn (fun h' hsb => back I4 h' hsb) q
    · refine wpAny_bind (wpAny_standAt (wpAny_bind (wpAny_mono (T.item (cxCompC X scope N (own ++ cl) C s3 H3 fp) rfl rfl rfl hc i [] s' σ' H' X.xe J' (stat fr') st' go) (fun r s4 h4 => ?_) fun _ _ x => (hxe _ _ x).elim)))
      obtain ⟨u, hr, h4⟩ := h4
      subst hr
      refine wpAny_bind (wpAny_mono h4 (fun _ s5 h5 => ?_) fun _ _ x => (hxe _ _ x).elim)
      obtain ⟨x, H5, I5, r5, y5, st5, fr5⟩ := h5
      have I5' := I5.pinned (stat fr5) (T.obj _ _ st5)
      refine wpAny_bind (wpAny_mono (hg (own ++ cl) C s3 H3 fp _ s5 σ' H5 x u _ I5' r5 (step x H5 y5)) (fun _ s6 h6 => ?_) fun _ _ x => (hxe _ _ x).elim)
      obtain ⟨σ6, H6, I6, q6⟩ := h6
      have again : ∀ {σ7 : St} {H7 : Hp} {s7 : Shared} {ys7 : List V}, Inv (cxCompC X scope N (own ++ cl) C s3 H3 fp) ([] ++ pinsAt fp s5.heap) σ7 H7 s7 → (∃ m', m' < n ∧ W (i + 1) m' ys7 σ7 H7) →
          ∃ m, m < n ∧ ∃ i ys σ' H', Inv (cxCompC X scope N (own ++ cl) C s3 H3 fp) [] σ' H' s7 ∧ tn i s7.heap ∧ (∀ b ∈ fp, H' b = none) ∧ W i m ys σ' H' := fun {σ7 H7 s7 ys7} I7 n7 => by
        obtain ⟨m', hm, w7⟩ := n7
        refine ⟨m', hm, i + 1, ys7, σ7, H7, I7.unpinned, T.keep _ _ _ st5 fun b hb o e => (I7.pin (b, o) (List.mem_append_right _ (List.mem_append_right _ (mem_pinsAt hb e)))).1, fun b hb => ?_, w7⟩
        obtain ⟨o, e, d⟩ := T.obj _ _ st5 b hb
        exact (I7.pin (b, o) (List.mem_append_right _ (List.mem_append_right _ (mem_pinsAt hb e)))).2.1
      refine wpAny_bind (wpAny_mono (ht (own ++ cl) C s3 H3 fp _ s6 σ6 H6 _ I6 q6) (fun ok s7 h7 => ?_) fun _ _ x => (hxe _ _ x).elim)
      obtain ⟨H7, I7, q7⟩ := h7
      cases ok with
      | false =>
        rw [if_neg Bool.false_ne_true] at q7
        exact wpAny_pure ⟨rfl, again I7 q7⟩
      | true =>
        rw [if_pos rfl] at q7
        refine wpAny_bind (wpAny_bind (wpAny_mono (he (own ++ cl) C s3 H3 fp _ s7 σ6 H7 _ I7 q7) (fun y s8 h8 => ?_) fun _ _ x => (hxe _ _ x).elim))
        obtain ⟨v, H8, I8, r8, hz, hH8, w8⟩ := h8
        refine wpAny_bind (wpAny_mono (mt_append (X := cxCompC X scope N (own ++ cl) C s3 H3 fp) _ s8 σ6 H8 (.ref p) [v] (.ref p) [y] (fun x H9 => x = .non ∧ H9 = upd H8 p (.lst (ys ++ [v]))) I8 rfl (.cons r8 .nil) ⟨p, ys, v, rfl, rfl, hH8, hz, rfl, rfl⟩) (fun _ s9 h9 => ?_) fun _ _ x => (hxe _ _ x).elim)
        obtain ⟨z, H9, I9, _, _, e9⟩ := h9
        subst e9
        exact wpAny_pure (wpAny_pure ⟨rfl, again I9 w8⟩)
  exact codeAny_compStart_list loop (T.self X.A 0 _ _ _ st4 loop)
theorem ps_compC {X : Cx} {elt tg iter : Expr} {ifs : List Expr} {scope : Scope} {pos spos py : Pos} {wi : TI} {g : TG} {tc : TT} {te : TE} {N : List Str} {σ0 : St → St} {i : Nat} {y : Str}
    (hN : X.N.Nodup) (hiy : X.N[i]? = some y) (hy : Loc X.env.scope y)
    (hc : X.calm = true) (hxe : ∀ e s, X.xe e s → False) (hap : ∀ y ∈ scope.names, y.2 = .free → (y.1, NameKind.cell) ∉ scope.names) (hkind : scope.kind = .function) (hnames : ∀ y ∈ scope.names, y.2 = .local → scope.names.lookup y.1 = some .local)
    (hfr : ∀ y ∈ scope.names, y.2 = .free → X.env.kindOf y.1 = some .cell ∨ X.env.kindOf y.1 = some .free) (hσ : Sees X scope N σ0)
    (hi : PI X tg iter wi)
    (hg : ∀ cl C s H ex, PG (cxCompC X scope N cl C s H ex) tg g) (ht : ∀ cl C s H ex, PTs (cxCompC X scope N cl C s H ex) ifs tc) (he : ∀ cl C s H ex, PE (cxCompC X scope N cl C s H ex) elt te)
    (hs : ∀ x, foldedSetIterable iter X.env x = pure x := by intro _; rfl) (hsw : swapsWith (.ListComp elt [⟨tg, iter, ifs, 0⟩] scope pos) (some (.Name y py)) spos.line X.env = pure true := by rfl)
    (hf : X.fn y = true ∨ X.env.scope.names.lookup y = some .local := by first | exact .inl rfl | exact .inr rfl | assumption) :
    PS X (.Assign [.Name y py] (.ListComp elt [⟨tg, iter, ifs, 0⟩] scope pos) spos) (tAsg (tComp σ0 wi g tc te) (gName i)) := by
  intro pins s σ H D I h
  rw [exec_Assign_Name_used _ _ _ _ hsw]
  refine wpAny_bind (wpAny_standAt (wpAny_bind ?_))
  show wpAny _ X.A (do let _ ← comprehension (.ListComp elt [⟨tg, iter, ifs, 0⟩] scope pos) scope X.env _ (newList []) false (eval iter X.env) (some (assign (.Name y py) X.env))) _ _ s
  refine wpAny_bind (wpAny_mono (comp_coreC (use := some (assign (.Name y py) X.env)) (QQ := fun _ s' => SP X pins D .next s') hc hxe hap hkind hnames hfr hσ hi hg ht he hs I h ?_) (fun _ s' hq => wpAny_pure (wpAny_pure hq)) fun _ _ e => e)
  intro p C H' s' m f I5 fC hn back q
  show wpAny _ X.A (assign (.Name y py) X.env (.ref p)) _ _ _
  have hnC := id hn
  obtain ⟨o, es, ep, ho, hd, _⟩ := hnC
  have Ip := I5.pinned (fp := [C]) (fun b hb => by rw [List.mem_singleton.mp hb]; exact fC) (fun b hb => ⟨o, by rw [List.mem_singleton.mp hb]; exact ho, fun v z => by rw [hd] at z; cases z⟩)
  refine wpAny_mono (pg_name (pos := py) hN hiy hy hf (pins ++ pinsAt [C] s'.heap) s' σ H' (.ref p) (.ref p) _ Ip rfl q) (fun _ s2 h2 => ?_) fun _ _ e => e
  obtain ⟨σ2, H2, I2, q2⟩ := h2
  have hp2 := I2.pin (C, o) (List.mem_append_right _ (List.mem_append_right _ (mem_pinsAt (by simp) ho)))
  refine ⟨m, hn.at' (fun o' e => ?_), fun h' hsb => ⟨σ2, H2, ?_, q2⟩⟩
  · rw [ho] at e; cases e; exact hp2.1
  · exact Inv.turned (it := C) (t' := s2.toks) I2.unpinned (fun b o hb e => hsb.extBut b o hb e) hp2.2.1 hp2.2.2.1 fC.2.2.2.1 fC.2.2.2.2.1 fC.2.2.2.2.2
theorem pe_compC {X : Cx} {elt tg iter : Expr} {ifs : List Expr} {scope : Scope} {pos : Pos} {wi : TI} {g : TG} {tc : TT} {te : TE} {N : List Str} {σ0 : St → St}
    (hc : X.calm = true) (hxe : ∀ e s, X.xe e s → False) (hap : ∀ y ∈ scope.names, y.2 = .free → (y.1, NameKind.cell) ∉ scope.names) (hkind : scope.kind = .function) (hnames : ∀ y ∈ scope.names, y.2 = .local → scope.names.lookup y.1 = some .local)
    (hfr : ∀ y ∈ scope.names, y.2 = .free → X.env.kindOf y.1 = some .cell ∨ X.env.kindOf y.1 = some .free) (hσ : Sees X scope N σ0)
    (hi : PI X tg iter wi)
    (hg : ∀ cl C s H ex, PG (cxCompC X scope N cl C s H ex) tg g) (ht : ∀ cl C s H ex, PTs (cxCompC X scope N cl C s H ex) ifs tc) (he : ∀ cl C s H ex, PE (cxCompC X scope N cl C s H ex) elt te)
    (hs : ∀ x, foldedSetIterable iter X.env x = pure x := by intro _; rfl) : PE X (.ListComp elt [⟨tg, iter, ifs, 0⟩] scope pos) (tComp σ0 wi g tc te) := by
  intro pins s σ H Q I h
  rw [eval_ListComp]
  refine comp_coreC (use := none) (QQ := EP X pins σ Q) hc hxe hap hkind hnames hfr hσ hi hg ht he hs I h ?_
  intro p C H' s' m f I5 fC hn back q
  exact ⟨m, hn, fun h' hsb => ⟨.ref p, H', back h' hsb, rfl, q⟩⟩
end L2

set_option Elab.async false
set_option linter.all false
set_option maxRecDepth 100000
set_option maxHeartbeats 4000000
/-! ### rules that name their K: for use inside comprehensions -/
namespace L2
open PySem PySem.Spec PyProof.Rows
section
variable {X : Cx} {tg l : Expr} {tl : TE}
theorem call_tuple_K (K : PySem.W.Frag) (h : X.K = K) : CallR X (.type "tuple") (fun xs H Q => ∃ p ys, xs = [.ref p] ∧ ((SqL K H p ys ∧ ∀ l, H l = none → Q (.ref l) (upd H l (.tup ys))) ∨ (SqT K H p ys ∧ Q (.ref p) H))) := by subst h; exact call_tuple_of
theorem call_list_K (K : PySem.W.Frag) (h : X.K = K) : CallR X (.type "list") (fun xs H Q => ∃ p ys, xs = [.ref p] ∧ (SqL K H p ys ∨ SqT K H p ys) ∧ ∀ l, H l = none → Q (.ref l) (upd H l (.lst ys))) := by subst h; exact call_list_of
theorem call_len_K (K : PySem.W.Frag) (h : X.K = K) : CallR X (.builtin "len") (fun xs H Q => ∃ p ys, xs = [.ref p] ∧ (SqL K H p ys ∨ SqT K H p ys) ∧ Q (.int ys.length) H) := by subst h; exact call_len_seq
theorem call_isi_K (K : PySem.W.Frag) (h : X.K = K) : CallR X (.builtin "isinstance") (rIsi K) := by subst h; exact call_isi
theorem pi_list_K (K : PySem.W.Frag) (h : X.K = K) (hl : PE X l tl) : PI X tg l (iList K tl) := by subst h; exact pi_list hl
theorem pi_tup_K (K : PySem.W.Frag) (h : X.K = K) (hl : PE X l tl) : PI X tg l (iTup K tl) := by subst h; exact pi_tup hl
end
theorem range_any (bs : List Bool) (n : Nat) (h : bs.length = n) : (List.range n).any (fun i => bs.getD i false) = bs.any id := by
  subst h
  rw [Bool.eq_iff_iff, List.any_eq_true, List.any_eq_true]
  constructor
  · rintro ⟨i, hi, e⟩
    have hi' : i < bs.length := by simpa using hi
    rw [getD_of hi'] at e
    exact ⟨_, List.getElem_mem hi', e⟩
  · rintro ⟨x, hx, e⟩
    obtain ⟨i, hi, e'⟩ := List.mem_iff_getElem.mp hx
    refine ⟨i, by simpa using hi, ?_⟩
    rw [getD_of hi, e']
    exact e
section
variable {X : Cx}
/-- any(xs), xs a list of truths -/
def rAny : List V → Hp → VK → Prop := fun xs H Q => ∃ (l : Addr) (bs : List Bool), xs = [.ref l] ∧ H l = some (.lst (bs.map V.bl)) ∧ Q (.bl (bs.any id)) H
theorem call_any (hc : X.calm = true) : CallR X (.builtin "any") rAny := by
  intro pins s σ H xs us Q I r h
  obtain ⟨l, bs, rfl, hl, q⟩ := h
  obtain ⟨u, rfl, ru⟩ := vals1 r
  cases ru
  obtain ⟨its, rv, p, hz⟩ := I.list (SqL.of hl)
  have hlt : l < s.heap.objs.size := I.hok.lt hl
  have hlen : bs.length = its.length := by have := rv.length; rwa [List.length_map] at this
  refine call_any_walk (wpAny_pyIter_list p.isList ?_)
  refine ⟨s.heap.objs.size, _, _, _, _, _, fun i => bs.getD i false, rfl, Walks.list (A := X.A.in1) (show X.A.in1.handled = none from I.ok.hd hc) s.heap.objs.size l (Nat.ne_of_lt hlt) its.toArray, ⟨⟨_, Heap.get?_push_size _ rfl, rfl, rfl⟩, ?_⟩, ?_, fun h' tk hk => ?_⟩
  · exact p.isList.at fun o e => Heap.get?_push_of_some _ e
  · intro i v s' Q' E' hv hQ
    have hi : i < its.length := by
      have := (Array.getElem?_eq_some_iff.mp hv).1
      simpa using this
    have hb : (bs.map V.bl)[i]? = some (.bl (bs.getD i false)) := by
      rw [List.getElem?_map, List.getElem?_eq_getElem (by omega), getD_of (by omega)]; rfl
    obtain ⟨u, hu, ru⟩ := rv.get hb
    have : v = u := by
      rw [List.getElem?_toArray, hu] at hv
      exact (Option.some.inj hv).symm
    subst this
    obtain rfl : v = Value.bool (bs.getD i false) := ru
    exact wpAny_pure hQ
  · refine ⟨.bl (bs.any id), H, I.kept (t' := tk) fun b o e => hk b o ?_ (Heap.get?_push_of_some _ e), ?_, q⟩
    · intro z
      have : b = s.heap.objs.size := by simpa using z
      subst this
      exact Nat.lt_irrefl _ (Heap.lt_size e)
    · show Value.bool _ = Value.bool _
      rw [range_any bs its.toArray.size (by simpa using hlen)]
end
/-! walks of a clause, read with any goal -/
theorem loopW_tupR {K : PySem.W.Frag} {a : Addr} {xs : List V} {g : TG} {tb : TB} {σ : St} {H : Hp} {Q : St → Hp → Prop} (Pv : Nat → St → Hp → Prop) (h0 : Pv 0 σ H) (hl : ∀ i σ' H', i ≤ xs.length → Pv i σ' H' → SqT K H' a xs)
    (hs : ∀ i x σ' H', xs[i]? = some x → Pv i σ' H' → ∀ R : St → Hp → Prop, (∀ σ'' H'', Pv (i + 1) σ'' H'' → R σ'' H'') → g x σ' H' fun σ2 H2 => tb σ2 H2 R) (hd : ∀ σ' H', Pv xs.length σ' H' → Q σ' H') : LoopW (Itt K a) g tTT tb σ H Q := by
  refine ⟨fun i m σ' H' => m = xs.length - i ∧ i ≤ xs.length ∧ Pv i σ' H', ⟨xs.length, by simp, Nat.zero_le _, h0⟩, ?_⟩
  rintro i m σ' H' ⟨rfl, hi, p⟩
  have q := hl i σ' H' hi p
  by_cases hlt : i < xs.length
  · refine .inr ⟨⟨xs, xs[i], q, by simp [hlt]⟩, fun x H2 y => ?_⟩
    obtain ⟨e, y⟩ := y
    subst e
    exact hs i x σ' _ (y xs q) p _ fun a b pv => ⟨xs.length - (i + 1), by omega, rfl, hlt, pv⟩
  · have e : i = xs.length := by omega
    subst e
    exact .inl ⟨⟨xs, q, Nat.le_refl _⟩, hd σ' H' p⟩
theorem loopW_rngR {lo : Int} {n : Nat} {g : TG} {tb : TB} {σ : St} {H : Hp} {Q : St → Hp → Prop} (Pv : Nat → St → Hp → Prop) (h0 : Pv 0 σ H)
    (hs : ∀ i σ' H', i < n → Pv i σ' H' → ∀ R : St → Hp → Prop, (∀ σ'' H'', Pv (i + 1) σ'' H'' → R σ'' H'') → g (.int (lo + i)) σ' H' fun σ2 H2 => tb σ2 H2 R) (hd : ∀ σ' H', Pv n σ' H' → Q σ' H') : LoopW (Itr lo n) g tTT tb σ H Q := by
  refine ⟨fun i m σ' H' => m = n - i ∧ i ≤ n ∧ Pv i σ' H', ⟨n, by simp, Nat.zero_le _, h0⟩, ?_⟩
  rintro i m σ' H' ⟨rfl, hi, p⟩
  by_cases hlt : i < n
  · refine .inr ⟨hlt, fun x H2 y => ?_⟩
    obtain ⟨rfl, rfl⟩ := y
    exact hs i σ' _ hlt p _ fun a b pv => ⟨n - (i + 1), by omega, rfl, hlt, pv⟩
  · have e : i = n := by omega
    subst e
    exact .inl ⟨Nat.le_refl _, hd σ' H' p⟩
end L2

set_option Elab.async false
set_option linter.all false
set_option maxRecDepth 100000
set_option maxHeartbeats 4000000
/-! ### a law that names but one of the own errors (Unlike) -/
namespace My
open PySem L2 MA
structure Err1N (mg : Str → Option Value) (e : Errs) : Prop where
  ball : mg "BallError" = some (.ref e.ball)
  m2 : mg "Unlike" = some (.ref e.c2)
structure Err1 (K : PySem.W.Frag) (e : Errs) : Prop where
  ek : ExcK K e.c2
  ball : PySem.W.exmOne K (.ref e.c2) (.ref e.ball) = some true
  i2 : PySem.W.kitOne K (.ref e.c2) (.ref e.c2) = some (decide ((2 : Nat) = 2))
  ve : PySem.W.kitOne K (.ref e.c2) (.type "ValueError") = some true
theorem err1N_mk {K : PySem.W.Frag} {h : Heap} {mg : Str → Option Value} {b c2 : Addr} (X : K.In h) (G : h.Ns mainGlobals mg) (a : PySem.W.nsIn K mainGlobals "BallError" = some (some (.ref b))) (a2 : PySem.W.nsIn K mainGlobals "Unlike" = some (some (.ref c2))) : Err1N mg ⟨b, 0, 0, c2, 0, 0, 0, 0, 0, 0⟩ :=
  ⟨PySem.W.mg_of X G a, PySem.W.mg_of X G a2⟩
def err1Ok (K : PySem.W.Frag) (e : Errs) : Bool :=
  (PySem.W.findIn K (.ref e.c2) "__getattribute__" == some (some (.builtin "BaseException.__getattribute__"))) && (PySem.W.findIn K (.ref e.c2) "__getattr__" == some none) && (PySem.W.findIn K (.ref e.c2) "__class__" == some (some (.builtin "object.__class__"))) &&
  (PySem.W.specialIn K (.builtin "object.__class__") "__get__" == some (some (.builtin "getset_descriptor.__get__"))) && (PySem.W.takesIn K (.builtin "object.__class__") == some true) && (PySem.W.clsIn K e.c2).isSome && (PySem.W.mroIn K e.c2 (.type "object") == some true) && (PySem.W.mroIn K e.c2 (.type "BaseException") == some true) &&
  (PySem.W.exmOne K (.ref e.c2) (.ref e.ball) == some true) && (PySem.W.kitOne K (.ref e.c2) (.ref e.c2) == some (decide ((2 : Nat) = 2))) && (PySem.W.kitOne K (.ref e.c2) (.type "ValueError") == some true) && PySem.W.excIn K e.c2 bmVE "ValueError.__new__"
theorem err1Ok_of {K : PySem.W.Frag} {e : Errs} (h : err1Ok K e = true) : Err1 K e ∧ PySem.W.excIn K e.c2 bmVE "ValueError.__new__" = true := by
  unfold err1Ok at h
  simp only [Bool.and_eq_true, beq_iff_eq] at h
  obtain ⟨⟨⟨⟨⟨⟨⟨⟨⟨⟨⟨h2, h3⟩, h4⟩, h5⟩, h6⟩, h7⟩, h8⟩, h9⟩, h10⟩, k2⟩, h12⟩, h13⟩ := h
  exact ⟨⟨⟨h2, h3, h4, h5, h6, h7, h8, h9⟩, h10, k2, h12⟩, h13⟩
end My

set_option Elab.async false
set_option linter.all false
set_option maxRecDepth 100000
set_option maxHeartbeats 4000000
/-! ### < of tuples -/
namespace PySem.SeqAt
open AutoSeq1 (wpAny_loadPart')
open MeetsSeq MeetsSeq2 MeetsSeq3
end PySem.SeqAt

set_option Elab.async false
set_option linter.all false
set_option maxRecDepth 100000
set_option maxHeartbeats 4000000
/-! ### sorting by comparisons that leave all as it is: the tree of the questions, walked by an order -/
namespace Srt
open PySem PySem.W PyProof.Rows
end Srt

set_option Elab.async false
set_option linter.all false
set_option maxRecDepth 100000
set_option maxHeartbeats 4000000
namespace Srt
open PySem PySem.W PyProof.Rows
/-! ### list.sort, sorted: fewer than 64 things, any order whose questions change nothing -/
end Srt

set_option Elab.async false
set_option linter.all false
set_option maxRecDepth 100000
set_option maxHeartbeats 4000000
namespace Srt
open PySem PySem.W PyProof.Rows
end Srt

set_option Elab.async false
set_option linter.all false
set_option maxRecDepth 100000
set_option maxHeartbeats 4000000
namespace DI
open PySem PySem.W PyProof.Rows
end DI

set_option Elab.async false
set_option linter.all false
set_option maxRecDepth 100000
set_option maxHeartbeats 4000000
namespace DI
open PySem PySem.W PyProof.Rows
end DI

set_option Elab.async false
set_option linter.all false
set_option maxRecDepth 100000
set_option maxHeartbeats 4000000
namespace L2
open PySem PySem.W PySem.Spec PyProof.Rows DI
/-! ### sorted(d), sorted(d.items()), list(d), sum(d.values()): d a dict whose keys are tuples -/
end L2

set_option Elab.async false
set_option linter.all false
set_option maxRecDepth 100000
set_option maxHeartbeats 4000000
namespace Srt
open PySem PySem.W PySem.Spec PyProof.Rows L2
/-! ### the order of tuples of ints -/
end Srt

set_option Elab.async false
set_option linter.all false
set_option maxRecDepth 100000
set_option maxHeartbeats 4000000
namespace L2
open PySem PySem.W PySem.Spec PyProof.Rows DI Srt
theorem paired_get {α β : Type} {F : α → β → Prop} {xs : List α} {ys : List β} (h : Paired F xs ys) : ∀ {j : Nat} {x : α}, xs[j]? = some x → ∃ y, ys[j]? = some y ∧ F x y := by
  induction h with
  | nil => intro j x e; simp at e
  | @cons a b as bs r t ih =>
    intro j x e
    cases j with
    | zero => simp at e; subst e; exact ⟨b, rfl, r⟩
    | succ j => simpa using ih (by simpa using e)
end L2

set_option Elab.async false
set_option linter.all false
set_option maxRecDepth 100000
set_option maxHeartbeats 4000000
namespace L2
open PySem PySem.W PySem.Spec PyProof.Rows DI Srt
/-! ### d.items(), d.values(): views, known by their object -/
end L2

set_option Elab.async false
set_option linter.all false
set_option maxRecDepth 100000
set_option maxHeartbeats 4000000
namespace L2
open PySem PySem.W PySem.Spec PyProof.Rows DI Srt
end L2

set_option Elab.async false
set_option linter.all false
set_option maxRecDepth 100000
set_option maxHeartbeats 4000000
namespace L2
open PySem PySem.W PySem.Spec PyProof.Rows DI Srt
end L2

set_option Elab.async false
set_option linter.all false
set_option maxRecDepth 100000
set_option maxHeartbeats 4000000
namespace L2
open PySem PySem.W PySem.Spec PyProof.Rows DI Srt
/-! ### walks whose yields are known: one set of readings for all iterators -/
structure Yields (J : It) (n : Nat) (f : Nat → Hp → V → Hp → Prop) (ok : Hp → Prop) : Prop where
  go : ∀ i H, i < n → ok H → J.go i H
  yld : ∀ i H x H', i < n → ok H → J.yld i H x H' → f i H x H'
  stop : ∀ H, ok H → J.stop n H
section
variable {J : It} {n : Nat} {f : Nat → Hp → V → Hp → Prop} {ok : Hp → Prop}
theorem for_Y (Y : Yields J n f ok) {g : TG} {tb : TS} {D : Ends} {σ : St} {H : Hp} (Pv : Nat → St → Hp → Prop) (h0 : Pv 0 σ H) (hok : ∀ i σ H, Pv i σ H → ok H)
    (hs : ∀ i x σ H H', i < n → Pv i σ H → f i H x H' → g x σ H' fun σ2 H2 => tb { D with nx := Pv (i + 1), ct := Pv (i + 1), bk := D.nx } σ2 H2) (hd : ∀ σ H, Pv n σ H → D.nx σ H) :
    ∃ W : Nat → Nat → St → Hp → Prop, (∃ m, W 0 m σ H) ∧ ∀ i m σ H, W i m σ H →
      (J.stop i H ∧ D.nx σ H) ∨ (J.go i H ∧ ∃ N : St → Hp → Prop, (∀ σ' H', N σ' H' → ∃ m', m' < m ∧ W (i + 1) m' σ' H') ∧ ∀ x H', J.yld i H x H' → g x σ H' fun σ2 H2 => tb { D with nx := N, ct := N, bk := D.nx } σ2 H2) := by
  refine ⟨fun i m σ H => m = n - i ∧ i ≤ n ∧ Pv i σ H, ⟨n, by simp, Nat.zero_le _, h0⟩, ?_⟩
  rintro i m σ H ⟨rfl, hi, p⟩
  have o := hok i σ H p
  by_cases hlt : i < n
  · exact .inr ⟨Y.go i H hlt o, Pv (i + 1), fun σ' H' p' => ⟨n - (i + 1), by omega, rfl, hlt, p'⟩, fun x H' y => hs i x σ H H' hlt p (Y.yld i H x H' hlt o y)⟩
  · have e : i = n := by omega
    subst e
    exact .inl ⟨Y.stop H o, hd σ H p⟩
/-- [e for x in ..] and [e for x in .. if c] -/
theorem comp_Y (Y : Yields J n f ok) {g : TG} {tc : TT} {te : TE} {H : Hp} {R : Addr → Hp → Prop} {σ1 : St} (Pv : Addr → Nat → List V → St → Hp → Prop) (hn : n ≤ 100000) (hp0 : ∀ p, H p = none → Pv p 0 [] σ1 (upd H p (.lst [])))
    (hok : ∀ p i ys σ' H', H p = none → Pv p i ys σ' H' → ok H')
    (hs : ∀ p i ys σ' H' x H'', H p = none → i < n → ys.length ≤ i → Pv p i ys σ' H' → H' p = some (.lst ys) → f i H' x H'' → ∀ (Q1 : V → St → Hp → Prop) (Q2 : St → Hp → Prop), (∀ v σ2 H5, H5 p = some (.lst ys) → Pv p (i + 1) (ys ++ [v]) σ2 (upd H5 p (.lst (ys ++ [v]))) → Q1 v σ2 H5) → (∀ σ2 H4, H4 p = some (.lst ys) → Pv p (i + 1) ys σ2 H4 → Q2 σ2 H4) →
      g x σ' H'' fun σ2 H3 => tc σ2 H3 fun b H4 => if b = true then te σ2 H4 fun v H5 => Q1 v σ2 H5 else Q2 σ2 H4)
    (q : ∀ p ys σ' H', H p = none → Pv p n ys σ' H' → H' p = some (.lst ys) → ys.length ≤ n → R p H') :
    ∀ p, H p = none → ∃ W : Nat → Nat → List V → St → Hp → Prop, (∃ m, W 0 m [] σ1 (upd H p (.lst []))) ∧ ∀ i m ys σ' H', W i m ys σ' H' →
      (J.stop i H' ∧ R p H') ∨ (J.go i H' ∧ ∀ x H2, J.yld i H' x H2 → g x σ' H2 fun σ2 H3 => tc σ2 H3 fun b H4 => if b = true then te σ2 H4 fun v H5 => ys.length < sizeLine ∧ H5 p = some (.lst ys) ∧ (∃ m', m' < m ∧ W (i + 1) m' (ys ++ [v]) σ2 (upd H5 p (.lst (ys ++ [v]))))
        else ∃ m', m' < m ∧ W (i + 1) m' ys σ2 H4) := by
  intro p hp
  refine ⟨fun i m ys σ' H' => m = n - i ∧ i ≤ n ∧ ys.length ≤ i ∧ Pv p i ys σ' H' ∧ H' p = some (.lst ys), ⟨n, by simp, Nat.zero_le _, Nat.zero_le _, hp0 p hp, upd_same⟩, ?_⟩
  rintro i m ys σ' H' ⟨rfl, hi, hl, pv, hp'⟩
  have o := hok p i ys σ' H' hp pv
  by_cases hlt : i < n
  · refine .inr ⟨Y.go i H' hlt o, fun x H2 y => hs p i ys σ' H' x H2 hp hlt hl pv hp' (Y.yld i H' x H2 hlt o y) _ _ (fun v σ2 H5 h5 pv5 => ⟨by rw [sizeLine_eq]; omega, h5, n - (i + 1), by omega, rfl, hlt, by simp; omega, pv5, upd_same⟩) fun σ2 H4 h4 pv4 => ⟨n - (i + 1), by omega, rfl, hlt, by omega, pv4, h4⟩⟩
  · have e : i = n := by omega
    subst e
    exact .inl ⟨Y.stop H' o, q p ys σ' H' hp pv hp' hl⟩
end
theorem yields_lst {K : PySem.W.Frag} {a : Addr} {xs : List V} : Yields (Itl K a) xs.length (fun i H x H' => H' = H ∧ xs[i]? = some x) (fun H => H a = some (.lst xs)) :=
  ⟨fun i H hi o => ⟨xs, xs[i], SqL.of o, by simp [hi]⟩, fun i H x H' hi o ⟨e, y⟩ => ⟨e, y xs (SqL.of o)⟩, fun H o => ⟨xs, SqL.of o, Nat.le_refl _⟩⟩
theorem yields_tup {K : PySem.W.Frag} {a : Addr} {xs : List V} : Yields (Itt K a) xs.length (fun i H x H' => H' = H ∧ xs[i]? = some x) (fun H => H a = some (.tup xs)) :=
  ⟨fun i H hi o => ⟨xs, xs[i], SqT.of o, by simp [hi]⟩, fun i H x H' hi o ⟨e, y⟩ => ⟨e, y xs (SqT.of o)⟩, fun H o => ⟨xs, SqT.of o, Nat.le_refl _⟩⟩
theorem yields_rng {lo : Int} {n : Nat} : Yields (Itr lo n) n (fun i H x H' => H' = H ∧ x = .int (lo + i)) (fun _ => True) :=
  ⟨fun i H hi _ => hi, fun i H x H' hi _ y => y, fun H _ => Nat.le_refl _⟩
/-! ### a dict with tuples as keys, walked -/
end L2

set_option Elab.async false
set_option linter.all false
set_option maxRecDepth 100000
set_option maxHeartbeats 4000000
namespace L2
open PySem PySem.Spec PyProof.Rows
/-! ### dict comprehensions with tuples as keys -/
end L2

set_option Elab.async false
set_option linter.all false
set_option maxRecDepth 100000
set_option maxHeartbeats 4000000
namespace L2
open PySem PySem.W PySem.Spec PyProof.Rows DI Srt
/-! ### dict(a list of pairs), the keys tuples -/
end L2

set_option Elab.async false
set_option linter.all false
set_option maxRecDepth 100000
set_option maxHeartbeats 1000000
namespace L2
open PySem PySem.Spec PyProof.Rows Srt
/-! ### tables: tuples of ints with ints -/
/-! ### in order -/
end L2

set_option Elab.async false
set_option linter.all false
set_option maxRecDepth 100000
set_option maxHeartbeats 1000000
namespace L2
open PySem PySem.Spec PyProof.Rows Srt
end L2

set_option Elab.async false
set_option linter.all false
set_option maxRecDepth 100000
set_option maxHeartbeats 1000000
namespace L2
open PySem PySem.Spec PyProof.Rows Srt
end L2
namespace L2
open PySem PySem.Spec PyProof.Rows Srt
/-! ### walks without a K: for the second clause of a comprehension -/
end L2

set_option Elab.async false
set_option linter.all false
set_option maxRecDepth 100000
set_option maxHeartbeats 4000000
/-! ### a table of defs -/
namespace L2
open PySem PySem.Spec PyProof.Rows
end L2

set_option Elab.async false
set_option linter.all false
set_option maxRecDepth 100000
set_option maxHeartbeats 400000
/-! ### repr of any data: a list may hold a dict -/
namespace L2
open PySem PySem.Spec PyProof.Rows
theorem sh_list (ds : List PyData) : (PyData.list ds).shown = listText (PyData.shownAll ds) := by simp only [PyData.shown]
theorem sh_tuple (ds : List PyData) : (PyData.tuple ds).shown = tupleText (PyData.shownAll ds) := by simp only [PyData.shown]
theorem sh_dict (ps : List (PyData × PyData)) : (PyData.dict ps).shown = dictText (PyData.shownKv ps) := by simp only [PyData.shown]
theorem shownAll_len : ∀ ds : List PyData, (PyData.shownAll ds).length = ds.length
  | [] => rfl
  | d :: ds => by simp [PyData.shownAll, shownAll_len ds]
mutual
theorem reprK_of {P : Program} {w : World} {H : Hp} {h : Heap} (ok : HOk P w H h) : ∀ {v : V} {d : PyData} {u : Value}, DataV H v d → RelV v u → d.showable = true → d.shown.length ≤ sizeLine → ∃ bs, ReadAtMost h d.depth bs ∧ ReprK P w bs h d.depth u d.shown
  | _, _, _, .non, r, sh, ln => by cases r; exact ReprK.of_reads .none sh (fun z => by cases z) ln
  | _, _, _, .bl b, r, sh, ln => by cases r; exact ReprK.of_reads (.bool b) sh (fun z => by cases z) ln
  | _, _, _, .int i, r, sh, ln => by obtain ⟨t, rfl⟩ := r; exact ReprK.of_reads (.int i t) sh (fun z => by cases z) ln
  | _, _, _, .str x, r, sh, ln => by obtain ⟨t, rfl⟩ := r; exact ReprK.of_reads (.str x t) sh (fun z => by cases z) ln
  | _, _, _, .lst (a := a) (xs := xs) (ds := ds) ha hd, r, sh, ln => by
    have rd := reads_of ok (DataV.lst ha hd) r
    obtain ⟨as, rd, _⟩ := rd
    cases r
    obtain ⟨_, its, n, rv, e⟩ := ok a _ ha
    rw [sh_list] at ln ⊢
    obtain ⟨bs, rm, ra⟩ := reprAllK_of ok hd rv (by simpa [PyData.showable] using sh) fun t ht => Nat.le_trans (listText_mem_le ht) ln
    have na : a ∉ bs := not_mem_of_deeper rd (by show PyData.depthAll ds < PyData.depthAll ds + 1; omega) rm
    have rm2 : ReadAtMost h (PyData.list ds).depth (a :: bs) := ReadAtMost.cons rd (by show PyData.depthAll ds ≤ PyData.depthAll ds + 1; omega) rm
    refine ⟨a :: bs, rm2, ?_⟩
    cases its with
    | nil =>
      have : ds = [] := by
        have h1 := hd.length
        have h2 := rv.length
        rw [List.length_nil] at h2
        exact List.length_eq_zero_iff.mp (by omega)
      subst this
      exact ReprK.listEmpty e rfl rfl
    | cons x l =>
      refine ReprK.list e rfl rfl na ?_ fun i y hy => ra.item i y (by simpa using hy)
      rw [shownAll_len]
      rw [← hd.length, rv.length, List.size_toArray]
  | _, _, _, .tup (a := a) (xs := xs) (ds := ds) ha hd, r, sh, ln => by
    obtain ⟨as, rd, _⟩ := reads_of ok (DataV.tup ha hd) r
    cases r
    obtain ⟨_, its, rv, o, e, hc, n, hdt, _⟩ := ok a _ ha
    rw [sh_tuple] at ln ⊢
    obtain ⟨bs, rm, ra⟩ := reprAllK_of ok hd rv (by simpa [PyData.showable] using sh) fun t ht => Nat.le_trans (tupleText_mem_le ht) ln
    have na : a ∉ bs := not_mem_of_deeper rd (by show PyData.depthAll ds < PyData.depthAll ds + 1; omega) rm
    exact ⟨a :: bs, ReadAtMost.cons rd (by show PyData.depthAll ds ≤ PyData.depthAll ds + 1; omega) rm, ReprK.tuple e hc hdt na (by simpa using ra)⟩
  | _, _, _, .dict (a := a) (kvs := kvs) (ps := ps) ha hk hv, r, sh, ln => by
    obtain ⟨as, rd, _⟩ := reads_of ok (DataV.dict ha hk hv) r
    cases r
    obtain ⟨_, hm, vs, rv, o, es, ep, e, hx, hdt, _, hp, _⟩ := ok a _ ha
    obtain ⟨rk, rvv⟩ := pairs_split hp rv
    rw [sh_dict] at ln ⊢
    have sh' : PyData.showableKv ps = true := by simpa only [PyData.showable] using sh
    obtain ⟨sh1, sh2⟩ := PyData.showableKv_split ps sh'
    obtain ⟨b1, m1, k1⟩ := reprAllK_of ok hk rk sh1 fun t ht => by
      obtain ⟨q, hq, l⟩ := PyData.shownKv_key_le ps t ht
      exact Nat.le_trans l (Nat.le_trans (dictText_mem_le hq) ln)
    obtain ⟨b2, m2, k2⟩ := reprAllK_of ok hv rvv sh2 fun t ht => by
      obtain ⟨q, hq, l⟩ := PyData.shownKv_val_le ps t ht
      exact Nat.le_trans l (Nat.le_trans (dictText_mem_le hq) ln)
    have d1 := PyData.depthAll_keys_le ps
    have d2 := PyData.depthAll_vals_le ps
    have dd : (PyData.dict ps).depth = PyData.depthKv ps + 1 := by simp only [PyData.depth]
    have rm : ReadAtMost h (PyData.depthKv ps) (b1 ++ b2) := (m1.mono d1).append (m2.mono d2)
    have na : a ∉ b1 ++ b2 := not_mem_of_deeper rd (by rw [dd]; omega) rm
    have en := ReprEntriesK.of_two es.toList _ _ (k1.more_le (fun b hb => List.mem_append_left b2 hb) d1) (k2.more_le (fun b hb => List.mem_append_right b1 hb) d2)
    rw [← PyData.shownKv_eq] at en
    have kk := ReprK.dict e hx.1 hdt hm na en
    rw [dd]
    refine ⟨a :: (b1 ++ b2), ?_, kk⟩
    have := ReadAtMost.cons rd (by rw [dd]; omega) rm
    rwa [dd] at this
theorem reprAllK_of {P : Program} {w : World} {H : Hp} {h : Heap} (ok : HOk P w H h) : ∀ {vs : List V} {ds : List PyData} {us : List Value}, DataL H vs ds → Vals vs us → PyData.showableAll ds = true → (∀ t ∈ PyData.shownAll ds, t.length ≤ sizeLine) → ∃ bs, ReadAtMost h (PyData.depthAll ds) bs ∧ ReprAllK P w bs h (PyData.depthAll ds) us (PyData.shownAll ds)
  | _, _, _, .nil, r, _, _ => by cases r; exact ⟨[], fun b hb => by simp at hb, .nil⟩
  | _, _, _, .cons (d := d) (ds := ds) hx hd, r, sh, ln => by
    cases r with
    | cons r1 r2 =>
      simp only [PyData.showableAll, Bool.and_eq_true] at sh
      obtain ⟨as, m1, k1⟩ := reprK_of ok hx r1 sh.1 (ln _ (by simp [PyData.shownAll]))
      obtain ⟨bs, m2, k2⟩ := reprAllK_of ok hd r2 sh.2 fun t ht => ln t (by simp [PyData.shownAll, ht])
      have d1 : d.depth ≤ PyData.depthAll (d :: ds) := by simp only [PyData.depthAll]; omega
      have d2 : PyData.depthAll ds ≤ PyData.depthAll (d :: ds) := by simp only [PyData.depthAll]; omega
      refine ⟨as ++ bs, (m1.mono d1).append (m2.mono d2), ?_⟩
      simp only [PyData.shownAll]
      exact .cons ((k1.level_le d1).more fun b hb => List.mem_append_left _ hb) (k2.more_le (fun b hb => List.mem_append_right _ hb) d2)
end
section
variable {X : Cx}
/-- repr(x), x any data -/
def rReprD : List V → Hp → VK → Prop := fun xs H Q => ∃ v d, xs = [v] ∧ DataV H v d ∧ d.showable = true ∧ d.depth ≤ 20 ∧ d.shown.length ≤ sizeLine ∧ Q (.str d.shown) H
theorem call_reprD {k : Nat} (hr : Room k X.A) : CallR X (.builtin "repr") rReprD := by
  intro pins s σ H xs us Q I r h
  obtain ⟨v, d, rfl, hd, hs, hdp, hz, q⟩ := h
  by_cases hl : d.hasDict = true → lists d = false
  · exact call_repr hr pins s σ H [v] us Q I r ⟨v, d, rfl, hd, hs, hl, hdp, hz, q⟩
  obtain ⟨u, rfl, ru⟩ := vals1 r
  have fin : ∀ h' u tk, (∀ b o, s.heap.get? b = some o → h'.get? b = some o) → EP X pins σ Q (.str d.shown u) { s with heap := h', toks := tk } := fun h' u tk hk =>
    ⟨.str d.shown, H, I.kept (t' := tk) hk, ⟨u, rfl⟩, q⟩
  have ok := I.hok
  cases hd with
  | @lst a ys ds ha hx =>
    cases ru
    obtain ⟨as, rd, _⟩ := reads_of ok (DataV.lst ha hx) (show RelV (.ref a) (.ref a) from rfl)
    obtain ⟨_, its, n, rv, e⟩ := ok a _ ha
    rw [sh_list] at hz fin
    obtain ⟨bs, rm, ra⟩ := reprAllK_of ok hx rv (by simpa [PyData.showable] using hs) fun t ht => Nat.le_trans (listText_mem_le ht) hz
    have na : a ∉ bs := not_mem_of_deeper rd (by show PyData.depthAll ds < PyData.depthAll ds + 1; omega) rm
    have hdp' : PyData.depthAll ds + 1 ≤ 20 := hdp
    cases its with
    | nil =>
      exfalso
      have h1 := hx.length
      have h2 := rv.length
      rw [List.length_nil] at h2
      have : ds = [] := List.length_eq_zero_iff.mp (by omega)
      subst this
      exact hl fun z => by cases z
    | cons x l =>
      refine call_repr_slot (by have := hr.un; omega) ⟨_, e, rfl⟩ ⟨PySem.F.slot_list_repr.lookup, PySem.F.slot_list_repr.bind, PySem.F.slot_list_repr.check⟩ ?_
      refine call_list_reprK e rfl rfl na ?_ (fun i y hy => ra.item i y (by simpa using hy)) (g := []) hr.gd (fun b _ id v rest kw z => by simp at z) ?_ (fun _ _ e => e) (fun h' u tk hk => ⟨_, _, rfl, fin h' u tk hk⟩) hz
      · rw [shownAll_len, ← hx.length, rv.length, List.size_toArray]
      · show X.A.in1.units + _ < cLine
        have := hr.un
        have e1 : X.A.in1.units = X.A.units + 1 := rfl
        omega
  | @tup a ys ds ha hx =>
    cases ru
    obtain ⟨as, rd, _⟩ := reads_of ok (DataV.tup ha hx) (show RelV (.ref a) (.ref a) from rfl)
    obtain ⟨_, its, rv, o, e, hc, n, hdt, _⟩ := ok a _ ha
    rw [sh_tuple] at hz fin
    obtain ⟨bs, rm, ra⟩ := reprAllK_of ok hx rv (by simpa [PyData.showable] using hs) fun t ht => Nat.le_trans (tupleText_mem_le ht) hz
    have na : a ∉ bs := not_mem_of_deeper rd (by show PyData.depthAll ds < PyData.depthAll ds + 1; omega) rm
    have hdp' : PyData.depthAll ds + 1 ≤ 20 := hdp
    refine call_repr_slot (by have := hr.un; omega) ⟨_, e, hc⟩ PySem.F.slot_tuple_repr ?_
    refine call_tuple_reprK e hc hdt na (by simpa using ra) (g := []) hr.gd (fun b _ id v rest kw z => by simp at z) ?_ (fun _ _ e => e) (fun h' u tk hk => ⟨_, _, rfl, fin h' u tk hk⟩) hz
    show X.A.in1.units + _ < cLine
    have := hr.un
    have e1 : X.A.in1.units = X.A.units + 1 := rfl
    omega
  | @dict a kvs ps ha hk hv =>
    cases ru
    obtain ⟨as, rd, _⟩ := reads_of ok (DataV.dict ha hk hv) (show RelV (.ref a) (.ref a) from rfl)
    obtain ⟨_, hm, vs, rv, o, es, ep, e, hx, hdt, _, hp, _⟩ := ok a _ ha
    obtain ⟨rk, rvv⟩ := pairs_split hp rv
    rw [sh_dict] at hz fin
    obtain ⟨sh1, sh2⟩ := PyData.showableKv_split ps (by simpa only [PyData.showable] using hs)
    obtain ⟨b1, m1, k1⟩ := reprAllK_of ok hk rk sh1 fun t ht => by
      obtain ⟨q, hq, l⟩ := PyData.shownKv_key_le ps t ht
      exact Nat.le_trans l (Nat.le_trans (dictText_mem_le hq) hz)
    obtain ⟨b2, m2, k2⟩ := reprAllK_of ok hv rvv sh2 fun t ht => by
      obtain ⟨q, hq, l⟩ := PyData.shownKv_val_le ps t ht
      exact Nat.le_trans l (Nat.le_trans (dictText_mem_le hq) hz)
    have d1 := PyData.depthAll_keys_le ps
    have d2 := PyData.depthAll_vals_le ps
    have dd : (PyData.dict ps).depth = PyData.depthKv ps + 1 := by simp only [PyData.depth]
    have rm : ReadAtMost s.heap (PyData.depthKv ps) (b1 ++ b2) := (m1.mono d1).append (m2.mono d2)
    have na : a ∉ b1 ++ b2 := not_mem_of_deeper rd (by rw [dd]; omega) rm
    have en := ReprEntriesK.of_two es.toList _ _ (k1.more_le (fun b hb => List.mem_append_left b2 hb) d1) (k2.more_le (fun b hb => List.mem_append_right b1 hb) d2)
    rw [← PyData.shownKv_eq] at en
    rw [dd] at hdp
    refine call_repr_slot (by have := hr.un; omega) ⟨_, e, hx.1⟩ PySem.F.slot_dict_repr ?_
    refine call_dict_reprK e hx.1 hdt hm na en (g := []) hr.gd (fun b _ id v rest kw z => by simp at z) ?_ (fun _ _ e => e) (fun h' u tk hk => ⟨_, _, rfl, fin h' u tk hk⟩) hz
    show X.A.in1.units + _ < cLine
    have := hr.un
    have e1 : X.A.in1.units = X.A.units + 1 := rfl
    omega
  | _ => exact absurd (fun z => by cases z) hl
end
end L2

set_option Elab.async false
set_option linter.all false
set_option maxRecDepth 100000
set_option maxHeartbeats 400000
/-! ### repr of a dict whose keys are tuples -/
namespace L2
open PySem PySem.Spec PyProof.Rows
end L2
namespace My
open PySem L2
end My

set_option Elab.async false
set_option linter.all false
set_option maxRecDepth 100000
set_option maxHeartbeats 1000000
/-! ### min of a row whose things are compared by what lies in the heap -/
namespace L2
open PySem PySem.Spec PyProof.Rows PySem.W
end L2
namespace L2
open PySem PySem.Spec PyProof.Rows Srt
theorem seqI : ∀ ns ms : List Int, eqSeq (iv ns) (iv ms) = decide (ns = ms) := by
  intro ns ms
  unfold eqSeq
  by_cases e : ns = ms
  · subst e
    rw [decide_eq_true rfl]
    simp only [beq_self_eq_true, Bool.and_true, List.all_eq_true, List.mem_range]
    intro i hi
    have hi' : i < ns.length := by simpa using hi
    simp [hi', eqV]
  · rw [decide_eq_false e]
    by_cases l : ns.length = ms.length
    · refine Bool.and_eq_false_iff.mpr (.inl ?_)
      rw [List.all_eq_false]
      have : ∃ i, i < ns.length ∧ ns[i]? ≠ ms[i]? := by
        refine Classical.byContradiction fun z => e (List.ext_getElem? fun i => ?_)
        by_cases hi : i < ns.length
        · exact Classical.byContradiction fun q => z ⟨i, hi, q⟩
        · rw [List.getElem?_eq_none (by omega), List.getElem?_eq_none (by omega)]
      obtain ⟨i, hi, q⟩ := this
      have hm : i < ms.length := by omega
      refine ⟨i, by simp; omega, ?_⟩
      have q' : ns[i] ≠ ms[i] := by simpa [hi, hm] using q
      simp [hi, hm, eqV, q']
    · refine Bool.and_eq_false_iff.mpr (.inr ?_)
      simpa using l
end L2

set_option Elab.async false
set_option linter.all false
set_option maxRecDepth 100000
set_option maxHeartbeats 4000000
/-! ### a dict comprehension whose own names are seen by another one within it -/
namespace L2
open PySem PySem.Spec PyProof.Rows
end L2
namespace L2
open PySem
end L2

set_option Elab.async false
set_option linter.all false
set_option maxRecDepth 100000
set_option maxHeartbeats 4000000
/-! ### a def called by its name in a try -/
namespace L2
open PySem PySem.Spec PyProof.Rows
def xCall (sp : Sp) (t : TA) : TEX := fun σ H Q EX => t σ H fun vs H1 => sp vs H1 Q (fun c _ H' => ∃ C, c = .ref C ∧ EX C H')
theorem pex_call {X : Cx} {k : Nat} {x : Str} {ps : List Str} {sp : Sp} {p pos : Pos} {e : Expr} {es : List Expr} {t : TA} (c : Cal1 X.prog X.w X.K X.mg X.base x ps k sp) (hr : Room k X.A) (ha : PA X.nox (e :: es) t) (hg : Gl X x := by rfl) (hd : (x == ("__debug__" : Str)) = false := by decide)
    (he : starEach (e :: es) X.env = (false, eval e X.env) :: starEach es X.env := by rfl) (hpl : (backTo pos (starEach es X.env)).any (·.1) = false := by rfl) :
    PEX X (.Call (.Name x p) (e :: es) [] pos) (xCall sp t) := by
  intro pins s σ H Q EX I hs
  obtain ⟨f, fd, F, m, kp, hb⟩ := c.ex
  have hn := pe_glob (X := X.nox) (pos := p) (v := .ref f) hg m rfl hd
  refine wpAny_Call_Name_kw (wpAny_mono (hn pins s σ H (fun v H' => v = .ref f ∧ H' = H) (I.wish _) ⟨rfl, rfl⟩) (fun u s1 h1 => ?_) fun _ _ z => False.elim z)
  obtain ⟨v, H1, I1, r, rfl, rfl⟩ := h1
  obtain rfl : u = Value.ref f := r
  have I1 := I1.unwish
  refine PySem.W.callWith_K (h₀ := X.base) I1.ok.mod.kin kp (wpAny_mono (ha pos pins s1 σ _ _ (I1.wish _) hs) (fun us s2 h2 => ?_) fun _ _ z => False.elim z) he hpl
  obtain ⟨vs, H2, I2, r, q⟩ := h2
  have I2 := I2.unwish
  refine ⟨I2.kIn, ?_⟩
  have hl : us.length = ps.length := by rw [← r.length]; exact F.len _ _ _ _ q
  have hbt := hb s2 us I2.kIn (by rw [List.append_nil]; exact hl)
  rw [List.append_nil] at hbt
  refine wpAny_call (codeAny_mono (F.run X.A X.stack s2 H2 ⟨us, []⟩ us vs Q _ hr I2.env0 hbt r q) fun r s' hz => ?_)
  cases r with
  | error e =>
    obtain ⟨y, C, H', rfl, F, C2, ec, hx⟩ := hz
    cases ec
    exact ⟨y, C, σ, _, H', s2, rfl, I2, F, hx⟩
  | ok fl =>
    cases fl with
    | ret u => exact I2.after hz
    | next => exact False.elim hz
    | brk => exact False.elim hz
    | cont => exact False.elim hz
end L2

set_option Elab.async false
set_option linter.all false
set_option maxRecDepth 100000
set_option maxHeartbeats 4000000
namespace My
open PySem L2 MA
def top (i : Nat) : Stmt := PySem.Challenge.pw_emptierbox_k26_pairings_known.main.body.getD i (.Pass ⟨0, 0, 0, 0⟩)
abbrev s_is_whole : Stmt := top 4
theorem sc_is_whole : FnScope ["thing"] ["thing"] (defScope s_is_whole) := ⟨rfl, rfl, rfl, by decide +kernel, rfl, by decide +kernel, by decide +kernel⟩
abbrev s_measure : Stmt := top 6
theorem sc_measure : FnScope ["a", "b"] ["a", "b"] (defScope s_measure) := ⟨rfl, rfl, rfl, by decide +kernel, rfl, by decide +kernel, by decide +kernel⟩
abbrev s_is_share : Stmt := top 7
theorem sc_is_share : FnScope ["thing", "top", "bottom"] ["thing"] (defScope s_is_share) := ⟨rfl, rfl, rfl, by decide +kernel, rfl, by decide +kernel, by decide +kernel⟩
abbrev s_plus : Stmt := top 8
theorem sc_plus : FnScope ["a", "b", "common", "top", "rest"] ["a", "b"] (defScope s_plus) := ⟨rfl, rfl, rfl, by decide +kernel, rfl, by decide +kernel, by decide +kernel⟩
abbrev s_total : Stmt := top 9
theorem sc_total : FnScope ["some", "found", "one"] ["some"] (defScope s_total) := ⟨rfl, rfl, rfl, by decide +kernel, rfl, by decide +kernel, by decide +kernel⟩
abbrev s_ask_as_many : Stmt := top 11
theorem sc_ask_as_many : FnScope ["one", "other"] ["one", "other"] (defScope s_ask_as_many) := ⟨rfl, rfl, rfl, by decide +kernel, rfl, by decide +kernel, by decide +kernel⟩
abbrev s_is_square : Stmt := top 13
theorem sc_is_square : FnScope ["thing", "n"] ["thing", "n"] (defScope s_is_square) := ⟨rfl, rfl, rfl, by decide +kernel, rfl, by decide +kernel, by decide +kernel⟩
abbrev s_lets_pairing : Stmt := top 14
theorem sc_lets_pairing : FnScope ["one", "other", "thing", "n", "rows", "columns"] ["one", "other", "thing"] (defScope s_lets_pairing) := ⟨rfl, rfl, rfl, by decide +kernel, rfl, by decide +kernel, by decide +kernel⟩
abbrev s_l_pen : Stmt := top 16
theorem sc_l_pen : FnScope ["_law_script"] ["_law_script"] (defScope s_l_pen) := ⟨rfl, rfl, rfl, by decide +kernel, rfl, by decide +kernel, by decide +kernel⟩
abbrev s_l_take : Stmt := top 17
theorem sc_l_take : FnScope ["_law_pen_here", "_law_many", "_law_turns", "_law_cell", "_law_prime", "_law_mixed_cell", "_law_digit"] ["_law_pen_here", "_law_many"] (defScope s_l_take) := ⟨rfl, rfl, rfl, by decide +kernel, rfl, by decide +kernel, by decide +kernel⟩
abbrev s_l_share : Stmt := top 18
theorem sc_l_share : FnScope ["_law_top", "_law_bottom", "_law_one", "_law_rest"] ["_law_top", "_law_bottom"] (defScope s_l_share) := ⟨rfl, rfl, rfl, by decide +kernel, rfl, by decide +kernel, by decide +kernel⟩
abbrev s_l_sum : Stmt := top 19
theorem sc_l_sum : FnScope ["_law_some", "_law_top", "_law_bottom", "_law_one"] ["_law_some"] (defScope s_l_sum) := ⟨rfl, rfl, rfl, by decide +kernel, rfl, by decide +kernel, by decide +kernel⟩
abbrev s_l_table : Stmt := top 20
theorem sc_l_table : FnScope ["_law_pen_here", "_law_boxes", "_law_most", "_law_spot", "_law_found"] ["_law_pen_here", "_law_boxes"] (defScope s_l_table) := ⟨rfl, rfl, rfl, by decide +kernel, rfl, by decide +kernel, by decide +kernel⟩
abbrev s_l_shares : Stmt := top 21
theorem sc_l_shares : FnScope ["_law_table_here", "_law_whole"] ["_law_table_here", "_law_whole"] (defScope s_l_shares) := ⟨rfl, rfl, rfl, by decide +kernel, rfl, by decide +kernel, by decide +kernel⟩
abbrev s_l_is_share : Stmt := top 22
theorem sc_l_is_share : FnScope ["_law_thing", "_law_part"] ["_law_thing"] (defScope s_l_is_share) := ⟨rfl, rfl, rfl, by decide +kernel, rfl, by decide +kernel, by decide +kernel⟩
abbrev s_l_is_pairing : Stmt := top 23
theorem sc_l_is_pairing : FnScope ["_law_one", "_law_other", "_law_thing", "_law_line", "_law_i"] ["_law_one", "_law_other", "_law_thing"] (defScope s_l_is_pairing) := ⟨rfl, rfl, rfl, by decide +kernel, rfl, by decide +kernel, by decide +kernel⟩
abbrev s_l_shifted : Stmt := top 24
theorem sc_l_shifted : FnScope ["_law_pen_here", "_law_table_here", "_law_spoil", "_law_boxes", "_law_found", "_law_i", "_law_j", "_law_far", "_law_wide", "_law_much", "_law_changes", "_law_row", "_law_column", "_law_more"] ["_law_pen_here", "_law_table_here", "_law_spoil"] (defScope s_l_shifted) := ⟨rfl, rfl, rfl, by decide +kernel, rfl, by decide +kernel, by decide +kernel⟩
abbrev s_l_put : Stmt := top 25
theorem sc_l_put : FnScope ["_law_some", "_law_at", "_law_thing"] ["_law_some", "_law_at", "_law_thing"] (defScope s_l_put) := ⟨rfl, rfl, rfl, by decide +kernel, rfl, by decide +kernel, by decide +kernel⟩
abbrev s_l_odd_share : Stmt := top 26
theorem sc_l_odd_share : FnScope ["_law_pen_here", "_law_part", "_law_some", "_law_top", "_law_bottom"] ["_law_pen_here", "_law_part"] (defScope s_l_odd_share) := ⟨rfl, rfl, rfl, by decide +kernel, rfl, by decide +kernel, by decide +kernel⟩
abbrev s_l_odd : Stmt := top 27
theorem sc_l_odd : FnScope ["_law_pen_here", "_law_thing", "_law_way", "_law_at", "_law_spot", "_law_line", "_law_turned", "_law_some", "_law_lines"] ["_law_pen_here", "_law_thing"] (defScope s_l_odd) := ⟨rfl, rfl, rfl, by decide +kernel, rfl, by decide +kernel, by decide +kernel⟩
abbrev s_l_told : Stmt := top 28
theorem sc_l_told : FnScope ["_law_one", "_law_other", "_law_thing", "_law_found", "_law_caught", "e"] ["_law_one", "_law_other", "_law_thing"] (defScope s_l_told) := ⟨rfl, rfl, rfl, by decide +kernel, rfl, by decide +kernel, by decide +kernel⟩
abbrev s_law : Stmt := top 29
theorem sc_law : FnScope ["_law_script", "_law_pen_here", "_law_turns", "_law_boxes", "_law_table_here", "_law_whole", "_law_one", "_law_other", "_law_good", "_law_some", "_law_k", "_law_thing", "_law_wide", "_law_spoil", "_law_kept", "_law_told_here"] ["_law_script"] (defScope s_law) := ⟨rfl, rfl, rfl, by decide +kernel, rfl, by decide +kernel, by decide +kernel⟩

section
variable {P : Program} {w : World} {K : PySem.W.Frag} {mg : Str → Option Value} {base : Heap}
theorem look_len {ds : List PyData} (h : ds.length ≠ 2) : lookD (.tuple ds) = false := by
  match ds, h with
  | [], _ => rfl
  | [_], _ => simp [lookD]
  | [_, _], h => exact absurd rfl h
  | _ :: _ :: _ :: _, _ => simp [lookD]
theorem two_data {H : Hp} {xs : List V} {ds : List PyData} (h : DataL H xs ds) (hl : xs.length = 2) : ∃ x1 x2 d1 d2, xs = [x1, x2] ∧ ds = [d1, d2] ∧ DataV H x1 d1 ∧ DataV H x2 d2 := by
  match h, hl with
  | .cons h1 (.cons h2 .nil), _ => exact ⟨_, _, _, _, rfl, rfl, h1, h2⟩
theorem len_ne {n : Nat} {m : Int} (c : (!decide (V.int (n : Int) = V.int m)) = true) : (n : Int) ≠ m := by
  intro h
  rw [h] at c
  simp at c
theorem len_eq {n m : Nat} (c : ¬ (!decide (V.int (n : Int) = V.int (m : Int))) = true) : n = m := by
  have : V.int (n : Int) = V.int (m : Int) := by simpa using c
  have := V.int.inj this
  omega
theorem ok_measure (T : Txt mg) (F : FunAt K mg "measure" ["a", "b"] s_measure) : Cal P w K mg base "measure" ["a", "b"] 1 spMeasure := by
  have S := sc_measure
  refine F.cal sc_measure (fun vs H Q E h => ?_) (fun f cdv A outer s H vs Q E hr h => ?_)
  · obtain ⟨a, b, rfl, _⟩ := h; rfl
  obtain ⟨a, b, rfl, q⟩ := h
  refine ⟨_, (@pss_cons _ _ _ _ _ (@ps_par _ _ (0) (1) _ _ _ _ _ _ _ _ _ _ _ (by rfl) (by exact S.nd) (by rfl) (by rfl) (by decide) (by rfl) (by rfl) (@pa_consN _ _ _ _ _ (@pe_callB _ _ _ _ _ _ _ _ _ call_abs (by rfl) (by exact T.z_abs) (by exact bt_abs) (@pa_consN _ _ _ _ _ (pv 0) pa_nil (by first|rfl|decide|exact .inl rfl|exact .inr rfl|(intros; rfl))) (by first|rfl|decide|exact .inl rfl|exact .inr rfl|(intros; rfl)) (by first|rfl|decide|exact .inl rfl|exact .inr rfl|(intros; rfl)) (by first|rfl|decide|exact .inl rfl|exact .inr rfl|(intros; rfl)) (by first|rfl|decide|exact .inl rfl|exact .inr rfl|(intros; rfl))) (@pa_consN _ _ _ _ _ (@pe_callB _ _ _ _ _ _ _ _ _ call_abs (by rfl) (by exact T.z_abs) (by exact bt_abs) (@pa_consN _ _ _ _ _ (pv 1) pa_nil (by first|rfl|decide|exact .inl rfl|exact .inr rfl|(intros; rfl))) (by first|rfl|decide|exact .inl rfl|exact .inr rfl|(intros; rfl)) (by first|rfl|decide|exact .inl rfl|exact .inr rfl|(intros; rfl)) (by first|rfl|decide|exact .inl rfl|exact .inr rfl|(intros; rfl)) (by first|rfl|decide|exact .inl rfl|exact .inr rfl|(intros; rfl))) pa_nil (by first|rfl|decide|exact .inl rfl|exact .inr rfl|(intros; rfl))) (by first|rfl|decide|exact .inl rfl|exact .inr rfl|(intros; rfl))) (by rfl) (by first|rfl|decide|exact .inl rfl|exact .inr rfl|(intros; rfl))) (@pss_cons _ _ _ _ _ (@ps_while _ _ _ _ _ _ (by exact PassesOwn.never) (@pt_cmpR _ _ _ _ _ _ _ _ op_ne (pv 1) pe_int (by exact (nomark _))) (@pss_one _ _ _ (@ps_par _ _ (0) (1) _ _ _ _ _ _ _ _ _ _ _ (by rfl) (by exact S.nd) (by rfl) (by rfl) (by decide) (by rfl) (by rfl) (@pa_consN _ _ _ _ _ (pv 1) (@pa_consN _ _ _ _ _ (@pe_op _ _ _ _ _ _ _ _ op_mod (pv 0) (pv 1)) pa_nil (by first|rfl|decide|exact .inl rfl|exact .inr rfl|(intros; rfl))) (by first|rfl|decide|exact .inl rfl|exact .inr rfl|(intros; rfl))) (by rfl) (by first|rfl|decide|exact .inl rfl|exact .inr rfl|(intros; rfl))))) (@pss_one _ _ _ (@ps_ret _ _ _ _ (pv 0))))), ?_⟩
  refine ⟨_, rfl, _, rfl, _, rfl, _, rfl, _, _, rfl, ?_⟩
  refine while_by (fun σ H' => H' = H ∧ ∃ x y : Int, σ = [some (.int x), some (.int y)] ∧ 0 ≤ x ∧ 0 ≤ y ∧ gI x y = gI a b) (fun σ _ => match σ with | [_, some (.int y)] => y.toNat | _ => 0) ⟨rfl, _, _, rfl, ?_, ?_, ?_⟩ ?_ ?_
  · split <;> omega
  · split <;> omega
  · exact gI_abs a b
  · rintro σ H' ⟨rfl, x, y, rfl, hx, hy, hg⟩
    refine ⟨_, rfl, rfl, _, rfl, ?_⟩
    refine ite2 (fun c => ?_) (fun c => ?_)
    · have hy0 : 0 < y := by
        have : ¬ (V.int y = V.int 0) := by simpa using c
        have : y ≠ 0 := fun e => this (by rw [e])
        omega
      refine ⟨_, rfl, _, rfl, _, rfl, _, _, rfl, rfl, hy0, _, _, rfl, ?_⟩
      have hm := Int.emod_nonneg x (show y ≠ 0 by omega)
      have hl := Int.emod_lt_of_pos x hy0
      refine ⟨⟨rfl, _, _, rfl, hy, hm, ?_⟩, ?_⟩
      · rw [gI_step hx]; exact hg
      · show (x % y).toNat < y.toNat
        omega
    · have hy0 : y = 0 := by
        have : V.int y = V.int 0 := by simpa using c
        exact V.int.inj this
      subst hy0
      refine ⟨_, rfl, ?_⟩
      rw [gI_zero hx] at hg
      rw [hg]
      exact q
  · rintro σ H' Q1 Q2 hQ ⟨v, e, h1, b1, e2, h2⟩
    exact ⟨v, e, h1, b1, e2, hQ _ _ h2⟩
theorem ok_plus (C_measure : Cal P w K mg base "measure" ["a", "b"] 1 spMeasure) (F : FunAt K mg "plus" ["a", "b"] s_plus) : Cal P w K mg base "plus" ["a", "b"] 2 spPlus := by
  have S := sc_plus
  refine F.cal sc_plus (fun vs H Q E h => ?_) (fun f cdv A outer s H vs Q E hr h => ?_)
  · obtain ⟨a, b, _, _, rfl, _⟩ := h; rfl
  obtain ⟨_, _, q, r, rfl, ⟨pa, rfl, ha⟩, ⟨pb, rfl, hb⟩, ⟨b1, b2⟩, ⟨b3, b4⟩, _, k⟩ := h
  refine ⟨_, (@pss_cons _ _ _ _ _ (@ps_set _ _ (2) _ _ _ _ (by exact S.nd) (by rfl) (by first | exact Or.inl rfl | exact Or.inr rfl) (@cc _ _ _ _ _ _ _ _ _ _ (by exact C_measure) (by exact (hr.mono (by decide))) (@pa_consN _ _ _ _ _ (@pe_ix _ _ _ _ _ _ _ ix_tup (pv 0) pe_int (by exact (fun _ _ => rfl))) (@pa_consN _ _ _ _ _ (@pe_ix _ _ _ _ _ _ _ ix_tup (pv 1) pe_int (by exact (fun _ _ => rfl))) pa_nil (by first|rfl|decide|exact .inl rfl|exact .inr rfl|(intros; rfl))) (by first|rfl|decide|exact .inl rfl|exact .inr rfl|(intros; rfl))) (by first|rfl|decide|exact .inl rfl|exact .inr rfl|(intros; rfl)) (by first|rfl|decide|exact .inl rfl|exact .inr rfl|(intros; rfl)) (by first|rfl|decide|exact .inl rfl|exact .inr rfl|(intros; rfl)) (by first|rfl|decide|exact .inl rfl|exact .inr rfl|(intros; rfl))) (by first|rfl|decide|exact .inl rfl|exact .inr rfl|(intros; rfl)) (by first|rfl|decide|exact .inl rfl|exact .inr rfl|(intros; rfl))) (@pss_cons _ _ _ _ _ (@ps_set _ _ (3) _ _ _ _ (by exact S.nd) (by rfl) (by first | exact Or.inl rfl | exact Or.inr rfl) (@pe_op _ _ _ _ _ _ _ _ op_add (@pe_op _ _ _ _ _ _ _ _ op_mulB (@pe_ix _ _ _ _ _ _ _ ix_tup (pv 0) pe_int (by exact (fun _ _ => rfl))) (@pe_op _ _ _ _ _ _ _ _ op_fdivB (@pe_ix _ _ _ _ _ _ _ ix_tup (pv 1) pe_int (by exact (fun _ _ => rfl))) (pv 2))) (@pe_op _ _ _ _ _ _ _ _ op_mulB (@pe_ix _ _ _ _ _ _ _ ix_tup (pv 1) pe_int (by exact (fun _ _ => rfl))) (@pe_op _ _ _ _ _ _ _ _ op_fdivB (@pe_ix _ _ _ _ _ _ _ ix_tup (pv 0) pe_int (by exact (fun _ _ => rfl))) (pv 2)))) (by first|rfl|decide|exact .inl rfl|exact .inr rfl|(intros; rfl)) (by first|rfl|decide|exact .inl rfl|exact .inr rfl|(intros; rfl))) (@pss_cons _ _ _ _ _ (@ps_set _ _ (4) _ _ _ _ (by exact S.nd) (by rfl) (by first | exact Or.inl rfl | exact Or.inr rfl) (@cc _ _ _ _ _ _ _ _ _ _ (by exact C_measure) (by exact (hr.mono (by decide))) (@pa_consN _ _ _ _ _ (pv 3) (@pa_consN _ _ _ _ _ (pv 2) pa_nil (by first|rfl|decide|exact .inl rfl|exact .inr rfl|(intros; rfl))) (by first|rfl|decide|exact .inl rfl|exact .inr rfl|(intros; rfl))) (by first|rfl|decide|exact .inl rfl|exact .inr rfl|(intros; rfl)) (by first|rfl|decide|exact .inl rfl|exact .inr rfl|(intros; rfl)) (by first|rfl|decide|exact .inl rfl|exact .inr rfl|(intros; rfl)) (by first|rfl|decide|exact .inl rfl|exact .inr rfl|(intros; rfl))) (by first|rfl|decide|exact .inl rfl|exact .inr rfl|(intros; rfl)) (by first|rfl|decide|exact .inl rfl|exact .inr rfl|(intros; rfl))) (@pss_one _ _ _ (@ps_ret _ _ _ _ (@pe_tup _ _ _ _ _ (@pa_consN _ _ _ _ _ (@pe_op _ _ _ _ _ _ _ _ op_fdivB (pv 3) (pv 4)) (@pa_consN _ _ _ _ _ (@pe_op _ _ _ _ _ _ _ _ op_mulB (@pe_op _ _ _ _ _ _ _ _ op_fdivB (@pe_ix _ _ _ _ _ _ _ ix_tup (pv 0) pe_int (by exact (fun _ _ => rfl))) (pv 2)) (@pe_op _ _ _ _ _ _ _ _ op_fdivB (@pe_ix _ _ _ _ _ _ _ ix_tup (pv 1) pe_int (by exact (fun _ _ => rfl))) (pv 4))) pa_nil (by first|rfl|decide|exact .inl rfl|exact .inr rfl|(intros; rfl))) (by first|rfl|decide|exact .inl rfl|exact .inr rfl|(intros; rfl))))))))), ?_⟩
  have c0 : 0 < gI q.den r.den := gI_pos_left (den_ne q)
  have cb : Bt 3000 (gI q.den r.den) := b2.gl (den_ne q)
  refine ⟨_, rfl, pa, _, _, _, rfl, rfl, SqT.of ha, rfl, _, rfl, pb, _, _, _, rfl, rfl, SqT.of hb, rfl, _, _, rfl, ?_⟩
  refine ⟨_, rfl, pa, _, _, _, rfl, rfl, SqT.of ha, rfl, _, rfl, pb, _, _, _, rfl, rfl, SqT.of hb, rfl, _, rfl, _, _, rfl, rfl, ⟨c0, cb.mono (by decide)⟩, _, _, rfl, rfl, ⟨b1.mono (by decide), (b4.ediv c0).mono (by decide)⟩,
    _, rfl, pb, _, _, _, rfl, rfl, SqT.of hb, rfl, _, rfl, pa, _, _, _, rfl, rfl, SqT.of ha, rfl, _, rfl, _, _, rfl, rfl, ⟨c0, cb.mono (by decide)⟩, _, _, rfl, rfl, ⟨b3.mono (by decide), (b2.ediv c0).mono (by decide)⟩, _, _, rfl, rfl, ?_⟩
  refine ⟨_, rfl, _, rfl, _, _, rfl, ?_⟩
  have r0 : 0 < gI (q.num * ((r.den : Int) / gI q.den r.den) + r.num * ((q.den : Int) / gI q.den r.den)) (gI q.den r.den) := gI_pos_right (by omega)
  have rb : Bt 8000 (gI (q.num * ((r.den : Int) / gI q.den r.den) + r.num * ((q.den : Int) / gI q.den r.den)) (gI q.den r.den)) := (cb.gr (by omega)).mono (by decide)
  refine ⟨_, rfl, _, rfl, _, _, rfl, rfl, ⟨r0, rb⟩, _, rfl, pa, _, _, _, rfl, rfl, SqT.of ha, rfl, _, rfl, _, _, rfl, rfl, ⟨c0, cb.mono (by decide)⟩,
    _, rfl, pb, _, _, _, rfl, rfl, SqT.of hb, rfl, _, rfl, _, _, rfl, rfl, ⟨r0, rb⟩, _, _, rfl, rfl, ⟨(b2.ediv c0).mono (by decide), (b4.ediv r0).mono (by decide)⟩, (by show 2 ≤ sizeLine; decide), fun p hp => ?_⟩
  have e := plus_ok q r _ _ _ rfl rfl rfl
  exact k _ _ (same_new hp _) ⟨p, rfl, by rw [upd_same]; dsimp only; rw [e.1, e.2]⟩
theorem ok_total (C_plus : Cal P w K mg base "plus" ["a", "b"] 2 spPlus) (F : FunAt K mg "total" ["some"] s_total) : Cal P w K mg base "total" ["some"] 3 spTotal := by
  have S := sc_total
  refine F.cal sc_total (fun vs H Q E h => ?_) (fun f cdv A outer s H vs Q E hr h => ?_)
  · obtain ⟨l, _, _, rfl, _⟩ := h; rfl
  obtain ⟨l, xs, qs, rfl, hl, hs, hb, hp, k⟩ := h
  refine ⟨_, (@pss_cons _ _ _ _ _ (@ps_set _ _ (1) _ _ _ _ (by exact S.nd) (by rfl) (by first | exact Or.inl rfl | exact Or.inr rfl) (@pe_tup _ _ _ _ _ (@pa_consN _ _ _ _ _ pe_int (@pa_consN _ _ _ _ _ pe_int pa_nil (by first|rfl|decide|exact .inl rfl|exact .inr rfl|(intros; rfl))) (by first|rfl|decide|exact .inl rfl|exact .inr rfl|(intros; rfl)))) (by first|rfl|decide|exact .inl rfl|exact .inr rfl|(intros; rfl)) (by first|rfl|decide|exact .inl rfl|exact .inr rfl|(intros; rfl))) (@pss_cons _ _ _ _ _ (@ps_for _ _ _ _ _ _ _ _ (by exact PassesOwn.never) (by rfl) (@pi_list _ _ _ _ (pv 0)) (@pg_name _ _ (2) _ (by exact S.nd) (by rfl) (by first | exact Or.inl rfl | exact Or.inr rfl) (by first|rfl|decide|exact .inl rfl|exact .inr rfl|(intros; rfl))) (@pss_one _ _ _ (@ps_set _ _ (1) _ _ _ _ (by exact S.nd) (by rfl) (by first | exact Or.inl rfl | exact Or.inr rfl) (@cc _ _ _ _ _ _ _ _ _ _ (by exact C_plus) (by exact (hr.mono (by decide))) (@pa_consN _ _ _ _ _ (pv 1) (@pa_consN _ _ _ _ _ (pv 2) pa_nil (by first|rfl|decide|exact .inl rfl|exact .inr rfl|(intros; rfl))) (by first|rfl|decide|exact .inl rfl|exact .inr rfl|(intros; rfl))) (by first|rfl|decide|exact .inl rfl|exact .inr rfl|(intros; rfl)) (by first|rfl|decide|exact .inl rfl|exact .inr rfl|(intros; rfl)) (by first|rfl|decide|exact .inl rfl|exact .inr rfl|(intros; rfl)) (by first|rfl|decide|exact .inl rfl|exact .inr rfl|(intros; rfl))) (by first|rfl|decide|exact .inl rfl|exact .inr rfl|(intros; rfl)) (by first|rfl|decide|exact .inl rfl|exact .inr rfl|(intros; rfl)))) (by first|rfl|decide|exact .inl rfl|exact .inr rfl|(intros; rfl))) (@pss_one _ _ _ (@ps_ret _ _ _ _ (pv 1))))), ?_⟩
  refine ⟨(by show 2 ≤ sizeLine; decide), fun p hp0 => ?_⟩
  have s0 := same_new hp0 (.tup [.int 0, .int 1])
  refine ⟨_, rfl, l, rfl, ⟨_, SqL.of (s0 _ _ hl)⟩, for_list (xs := xs) (fun i σ H2 => ∃ (v : V) (u : Option V), σ = [some (.ref l), some v, u] ∧ Same H H2 ∧ ShAt H2 v ((qs.take i).foldl (· + ·) 0))
    ⟨_, _, rfl, s0, p, rfl, upd_same⟩ (fun i σ H2 _ ⟨_, _, _, s2, _⟩ => SqL.of (s2 _ _ hl)) ?_ ?_⟩
  · rintro i y σ H2 hi ⟨v, u, rfl, s2, hv⟩
    obtain ⟨q, hq, hy⟩ := Paired.at' hs hi
    refine ⟨_, rfl, _, rfl, _, _, _, q, rfl, hv, hy.same s2, hp i, hb q (List.mem_of_getElem? hq), trivial, fun v' H3 s3 hv' => ?_⟩
    refine ⟨_, _, rfl, s2.trans s3, ?_⟩
    rw [fold_take hq]
    exact hv'
  · rintro σ H2 ⟨v, u, rfl, s2, hv⟩
    refine ⟨_, rfl, ?_⟩
    have e : qs.length = xs.length := (Paired.length hs).symm
    rw [← e, List.take_length] at hv
    exact k _ _ s2 hv
theorem ok_wholeV (T : Txt2 mg) (F : FunAt K mg "is_whole" ["thing"] s_is_whole) : Cal P w K mg base "is_whole" ["thing"] 1 spWholeV := by
  have S := sc_is_whole
  refine F.cal sc_is_whole (fun vs H Q E h => ?_) (fun f cdv A outer s H vs Q E hr h => ?_)
  · obtain ⟨a, d, rfl, _⟩ := h; rfl
  obtain ⟨a, d, rfl, hd, k⟩ := h
  refine ⟨_, (@pss_one _ _ _ (@ps_ret _ _ _ _ (@pe_and _ _ _ _ _ _ _ (@pe_callB _ _ _ _ _ _ _ _ _ call_isi (by rfl) (by exact T.z_isinstance) (by exact bt_isinstance) (@pa_consN _ _ _ _ _ (pv 0) (@pa_consN _ _ _ _ _ (@pe_bltn _ _ (.ty "int") _ _ (by rfl) (by exact T.z_int) (by exact bt_int) (by rfl) (by first|rfl|decide|exact .inl rfl|exact .inr rfl|(intros; rfl)) (by first|rfl|decide|exact .inl rfl|exact .inr rfl|(intros; rfl))) pa_nil (by first|rfl|decide|exact .inl rfl|exact .inr rfl|(intros; rfl))) (by first|rfl|decide|exact .inl rfl|exact .inr rfl|(intros; rfl))) (by first|rfl|decide|exact .inl rfl|exact .inr rfl|(intros; rfl)) (by first|rfl|decide|exact .inl rfl|exact .inr rfl|(intros; rfl)) (by first|rfl|decide|exact .inl rfl|exact .inr rfl|(intros; rfl)) (by first|rfl|decide|exact .inl rfl|exact .inr rfl|(intros; rfl))) (@pe_one _ _ _ _ _ (@pe_not _ _ _ _ (@pe_callB _ _ _ _ _ _ _ _ _ call_isi (by rfl) (by exact T.z_isinstance) (by exact bt_isinstance) (@pa_consN _ _ _ _ _ (pv 0) (@pa_consN _ _ _ _ _ (@pe_bltn _ _ (.ty "bool") _ _ (by rfl) (by exact T.z_bool) (by exact bt_bool) (by rfl) (by first|rfl|decide|exact .inl rfl|exact .inr rfl|(intros; rfl)) (by first|rfl|decide|exact .inl rfl|exact .inr rfl|(intros; rfl))) pa_nil (by first|rfl|decide|exact .inl rfl|exact .inr rfl|(intros; rfl))) (by first|rfl|decide|exact .inl rfl|exact .inr rfl|(intros; rfl))) (by first|rfl|decide|exact .inl rfl|exact .inr rfl|(intros; rfl)) (by first|rfl|decide|exact .inl rfl|exact .inr rfl|(intros; rfl)) (by first|rfl|decide|exact .inl rfl|exact .inr rfl|(intros; rfl)) (by first|rfl|decide|exact .inl rfl|exact .inr rfl|(intros; rfl)))))))), ?_⟩
  obtain ⟨t, ty, e1, e2, _, _⟩ := tyOf (K := K) hd
  refine ⟨_, rfl, _, _, _, _, rfl, ty, e1, _, rfl, ?_⟩
  cases d with
  | int i => exact iteT ⟨_, rfl, _, _, _, _, rfl, ty, e2, _, rfl, k⟩
  | bool b => exact iteT ⟨_, rfl, _, _, _, _, rfl, ty, e2, _, rfl, k⟩
  | _ => exact iteF k
theorem ok_isshareV (T : Txt2 mg) (C_is_whole : Cal P w K mg base "is_whole" ["thing"] 1 spWholeV) (C_measure : Cal P w K mg base "measure" ["a", "b"] 1 spMeasure) (F : FunAt K mg "is_share" ["thing"] s_is_share) : Cal P w K mg base "is_share" ["thing"] 2 spLookV := by
  have S := sc_is_share
  refine F.cal sc_is_share (fun vs H Q E h => ?_) (fun f cdv A outer s H vs Q E hr h => ?_)
  · obtain ⟨a, d, rfl, _⟩ := h; rfl
  obtain ⟨a, d, rfl, hd, k⟩ := h
  refine ⟨_, (@pss_cons _ _ _ _ _ (@ps_if _ _ _ _ _ _ _ _ (@PW.pt _ _ _ (@pw_or _ _ _ _ _ _ _ (@pt_not _ _ _ _ (@pt_val _ _ _ (@pe_callB _ _ _ _ _ _ _ _ _ call_isi (by rfl) (by exact T.z_isinstance) (by exact bt_isinstance) (@pa_consN _ _ _ _ _ (pv 0) (@pa_consN _ _ _ _ _ (@pe_bltn _ _ (.ty "tuple") _ _ (by rfl) (by exact T.z_tuple) (by exact bt_tuple) (by rfl) (by first|rfl|decide|exact .inl rfl|exact .inr rfl|(intros; rfl)) (by first|rfl|decide|exact .inl rfl|exact .inr rfl|(intros; rfl))) pa_nil (by first|rfl|decide|exact .inl rfl|exact .inr rfl|(intros; rfl))) (by first|rfl|decide|exact .inl rfl|exact .inr rfl|(intros; rfl))) (by first|rfl|decide|exact .inl rfl|exact .inr rfl|(intros; rfl)) (by first|rfl|decide|exact .inl rfl|exact .inr rfl|(intros; rfl)) (by first|rfl|decide|exact .inl rfl|exact .inr rfl|(intros; rfl)) (by first|rfl|decide|exact .inl rfl|exact .inr rfl|(intros; rfl))) (by first|rfl|decide|exact .inl rfl|exact .inr rfl|(intros; rfl)))) (@pw_or1 _ _ _ _ (@pt_cmpR _ _ _ _ _ _ _ _ op_ne (@pe_callB _ _ _ _ _ _ _ _ _ call_len_seq (by rfl) (by exact T.z_len) (by exact bt_len) (@pa_consN _ _ _ _ _ (pv 0) pa_nil (by first|rfl|decide|exact .inl rfl|exact .inr rfl|(intros; rfl))) (by first|rfl|decide|exact .inl rfl|exact .inr rfl|(intros; rfl)) (by first|rfl|decide|exact .inl rfl|exact .inr rfl|(intros; rfl)) (by first|rfl|decide|exact .inl rfl|exact .inr rfl|(intros; rfl)) (by first|rfl|decide|exact .inl rfl|exact .inr rfl|(intros; rfl))) pe_int (by exact (nomark _)))))) (@pss_one _ _ _ (@ps_ret _ _ _ _ pe_bl)) pss_nil) (@pss_cons _ _ _ _ _ (@ps_asg _ _ _ _ _ _ (pv 0) (@pg_tup _ _ _ _ _ _ (by rfl) (@pgs_cons _ _ _ _ _ (@pg_name _ _ (1) _ (by exact S.nd) (by rfl) (by first | exact Or.inl rfl | exact Or.inr rfl) (by first|rfl|decide|exact .inl rfl|exact .inr rfl|(intros; rfl))) (@pgs_cons _ _ _ _ _ (@pg_name _ _ (2) _ (by exact S.nd) (by rfl) (by first | exact Or.inl rfl | exact Or.inr rfl) (by first|rfl|decide|exact .inl rfl|exact .inr rfl|(intros; rfl))) pgs_nil (by first|rfl|decide|exact .inl rfl|exact .inr rfl|(intros; rfl))) (by first|rfl|decide|exact .inl rfl|exact .inr rfl|(intros; rfl))) (by first|rfl|decide|exact .inl rfl|exact .inr rfl|(intros; rfl)) (by first|rfl|decide|exact .inl rfl|exact .inr rfl|(intros; rfl))) (by first|rfl|decide|exact .inl rfl|exact .inr rfl|(intros; rfl)) (by first|rfl|decide|exact .inl rfl|exact .inr rfl|(intros; rfl)) (by first|rfl|decide|exact .inl rfl|exact .inr rfl|(intros; rfl))) (@pss_cons _ _ _ _ _ (@ps_if _ _ _ _ _ _ _ _ (@PW.pt _ _ _ (@pw_or _ _ _ _ _ _ _ (@pt_not _ _ _ _ (@pt_val _ _ _ (@cc _ _ _ _ _ _ _ _ _ _ (by exact C_is_whole) (by exact (hr.mono (by decide))) (@pa_consN _ _ _ _ _ (pv 1) pa_nil (by first|rfl|decide|exact .inl rfl|exact .inr rfl|(intros; rfl))) (by first|rfl|decide|exact .inl rfl|exact .inr rfl|(intros; rfl)) (by first|rfl|decide|exact .inl rfl|exact .inr rfl|(intros; rfl)) (by first|rfl|decide|exact .inl rfl|exact .inr rfl|(intros; rfl)) (by first|rfl|decide|exact .inl rfl|exact .inr rfl|(intros; rfl))) (by first|rfl|decide|exact .inl rfl|exact .inr rfl|(intros; rfl)))) (@pw_or _ _ _ _ _ _ _ (@pt_not _ _ _ _ (@pt_val _ _ _ (@cc _ _ _ _ _ _ _ _ _ _ (by exact C_is_whole) (by exact (hr.mono (by decide))) (@pa_consN _ _ _ _ _ (pv 2) pa_nil (by first|rfl|decide|exact .inl rfl|exact .inr rfl|(intros; rfl))) (by first|rfl|decide|exact .inl rfl|exact .inr rfl|(intros; rfl)) (by first|rfl|decide|exact .inl rfl|exact .inr rfl|(intros; rfl)) (by first|rfl|decide|exact .inl rfl|exact .inr rfl|(intros; rfl)) (by first|rfl|decide|exact .inl rfl|exact .inr rfl|(intros; rfl))) (by first|rfl|decide|exact .inl rfl|exact .inr rfl|(intros; rfl)))) (@pw_or1 _ _ _ _ (@pt_cmpR _ _ _ _ _ _ _ _ op_lt (pv 2) pe_int (by exact (nomark _))))))) (@pss_one _ _ _ (@ps_ret _ _ _ _ pe_bl)) pss_nil) (@pss_one _ _ _ (@ps_ret _ _ _ _ (@pe_cmpR _ _ _ _ _ _ _ _ op_eq (@cc _ _ _ _ _ _ _ _ _ _ (by exact C_measure) (by exact (hr.mono (by decide))) (@pa_consN _ _ _ _ _ (pv 1) (@pa_consN _ _ _ _ _ (pv 2) pa_nil (by first|rfl|decide|exact .inl rfl|exact .inr rfl|(intros; rfl))) (by first|rfl|decide|exact .inl rfl|exact .inr rfl|(intros; rfl))) (by first|rfl|decide|exact .inl rfl|exact .inr rfl|(intros; rfl)) (by first|rfl|decide|exact .inl rfl|exact .inr rfl|(intros; rfl)) (by first|rfl|decide|exact .inl rfl|exact .inr rfl|(intros; rfl)) (by first|rfl|decide|exact .inl rfl|exact .inr rfl|(intros; rfl))) pe_int (by exact (nomark _)))))))), ?_⟩
  obtain ⟨t, ty, _, _, e3, _⟩ := tyOf (K := K) hd
  refine ⟨_, rfl, _, _, _, _, rfl, ty, e3, _, rfl, ?_⟩
  clear ty
  cases hd with
  | @tup p xs ds hp hl =>
    refine iteF ?_
    refine ⟨_, rfl, p, xs, rfl, .inr (SqT.of hp), ?_⟩
    refine ⟨rfl, _, rfl, ?_⟩
    refine ite2 (fun c => ?_) (fun c => ?_)
    · rw [look_len (fun z => len_ne c (by rw [hl.length, z]; rfl))] at k
      exact k
    obtain ⟨x1, x2, d1, d2, rfl, rfl, h1, h2⟩ := two_data hl (len_eq (m := 2) c)
    refine ⟨_, rfl, p, _, rfl, SqT.of hp, rfl, _, _, rfl, _, _, rfl, rfl, ?_⟩
    refine ⟨_, rfl, _, d1, rfl, h1, _, rfl, ?_⟩
    cases h1 with
    | int i =>
      refine iteF ⟨_, rfl, _, d2, rfl, h2, _, rfl, ?_⟩
      cases h2 with
      | int j =>
        refine iteF ⟨_, rfl, _, _, rfl, rfl, _, rfl, ?_⟩
        refine ite2 (fun c1 => ?_) (fun c1 => ?_)
        · have : lookD (.tuple [.int i, .int j]) = false := by
            have h : j < 1 := of_decide_eq_true c1
            simp [lookD]; omega
          rw [this] at k
          exact k
        · refine ⟨_, rfl, _, rfl, _, _, rfl, rfl, ?_⟩
          have : lookD (.tuple [.int i, .int j]) = decide (V.int (gI i j) = V.int 1) := by
            have h : ¬ j < 1 := by simpa using c1
            have h' : (1 : Int) ≤ j := by omega
            simp [lookD, h']
          rw [this] at k
          exact k
      | _ => exact iteT k
    | _ => exact iteT k
  | _ => exact iteT k

theorem joinI1 {C R : Int → Hp → Prop} {G : Prop} (main : (∀ a h, C a h → R a h) → G) (key : ∀ a h, C a h → R a h) : G := main key
theorem same_upd {H H' : Hp} {l : Addr} {o : HO} (s : Same H H') (hl : H l = none) : Same H (upd H' l o) := fun b u e => by rw [upd_ne (ne_of_none e hl)]; exact s _ _ e
theorem map_range_succ {α : Type} (f : Nat → α) (i : Nat) : (List.range (i + 1)).map f = (List.range i).map f ++ [f i] := by
  rw [List.range_succ, List.map_append]; rfl
theorem joinA {C R : Addr → Hp → Prop} {G : Prop} (main : (∀ a h, C a h → R a h) → G) (key : ∀ a h, C a h → R a h) : G := main key
end
end My

set_option Elab.async false
set_option linter.all false
set_option maxRecDepth 100000
set_option maxHeartbeats 4000000
namespace My
open PySem L2 MA
/-! a pen that is a list, whose cells are the script itself -/
def PenZ (K : PySem.W.Frag) (H : Hp) (p : Addr) (n : Nat) : Prop := ∃ (c : Addr) (ns : List Int) (a l : Int), H p = some (.lst (penV c a l)) ∧ SqL K H c (ns.map V.int) ∧ 0 ≤ a ∧ a ≤ n
theorem PenZ.mono {K : PySem.W.Frag} {H : Hp} {p : Addr} {m n : Nat} (h : PenZ K H p m) (l : m ≤ n) : PenZ K H p n := let ⟨c, ns, a, x, h1, h2, h3, h4⟩ := h; ⟨c, ns, a, x, h1, h2, h3, by omega⟩
theorem PenZ.same {K : PySem.W.Frag} {H H' : Hp} {p : Addr} {n : Nat} (h : PenZ K H p n) (s : Same H H') : PenZ K H' p n := let ⟨c, ns, a, x, h1, h2, h3, h4⟩ := h; ⟨c, ns, a, x, s _ _ h1, s.seq h2, h3, h4⟩
theorem not_pen {c : Addr} {a l : Int} {ns : List Int} (h : penV c a l = ns.map V.int) : False := by
  cases ns with
  | nil => cases h
  | cons x r => cases h
theorem sq_ne {K : PySem.W.Frag} {H : Hp} {p c c' : Addr} {ns : List Int} {a l : Int} (h : SqL K H c (ns.map V.int)) (hp : H p = some (.lst (penV c' a l))) : (∃ o, H c = some o ∧ c ≠ p ∧ ∀ H', H' c = some o → SqL K H' c (ns.map V.int)) ∨ ∀ H', SqL K H' c (ns.map V.int) := by
  rcases h with (h | ⟨ob, h⟩) | h
  · refine .inl ⟨_, h, fun z => ?_, fun H' e => .inl (.inl e)⟩
    rw [z, hp] at h
    exact not_pen (HO.lst.inj (Option.some.inj h))
  · refine .inl ⟨_, h, fun z => ?_, fun H' e => .inl (.inr ⟨ob, e⟩)⟩
    rw [z, hp] at h
    cases h
  · exact .inr fun H' => .inr h
theorem sq_pen {K : PySem.W.Frag} {H : Hp} {p c c' : Addr} {ns : List Int} {a l : Int} {o : HO} (h : SqL K H c (ns.map V.int)) (hp : H p = some (.lst (penV c' a l))) : SqL K (upd H p o) c (ns.map V.int) := by
  rcases sq_ne h hp with ⟨o', e, ne, f⟩ | f
  · exact f _ (by rw [upd_ne ne]; exact e)
  · exact f _
def spTakeZ (K : PySem.W.Frag) : Sp := fun vs H Q _ => ∃ (p : Addr) (m : Int) (n : Nat), vs = [.ref p, .int m] ∧ PenZ K H p n ∧ n < 100000 ∧ 0 < m ∧ m < 1073741824 ∧ ∀ (r : Int) (H' : Hp), 0 ≤ r → r < m → PenZ K H' p (n + 1) → SameY p H H' → Q (.int r) H'
def spPenZ (K : PySem.W.Frag) : Sp := fun vs H Q _ => ∃ (a : Addr) (ns : List Int), vs = [.ref a] ∧ SqL K H a (ns.map V.int) ∧ ∀ (p : Addr) (H' : Hp), Same H H' → PenZ K H' p 0 → Q (.ref p) H'
section
variable {P : Program} {w : World} {K : PySem.W.Frag} {mg : Str → Option Value} {base : Heap}
theorem ok_penZ (F : FunAt K mg "_law_pen" ["_law_script"] s_l_pen) : Cal P w K mg base "_law_pen" ["_law_script"] 1 (spPenZ K) := by
  have S := sc_l_pen
  refine F.cal sc_l_pen (fun vs H Q E h => ?_) (fun f cdv A outer s H vs Q E hr h => ?_)
  · obtain ⟨a, ns, rfl, _⟩ := h; rfl
  obtain ⟨a, ns, rfl, ha, k⟩ := h
  refine ⟨_, (@pss_one _ _ _ (@ps_ret _ _ _ _ (@pe_lst _ _ _ _ (@pa_consN _ _ _ _ _ (pv 0) (@pa_consN _ _ _ _ _ pe_int (@pa_consN _ _ _ _ _ pe_int pa_nil (by first|rfl|decide|exact .inl rfl|exact .inr rfl|(intros; rfl))) (by first|rfl|decide|exact .inl rfl|exact .inr rfl|(intros; rfl))) (by first|rfl|decide|exact .inl rfl|exact .inr rfl|(intros; rfl)))))), ?_⟩
  refine ⟨_, rfl, lz 3 rfl, fun p hp => ?_⟩
  have s1 := same_new hp (.lst [.ref a, .int 0, .int 0])
  exact k p _ s1 ⟨a, ns, 0, 0, upd_same, s1.seq ha, by omega, by omega⟩
theorem ok_take (T : Txt mg) (F : FunAt K mg "_law_take" ["_law_pen_here", "_law_many"] s_l_take) : Cal P w K mg base "_law_take" ["_law_pen_here", "_law_many"] 1 (spTakeZ K) := by
  have S := sc_l_take
  refine F.cal sc_l_take (fun vs H Q E h => ?_) (fun f cdv A outer s H vs Q E hr h => ?_)
  · obtain ⟨p, m, n, rfl, _⟩ := h; rfl
  obtain ⟨p, m, n, rfl, ⟨c, ns, a, l, hp, hc, ha0, han⟩, hn, hm, hm2, k⟩ := h
  refine ⟨_, (@pss_cons _ _ _ _ _ (@ps_if _ _ _ _ _ _ _ _ (@pt_cmpR _ _ _ _ _ _ _ _ op_gt (@pe_ix _ _ _ _ _ _ _ ix_list (pv 0) pe_int (by exact (fun _ _ => rfl))) pe_int (by exact (nomark _))) (@pss_cons _ _ _ _ _ (@ps_set _ _ (6) _ _ _ _ (by exact S.nd) (by rfl) (by first | exact Or.inl rfl | exact Or.inr rfl) (@pe_op _ _ _ _ _ _ _ _ op_mod (@pe_ix _ _ _ _ _ _ _ ix_list (pv 0) pe_int (by exact (fun _ _ => rfl))) (pv 1)) (by first|rfl|decide|exact .inl rfl|exact .inr rfl|(intros; rfl)) (by first|rfl|decide|exact .inl rfl|exact .inr rfl|(intros; rfl))) (@pss_cons _ _ _ _ _ (@ps_asg _ _ _ _ _ _ (@pe_op _ _ _ _ _ _ _ _ op_fdiv (@pe_ix _ _ _ _ _ _ _ ix_list (pv 0) pe_int (by exact (fun _ _ => rfl))) (pv 1)) (@pg_sub _ _ _ _ _ _ _ (pv 0) pe_int set_list (by first|rfl|decide|exact .inl rfl|exact .inr rfl|(intros; rfl))) (by first|rfl|decide|exact .inl rfl|exact .inr rfl|(intros; rfl)) (by first|rfl|decide|exact .inl rfl|exact .inr rfl|(intros; rfl)) (by first|rfl|decide|exact .inl rfl|exact .inr rfl|(intros; rfl))) (@pss_one _ _ _ (@ps_ret _ _ _ _ (pv 6))))) pss_nil) (@pss_cons _ _ _ _ _ (@ps_set _ _ (2) _ _ _ _ (by exact S.nd) (by rfl) (by first | exact Or.inl rfl | exact Or.inr rfl) (@pe_ix _ _ _ _ _ _ _ ix_list (pv 0) pe_int (by exact (fun _ _ => rfl))) (by first|rfl|decide|exact .inl rfl|exact .inr rfl|(intros; rfl)) (by first|rfl|decide|exact .inl rfl|exact .inr rfl|(intros; rfl))) (@pss_cons _ _ _ _ _ (@ps_asg _ _ _ _ _ _ (@pe_op _ _ _ _ _ _ _ _ op_add (pv 2) pe_int) (@pg_sub _ _ _ _ _ _ _ (pv 0) pe_int set_list (by first|rfl|decide|exact .inl rfl|exact .inr rfl|(intros; rfl))) (by first|rfl|decide|exact .inl rfl|exact .inr rfl|(intros; rfl)) (by first|rfl|decide|exact .inl rfl|exact .inr rfl|(intros; rfl)) (by first|rfl|decide|exact .inl rfl|exact .inr rfl|(intros; rfl))) (@pss_cons _ _ _ _ _ (@ps_set _ _ (3) _ _ _ _ (by exact S.nd) (by rfl) (by first | exact Or.inl rfl | exact Or.inr rfl) (@pe_op _ _ _ _ _ _ _ _ op_add (@pe_op _ _ _ _ _ _ _ _ op_mul pe_int (pv 2)) pe_int) (by first|rfl|decide|exact .inl rfl|exact .inr rfl|(intros; rfl)) (by first|rfl|decide|exact .inl rfl|exact .inr rfl|(intros; rfl))) (@pss_cons _ _ _ _ _ (@ps_if _ _ _ _ _ _ _ _ (@pt_cmpR _ _ _ _ _ _ _ _ op_gt (@pe_callB _ _ _ _ _ _ _ _ _ call_len_seq (by rfl) (by exact T.z_len) (by exact bt_len) (@pa_consN _ _ _ _ _ (@pe_ix _ _ _ _ _ _ _ ix_list (pv 0) pe_int (by exact (fun _ _ => rfl))) pa_nil (by first|rfl|decide|exact .inl rfl|exact .inr rfl|(intros; rfl))) (by first|rfl|decide|exact .inl rfl|exact .inr rfl|(intros; rfl)) (by first|rfl|decide|exact .inl rfl|exact .inr rfl|(intros; rfl)) (by first|rfl|decide|exact .inl rfl|exact .inr rfl|(intros; rfl)) (by first|rfl|decide|exact .inl rfl|exact .inr rfl|(intros; rfl))) pe_int (by exact (nomark _))) (@pss_one _ _ _ (@ps_set _ _ (3) _ _ _ _ (by exact S.nd) (by rfl) (by first | exact Or.inl rfl | exact Or.inr rfl) (@pe_ix _ _ _ _ _ _ _ ix_list (@pe_ix _ _ _ _ _ _ _ ix_list (pv 0) pe_int (by exact (fun _ _ => rfl))) (@pe_op _ _ _ _ _ _ _ _ op_mod (pv 2) (@pe_callB _ _ _ _ _ _ _ _ _ call_len_seq (by rfl) (by exact T.z_len) (by exact bt_len) (@pa_consN _ _ _ _ _ (@pe_ix _ _ _ _ _ _ _ ix_list (pv 0) pe_int (by exact (fun _ _ => rfl))) pa_nil (by first|rfl|decide|exact .inl rfl|exact .inr rfl|(intros; rfl))) (by first|rfl|decide|exact .inl rfl|exact .inr rfl|(intros; rfl)) (by first|rfl|decide|exact .inl rfl|exact .inr rfl|(intros; rfl)) (by first|rfl|decide|exact .inl rfl|exact .inr rfl|(intros; rfl)) (by first|rfl|decide|exact .inl rfl|exact .inr rfl|(intros; rfl)))) (by exact (fun _ _ => rfl))) (by first|rfl|decide|exact .inl rfl|exact .inr rfl|(intros; rfl)) (by first|rfl|decide|exact .inl rfl|exact .inr rfl|(intros; rfl)))) pss_nil) (@pss_cons _ _ _ _ _ (@ps_if _ _ _ _ _ _ _ _ (@PW.pt _ _ _ (@pw_and _ _ _ _ _ _ _ (@pt_cmpR _ _ _ _ _ _ _ _ op_lt (pv 2) (@pe_callB _ _ _ _ _ _ _ _ _ call_len_seq (by rfl) (by exact T.z_len) (by exact bt_len) (@pa_consN _ _ _ _ _ (@pe_ix _ _ _ _ _ _ _ ix_list (pv 0) pe_int (by exact (fun _ _ => rfl))) pa_nil (by first|rfl|decide|exact .inl rfl|exact .inr rfl|(intros; rfl))) (by first|rfl|decide|exact .inl rfl|exact .inr rfl|(intros; rfl)) (by first|rfl|decide|exact .inl rfl|exact .inr rfl|(intros; rfl)) (by first|rfl|decide|exact .inl rfl|exact .inr rfl|(intros; rfl)) (by first|rfl|decide|exact .inl rfl|exact .inr rfl|(intros; rfl))) (by exact (nomark _))) (@pw_and1 _ _ _ _ (@pt_cmpR _ _ _ _ _ _ _ _ op_ge (@pe_callB _ _ _ _ _ _ _ _ _ call_abs (by rfl) (by exact T.z_abs) (by exact bt_abs) (@pa_consN _ _ _ _ _ (pv 3) pa_nil (by first|rfl|decide|exact .inl rfl|exact .inr rfl|(intros; rfl))) (by first|rfl|decide|exact .inl rfl|exact .inr rfl|(intros; rfl)) (by first|rfl|decide|exact .inl rfl|exact .inr rfl|(intros; rfl)) (by first|rfl|decide|exact .inl rfl|exact .inr rfl|(intros; rfl)) (by first|rfl|decide|exact .inl rfl|exact .inr rfl|(intros; rfl))) (@pe_op _ _ _ _ _ _ _ _ op_pow pe_int pe_int) (by exact (nomark _)))))) (@pss_cons _ _ _ _ _ (@ps_asg _ _ _ _ _ _ (@pe_op _ _ _ _ _ _ _ _ op_fdiv (@pe_callB _ _ _ _ _ _ _ _ _ call_abs (by rfl) (by exact T.z_abs) (by exact bt_abs) (@pa_consN _ _ _ _ _ (pv 3) pa_nil (by first|rfl|decide|exact .inl rfl|exact .inr rfl|(intros; rfl))) (by first|rfl|decide|exact .inl rfl|exact .inr rfl|(intros; rfl)) (by first|rfl|decide|exact .inl rfl|exact .inr rfl|(intros; rfl)) (by first|rfl|decide|exact .inl rfl|exact .inr rfl|(intros; rfl)) (by first|rfl|decide|exact .inl rfl|exact .inr rfl|(intros; rfl))) (pv 1)) (@pg_sub _ _ _ _ _ _ _ (pv 0) pe_int set_list (by first|rfl|decide|exact .inl rfl|exact .inr rfl|(intros; rfl))) (by first|rfl|decide|exact .inl rfl|exact .inr rfl|(intros; rfl)) (by first|rfl|decide|exact .inl rfl|exact .inr rfl|(intros; rfl)) (by first|rfl|decide|exact .inl rfl|exact .inr rfl|(intros; rfl))) (@pss_one _ _ _ (@ps_ret _ _ _ _ (@pe_op _ _ _ _ _ _ _ _ op_mod (@pe_callB _ _ _ _ _ _ _ _ _ call_abs (by rfl) (by exact T.z_abs) (by exact bt_abs) (@pa_consN _ _ _ _ _ (pv 3) pa_nil (by first|rfl|decide|exact .inl rfl|exact .inr rfl|(intros; rfl))) (by first|rfl|decide|exact .inl rfl|exact .inr rfl|(intros; rfl)) (by first|rfl|decide|exact .inl rfl|exact .inr rfl|(intros; rfl)) (by first|rfl|decide|exact .inl rfl|exact .inr rfl|(intros; rfl)) (by first|rfl|decide|exact .inl rfl|exact .inr rfl|(intros; rfl))) (pv 1))))) pss_nil) (@pss_cons _ _ _ _ _ (@ps_set _ _ (4) _ _ _ _ (by exact S.nd) (by rfl) (by first | exact Or.inl rfl | exact Or.inr rfl) (@pe_ix _ _ _ _ _ _ _ ix_tup (@pe_tup _ _ _ _ _ (@pa_consN _ _ _ _ _ pe_int (@pa_consN _ _ _ _ _ pe_int (@pa_consN _ _ _ _ _ pe_int (@pa_consN _ _ _ _ _ pe_int (@pa_consN _ _ _ _ _ pe_int (@pa_consN _ _ _ _ _ pe_int (@pa_consN _ _ _ _ _ pe_int pa_nil (by first|rfl|decide|exact .inl rfl|exact .inr rfl|(intros; rfl))) (by first|rfl|decide|exact .inl rfl|exact .inr rfl|(intros; rfl))) (by first|rfl|decide|exact .inl rfl|exact .inr rfl|(intros; rfl))) (by first|rfl|decide|exact .inl rfl|exact .inr rfl|(intros; rfl))) (by first|rfl|decide|exact .inl rfl|exact .inr rfl|(intros; rfl))) (by first|rfl|decide|exact .inl rfl|exact .inr rfl|(intros; rfl))) (by first|rfl|decide|exact .inl rfl|exact .inr rfl|(intros; rfl)))) (@pe_op _ _ _ _ _ _ _ _ op_mod (pv 2) pe_int) (by exact (fun _ _ => rfl))) (by first|rfl|decide|exact .inl rfl|exact .inr rfl|(intros; rfl)) (by first|rfl|decide|exact .inl rfl|exact .inr rfl|(intros; rfl))) (@pss_cons _ _ _ _ _ (@ps_set _ _ (5) _ _ _ _ (by exact S.nd) (by rfl) (by first | exact Or.inl rfl | exact Or.inr rfl) (@pe_op _ _ _ _ _ _ _ _ op_mod (@pe_op _ _ _ _ _ _ _ _ op_pow (@pe_op _ _ _ _ _ _ _ _ op_add (@pe_op _ _ _ _ _ _ _ _ op_mul (@pe_op _ _ _ _ _ _ _ _ op_mod (pv 3) (pv 4)) (@pe_op _ _ _ _ _ _ _ _ op_add (@pe_op _ _ _ _ _ _ _ _ op_mul pe_int (pv 2)) pe_int)) (pv 2)) pe_int) (pv 4)) (by first|rfl|decide|exact .inl rfl|exact .inr rfl|(intros; rfl)) (by first|rfl|decide|exact .inl rfl|exact .inr rfl|(intros; rfl))) (@pss_cons _ _ _ _ _ (@ps_set _ _ (5) _ _ _ _ (by exact S.nd) (by rfl) (by first | exact Or.inl rfl | exact Or.inr rfl) (@pe_op _ _ _ _ _ _ _ _ op_mod (@pe_op _ _ _ _ _ _ _ _ op_add (@pe_op _ _ _ _ _ _ _ _ op_mul (pv 5) (@pe_op _ _ _ _ _ _ _ _ op_add (@pe_op _ _ _ _ _ _ _ _ op_add (@pe_op _ _ _ _ _ _ _ _ op_mod (pv 5) pe_int) (pv 2)) pe_int)) (@pe_op _ _ _ _ _ _ _ _ op_mod (pv 3) pe_int)) pe_int) (by first|rfl|decide|exact .inl rfl|exact .inr rfl|(intros; rfl)) (by first|rfl|decide|exact .inl rfl|exact .inr rfl|(intros; rfl))) (@pss_one _ _ _ (@ps_ret _ _ _ _ (@pe_op _ _ _ _ _ _ _ _ op_mod (@pe_op _ _ _ _ _ _ _ _ op_fdiv (pv 5) pe_int) (pv 1))))))))))))), ?_⟩
  apply joinI1 (C := fun (x : Int) (H' : Hp) => PenZ K H' p (n + 1) ∧ SameY p H H')
  case main =>
    intro key
    refine ⟨_, rfl, p, _, _, _, rfl, rfl, SqL.of hp, rfl, _, _, rfl, rfl, _, rfl, ?_⟩
    refine ite2 (fun _ => ?_) (fun _ => ?_)
    · refine ⟨_, rfl, p, _, _, _, rfl, rfl, SqL.of hp, rfl, _, rfl, _, _, rfl, rfl, hm, ?_⟩
      refine ⟨_, rfl, p, _, _, _, rfl, rfl, SqL.of hp, rfl, _, rfl, _, _, rfl, rfl, ⟨hm, hm2⟩, _, rfl, p, _, _, _, rfl, rfl, hp, rfl, ?_⟩
      refine ⟨_, rfl, ?_⟩
      exact k _ _ (Int.emod_nonneg _ (by omega)) (Int.emod_lt_of_pos _ hm) ⟨c, ns, a, _, upd_same, sq_pen hc hp, ha0, by omega⟩ (SameY.upd hp)
    refine ⟨_, rfl, p, _, _, _, rfl, rfl, SqL.of hp, rfl, ?_⟩
    refine ⟨_, rfl, _, _, rfl, rfl, _, rfl, p, _, _, _, rfl, rfl, hp, rfl, ?_⟩
    have hp1 : (upd H p (.lst (penV c (a + 1) l))) p = some (.lst (penV c (a + 1) l)) := upd_same
    have hc1 : SqL K (upd H p (.lst (penV c (a + 1) l))) c (ns.map V.int) := sq_pen hc hp
    have x1 : SameY p H (upd H p (.lst (penV c (a + 1) l))) := SameY.upd hp
    have es : (penV c a l).set (Int.toNat 1) (V.int (a + 1)) = penV c (a + 1) l := rfl
    rw [es]
    generalize upd H p (.lst (penV c (a + 1) l)) = H1 at hp1 hc1 x1
    have pen1 : PenZ K H1 p (n + 1) := ⟨c, ns, a + 1, l, hp1, hc1, by omega, by omega⟩
    have ha1 : a ≤ 100000 := by omega
    refine ⟨_, rfl, _, _, rfl, rfl, .inl ⟨by decide, by decide⟩, _, _, rfl, rfl, ?_⟩
    refine ⟨_, rfl, p, _, _, _, rfl, rfl, SqL.of hp1, rfl, c, _, rfl, .inl (hc1), _, _, rfl, rfl, _, rfl, ?_⟩
    refine ite2 (fun c0 => ?_) (fun c0 => ?_)
    · have hl : 0 < ns.length := by
        have : (0 : Int) < (((ns.map V.int).length : Nat) : Int) := of_decide_eq_true c0
        rw [List.length_map] at this
        omega
      obtain ⟨z, hz⟩ := cell_at (ns := ns) a hl
      refine ⟨_, rfl, p, _, _, _, rfl, rfl, SqL.of hp1, rfl, _, rfl, _, rfl, p, _, _, _, rfl, rfl, SqL.of hp1, rfl, c, _, rfl, .inl (hc1), _, _, rfl, rfl, (by rw [List.length_map]; omega), c, _, _, _, rfl, rfl, hc1, hz, ?_⟩
      refine ⟨_, rfl, _, rfl, p, _, _, _, rfl, rfl, SqL.of hp1, rfl, c, _, rfl, .inl (hc1), _, _, rfl, rfl, _, rfl, ?_⟩
      refine ite2 (fun c1 => ?_) (fun c1 => iteF ?_)
      · refine ⟨_, rfl, _, rfl, _, _, rfl, rfl, ⟨by decide, by decide, by decide⟩, _, _, rfl, rfl, _, rfl, ?_⟩
        refine ite2 (fun c2 => ?_) (fun c2 => ?_)
        · refine ⟨_, rfl, _, rfl, _, rfl, _, _, rfl, rfl, ⟨hm, hm2⟩, _, rfl, p, _, _, _, rfl, rfl, hp1, rfl, ?_⟩
          refine ⟨_, rfl, _, rfl, _, rfl, _, _, rfl, rfl, hm, ?_⟩
          exact k _ _ (Int.emod_nonneg _ (by omega)) (Int.emod_lt_of_pos _ hm) ⟨c, ns, a + 1, _, upd_same, sq_pen hc1 hp1, by omega, by omega⟩ (x1.trans (SameY.upd hp1))
        · exact key z H1 ⟨pen1, x1⟩
      · exact key z H1 ⟨pen1, x1⟩
    · refine ⟨_, rfl, _, rfl, p, _, _, _, rfl, rfl, SqL.of hp1, rfl, c, _, rfl, .inl (hc1), _, _, rfl, rfl, _, rfl, ?_⟩
      refine ite2 (fun c1 => ?_) (fun c1 => iteF ?_)
      · exfalso
        have e1 : ¬ (0 : Int) < (((ns.map V.int).length : Nat) : Int) := by simpa using c0
        have e2 : a < (((ns.map V.int).length : Nat) : Int) := of_decide_eq_true c1
        omega
      · exact key (13 * a + 7) H1 ⟨pen1, x1⟩
  case key =>
    rintro x H' ⟨pen1, x1⟩
    have a1 : a ≤ 100000 := by omega
    obtain ⟨pr, hpr, pr0, pr1⟩ : ∃ pr : Int, atI ([.int 2147483629, .int 2147483587, .int 2147483647, .int 2147483563, .int 2147483579, .int 2147483543, .int 2147483549] : List V) (a % 7) = some (.int pr) ∧ 0 < pr ∧ pr ≤ 2147483647 := by
      rcases (show a % 7 = 0 ∨ a % 7 = 1 ∨ a % 7 = 2 ∨ a % 7 = 3 ∨ a % 7 = 4 ∨ a % 7 = 5 ∨ a % 7 = 6 by omega) with e | e | e | e | e | e | e <;> rw [e]
      · exact ⟨2147483629, rfl, by decide, by decide⟩
      · exact ⟨2147483587, rfl, by decide, by decide⟩
      · exact ⟨2147483647, rfl, by decide, by decide⟩
      · exact ⟨2147483563, rfl, by decide, by decide⟩
      · exact ⟨2147483579, rfl, by decide, by decide⟩
      · exact ⟨2147483543, rfl, by decide, by decide⟩
      · exact ⟨2147483549, rfl, by decide, by decide⟩
    refine ⟨lz 7 rfl, fun t ht => ⟨_, rfl, _, _, rfl, rfl, (show (0 : Int) < 7 by decide), t, _, _, _, rfl, rfl, SqT.of upd_same, hpr, ?_⟩⟩
    have st := same_new ht (.tup [.int 2147483629, .int 2147483587, .int 2147483647, .int 2147483563, .int 2147483579, .int 2147483543, .int 2147483549])
    have e0 := Int.emod_nonneg x (show pr ≠ 0 by omega)
    have e1 := Int.emod_lt_of_pos x pr0
    have b0 : 0 ≤ x % pr * (2 * a + 5) + a := by have := Int.mul_nonneg e0 (show 0 ≤ 2 * a + 5 by omega); omega
    have b1 : x % pr * (2 * a + 5) + a < 2 ^ 60 := by
      have := Int.mul_le_mul (show x % pr ≤ 2147483647 by omega) (show 2 * a + 5 ≤ 200005 by omega) (by omega) (by decide)
      omega
    refine ⟨_, rfl, _, rfl, _, _, rfl, rfl, pr0, _, rfl, _, _, rfl, rfl, .inl ⟨by decide, by decide⟩, _, _, rfl, rfl, _, _, rfl, rfl, .inl ⟨by omega, by omega⟩, _, rfl, _, _, rfl, rfl, _, _, rfl, rfl, ?cp, _, rfl, _, _, rfl, rfl, pr0, ?_⟩
    case cp => exact ⟨by decide, by decide, by omega⟩
    have w0 := Int.emod_nonneg ((x % pr * (2 * a + 5) + a) ^ Int.toNat 5) (show pr ≠ 0 by omega)
    have w1 := Int.emod_lt_of_pos ((x % pr * (2 * a + 5) + a) ^ Int.toNat 5) pr0
    dsimp only
    generalize (x % pr * (2 * a + 5) + a) ^ Int.toNat 5 % pr = y at w0 w1 ⊢
    have c0 := Int.emod_nonneg y (show (65519 : Int) ≠ 0 by decide)
    have c1 := Int.emod_lt_of_pos y (show (0 : Int) < 65519 by decide)
    refine ⟨_, rfl, _, rfl, _, _, rfl, rfl, (show (0 : Int) < 65519 by decide), _, rfl, _, _, rfl, rfl, _, _, rfl, rfl, _, _, rfl, rfl, .inl ⟨by omega, by omega⟩, _, rfl, _, _, rfl, rfl, (show (0 : Int) < 65521 by decide), _, _, rfl, rfl, _, _, rfl, rfl, (show (0 : Int) < 2147483489 by decide), ?_⟩
    refine ⟨_, rfl, _, _, rfl, rfl, ⟨by decide, by decide⟩, _, rfl, _, _, rfl, rfl, hm, ?_⟩
    exact k _ _ (Int.emod_nonneg _ (by omega)) (Int.emod_lt_of_pos _ hm) (pen1.same st) (x1.trans (Same.y st))
end
end My

set_option Elab.async false
set_option linter.all false
set_option maxRecDepth 100000
set_option maxHeartbeats 4000000
namespace My
open PySem L2 MA
theorem shUpdL {H : Hp} {l : Addr} {zs : List V} {o : HO} {v : V} {q : Rat} (hl : H l = some (.lst zs)) (h : ShAt H v q) : ShAt (upd H l o) v q := by
  obtain ⟨a, rfl, ha⟩ := h
  exact ⟨a, rfl, by rw [upd_ne (ne_of ha hl (by intro z; cases z))]; exact ha⟩
theorem Shs.updL {H : Hp} {l : Addr} {zs : List V} {o : HO} (hl : H l = some (.lst zs)) : ∀ {xs : List V} {qs : List Rat}, Shs H xs qs → Shs (upd H l o) xs qs
  | _, _, .nil => .nil
  | _, _, .cons r t => .cons (shUpdL hl r) (Shs.updL hl t)
theorem Shs.snoc {H : Hp} {v : V} {q : Rat} (h : ShAt H v q) : ∀ {xs : List V} {qs : List Rat}, Shs H xs qs → Shs H (xs ++ [v]) (qs ++ [q])
  | _, _, .nil => .cons h .nil
  | _, _, .cons r t => .cons r (Shs.snoc h t)
theorem Shs.length {H : Hp} {xs : List V} {qs : List Rat} (h : Shs H xs qs) : xs.length = qs.length := Paired.length h
theorem Shs.at {H : Hp} {xs : List V} {qs : List Rat} {i : Nat} {x : V} (h : Shs H xs qs) (e : xs[i]? = some x) : ∃ q, qs[i]? = some q ∧ ShAt H x q := Paired.at' h e
/-- a rule -/
def RuAt (H : Hp) (v : V) (qs : List Rat) : Prop := ∃ a xs, v = .ref a ∧ H a = some (.tup xs) ∧ Shs H xs qs
theorem RuAt.same {H H' : Hp} {v : V} {qs : List Rat} (h : RuAt H v qs) (s : Same H H') : RuAt H' v qs := let ⟨a, xs, e, h1, h2⟩ := h; ⟨a, xs, e, s _ _ h1, h2.same s⟩
section
variable {P : Program} {w : World} {K : PySem.W.Frag} {mg : Str → Option Value} {base : Heap}
def spAsk1 (c2 : Addr) : Sp := fun vs H Q E => ∃ a b xs ys, vs = [.ref a, .ref b] ∧ H a = some (.tup xs) ∧ H b = some (.tup ys) ∧ (xs.length ≠ ys.length → E (.ref c2) none H) ∧ (xs.length = ys.length → Q .non H)
theorem ok_ask {er : Errs} (T : Txt2 mg) (N : Err1N mg er) (z2 : PySem.W.excIn K er.c2 bmVE "ValueError.__new__" = true) (F : FunAt K mg "ask_as_many" ["one", "other"] s_ask_as_many) : Cal1 P w K mg base "ask_as_many" ["one", "other"] 1 (spAsk1 er.c2) := by
  have S := sc_ask_as_many
  refine F.cal1 sc_ask_as_many (fun vs H Q E h => ?_) (fun f cdv A outer s H vs Q E hr h => ?_)
  · obtain ⟨a, b, xs, ys, rfl, _⟩ := h; rfl
  obtain ⟨a, b, xs, ys, rfl, ha, hb, hE, k⟩ := h
  refine ⟨_, (@pss_one _ _ _ (@ps_if _ _ _ _ _ _ _ _ (@pt_cmpR _ _ _ _ _ _ _ _ op_ne (@pe_callB _ _ _ _ _ _ _ _ _ call_len_seq (by rfl) (by exact T.z_len) (by exact bt_len) (@pa_consN _ _ _ _ _ (pv 0) pa_nil (by first|rfl|decide|exact .inl rfl|exact .inr rfl|(intros; rfl))) (by first|rfl|decide|exact .inl rfl|exact .inr rfl|(intros; rfl)) (by first|rfl|decide|exact .inl rfl|exact .inr rfl|(intros; rfl)) (by first|rfl|decide|exact .inl rfl|exact .inr rfl|(intros; rfl)) (by first|rfl|decide|exact .inl rfl|exact .inr rfl|(intros; rfl))) (@pe_callB _ _ _ _ _ _ _ _ _ call_len_seq (by rfl) (by exact T.z_len) (by exact bt_len) (@pa_consN _ _ _ _ _ (pv 1) pa_nil (by first|rfl|decide|exact .inl rfl|exact .inr rfl|(intros; rfl))) (by first|rfl|decide|exact .inl rfl|exact .inr rfl|(intros; rfl)) (by first|rfl|decide|exact .inl rfl|exact .inr rfl|(intros; rfl)) (by first|rfl|decide|exact .inl rfl|exact .inr rfl|(intros; rfl)) (by first|rfl|decide|exact .inl rfl|exact .inr rfl|(intros; rfl))) (by exact (nomark _))) (@pss_one _ _ _ (@ps_raise _ _ _ _ _ _ _ _ _ _ (by exact raises1) (by rfl) (by exact z2) (by rfl) (by exact N.m2) (@pa_consN _ _ _ _ _ pe_str pa_nil (by first|rfl|decide|exact .inl rfl|exact .inr rfl|(intros; rfl))) (by first|rfl|decide|exact .inl rfl|exact .inr rfl|(intros; rfl)) (by first|rfl|decide|exact .inl rfl|exact .inr rfl|(intros; rfl)) (by first|rfl|decide|exact .inl rfl|exact .inr rfl|(intros; rfl)))) pss_nil)), ?_⟩
  refine ⟨_, rfl, a, _, rfl, .inr (SqT.of ha), _, rfl, b, _, rfl, .inr (SqT.of hb), rfl, _, rfl, ?_⟩
  by_cases e : xs.length = ys.length
  · refine ite2 (fun c => absurd (congrArg (fun n : Nat => V.int n) e) (by simpa using c)) (fun _ => k e)
  · refine ite2 (fun _ => ⟨(by show 1 ≤ sizeLine; decide), hE e⟩) (fun c => absurd (V.int.inj (by simpa using c)) (by omega))
end
end My

set_option Elab.async false
set_option linter.all false
set_option maxRecDepth 100000
set_option maxHeartbeats 4000000
namespace My
open PySem L2 MA
section
variable {P : Program} {w : World} {K : PySem.W.Frag} {mg : Str → Option Value} {base : Heap}
def spShareL : Sp := fun vs H Q _ => ∃ t b : Int, vs = [.int t, .int b] ∧ 0 ≤ t ∧ 0 < b ∧ Bt 8000 b ∧ ∀ v H', Same H H' → ShAt H' v (Rat.divInt t b) → Q v H'
theorem ok_shareL (T : Txt2 mg) (F : FunAt K mg "_law_share" ["_law_top", "_law_bottom"] s_l_share) : Cal P w K mg base "_law_share" ["_law_top", "_law_bottom"] 1 spShareL := by
  have S := sc_l_share
  refine F.cal sc_l_share (fun vs H Q E h => ?_) (fun f cdv A outer s H vs Q E hr h => ?_)
  · obtain ⟨a, b, rfl, _⟩ := h; rfl
  obtain ⟨t, b, rfl, ht, hb, bb, k⟩ := h
  refine ⟨_, (@pss_cons _ _ _ _ _ (@ps_set _ _ (2) _ _ _ _ (by exact S.nd) (by rfl) (by first | exact Or.inl rfl | exact Or.inr rfl) (@pe_callB _ _ _ _ _ _ _ _ _ call_abs (by rfl) (by exact T.z_abs) (by exact bt_abs) (@pa_consN _ _ _ _ _ (pv 0) pa_nil (by first|rfl|decide|exact .inl rfl|exact .inr rfl|(intros; rfl))) (by first|rfl|decide|exact .inl rfl|exact .inr rfl|(intros; rfl)) (by first|rfl|decide|exact .inl rfl|exact .inr rfl|(intros; rfl)) (by first|rfl|decide|exact .inl rfl|exact .inr rfl|(intros; rfl)) (by first|rfl|decide|exact .inl rfl|exact .inr rfl|(intros; rfl))) (by first|rfl|decide|exact .inl rfl|exact .inr rfl|(intros; rfl)) (by first|rfl|decide|exact .inl rfl|exact .inr rfl|(intros; rfl))) (@pss_cons _ _ _ _ _ (@ps_set _ _ (3) _ _ _ _ (by exact S.nd) (by rfl) (by first | exact Or.inl rfl | exact Or.inr rfl) (pv 1) (by first|rfl|decide|exact .inl rfl|exact .inr rfl|(intros; rfl)) (by first|rfl|decide|exact .inl rfl|exact .inr rfl|(intros; rfl))) (@pss_cons _ _ _ _ _ (@ps_while _ _ _ _ _ _ (by exact PassesOwn.never) (@pt_cmpR _ _ _ _ _ _ _ _ op_gt (pv 3) pe_int (by exact (nomark _))) (@pss_one _ _ _ (@ps_par _ _ (2) (3) _ _ _ _ _ _ _ _ _ _ _ (by rfl) (by exact S.nd) (by rfl) (by rfl) (by decide) (by rfl) (by rfl) (@pa_consN _ _ _ _ _ (pv 3) (@pa_consN _ _ _ _ _ (@pe_op _ _ _ _ _ _ _ _ op_mod (pv 2) (pv 3)) pa_nil (by first|rfl|decide|exact .inl rfl|exact .inr rfl|(intros; rfl))) (by first|rfl|decide|exact .inl rfl|exact .inr rfl|(intros; rfl))) (by rfl) (by first|rfl|decide|exact .inl rfl|exact .inr rfl|(intros; rfl))))) (@pss_one _ _ _ (@ps_ret _ _ _ _ (@pe_tup _ _ _ _ _ (@pa_consN _ _ _ _ _ (@pe_op _ _ _ _ _ _ _ _ op_fdivB (pv 0) (pv 2)) (@pa_consN _ _ _ _ _ (@pe_op _ _ _ _ _ _ _ _ op_fdivB (pv 1) (pv 2)) pa_nil (by first|rfl|decide|exact .inl rfl|exact .inr rfl|(intros; rfl))) (by first|rfl|decide|exact .inl rfl|exact .inr rfl|(intros; rfl))))))))), ?_⟩
  refine ⟨_, rfl, _, rfl, ?_⟩
  rw [if_neg (by omega : ¬ t < 0)]
  refine ⟨_, rfl, ?_⟩
  refine while_by (fun σ H' => H' = H ∧ ∃ x y : Int, σ = [some (.int t), some (.int b), some (.int x), some (.int y)] ∧ 0 ≤ x ∧ 0 ≤ y ∧ gI x y = gI t b) (fun σ _ => match σ with | [_, _, _, some (.int y)] => y.toNat | _ => 0) ⟨rfl, _, _, rfl, ht, by omega, rfl⟩ ?_ ?_
  · rintro σ H' ⟨rfl, x, y, rfl, hx, hy, hg⟩
    refine ⟨_, rfl, _, _, rfl, rfl, _, rfl, ?_⟩
    refine ite2 (fun c => ?_) (fun c => ?_)
    · have hy0 : 0 < y := of_decide_eq_true c
      refine ⟨_, rfl, _, rfl, _, rfl, _, _, rfl, rfl, hy0, _, _, rfl, ?_⟩
      have hm := Int.emod_nonneg x (show y ≠ 0 by omega)
      have hl := Int.emod_lt_of_pos x hy0
      refine ⟨⟨rfl, _, _, rfl, hy, hm, ?_⟩, ?_⟩
      · rw [gI_step hx]; exact hg
      · show (x % y).toNat < y.toNat
        omega
    · have hy0 : y = 0 := by
        have : ¬ 0 < y := by simpa using c
        omega
      subst hy0
      rw [gI_zero hx] at hg
      subst hg
      have g0 := gI_pos_right (a := t) (b := b) (by omega)
      have gb : Bt 8000 (gI t b) := bb.gr (by omega)
      refine ⟨_, rfl, _, rfl, _, _, rfl, rfl, ⟨g0, gb⟩, _, rfl, _, rfl, _, _, rfl, rfl, ⟨g0, gb⟩, lz 2 rfl, fun p hp => ?_⟩
      have e := share_pos (t := t) hb
      exact k _ _ (same_new hp _) ⟨p, rfl, by rw [upd_same, ← e.1, ← e.2]⟩
  · rintro σ H' Q1 Q2 hQ ⟨v, e, h0, b0, h1, h2, b1, e2, h3⟩
    exact ⟨v, e, h0, b0, h1, h2, b1, e2, hQ _ _ h3⟩
/-- the sum of the first ones -/
def psum (qs : List Rat) : Rat := qs.foldl (· + ·) 0
theorem psum_snoc (qs : List Rat) (q : Rat) : psum (qs ++ [q]) = psum qs + q := by unfold psum; rw [List.foldl_append]; rfl
theorem psum_take {qs : List Rat} {i : Nat} (h : i < qs.length) : psum (qs.take (i + 1)) = psum (qs.take i) + qs[i] := by
  rw [List.take_add_one, List.getElem?_eq_getElem h]
  exact psum_snoc _ _
end
end My

set_option Elab.async false
set_option linter.all false
set_option maxRecDepth 100000
set_option maxHeartbeats 4000000
namespace My
open PySem L2 MA
/-- rows of shares -/
def Rows (H : Hp) : List V → List (List Rat) → Prop := Paired (RuAt H)
theorem Rows.same {H H' : Hp} (s : Same H H') : ∀ {xs : List V} {M : List (List Rat)}, Rows H xs M → Rows H' xs M
  | _, _, .nil => .nil
  | _, _, .cons r t => .cons (r.same s) (Rows.same s t)
theorem RuAt.updL {H : Hp} {l : Addr} {zs : List V} {o : HO} {v : V} {qs : List Rat} (hl : H l = some (.lst zs)) (h : RuAt H v qs) : RuAt (upd H l o) v qs := let ⟨a, xs, e, h1, h2⟩ := h; ⟨a, xs, e, by rw [upd_ne (ne_of h1 hl (by intro z; cases z))]; exact h1, h2.updL hl⟩
theorem Rows.updL {H : Hp} {l : Addr} {zs : List V} {o : HO} (hl : H l = some (.lst zs)) : ∀ {xs : List V} {M : List (List Rat)}, Rows H xs M → Rows (upd H l o) xs M
  | _, _, .nil => .nil
  | _, _, .cons r t => .cons (r.updL hl) (Rows.updL hl t)
theorem Rows.snoc {H : Hp} {v : V} {r : List Rat} (h : RuAt H v r) : ∀ {xs : List V} {M : List (List Rat)}, Rows H xs M → Rows H (xs ++ [v]) (M ++ [r])
  | _, _, .nil => .cons h .nil
  | _, _, .cons r t => .cons r (Rows.snoc h t)
def MatAt (H : Hp) (v : V) (M : List (List Rat)) : Prop := ∃ t xs, v = .ref t ∧ H t = some (.tup xs) ∧ Rows H xs M
theorem MatAt.same {H H' : Hp} {v : V} {M : List (List Rat)} (h : MatAt H v M) (s : Same H H') : MatAt H' v M := let ⟨t, xs, e, h1, h2⟩ := h; ⟨t, xs, e, s _ _ h1, h2.same s⟩
theorem look_sh (q : Rat) : lookD (.tuple [.int q.num, .int (q.den : Int)]) = true := by
  have h1 := den_pos q
  have h2 : (1 : Int) ≤ q.den := by omega
  have h3 : gI q.num q.den = 1 := by
    unfold gI
    have := q.reduced
    unfold Nat.Coprime at this
    unfold Int.gcd
    rw [Int.natAbs_natCast, this]
    rfl
  simp [lookD, h2, h3]
theorem Rows.length {H : Hp} {xs : List V} {M : List (List Rat)} (h : Rows H xs M) : xs.length = M.length := Paired.length h
theorem Rows.at {H : Hp} {xs : List V} {M : List (List Rat)} {i : Nat} {x : V} (h : Rows H xs M) (e : xs[i]? = some x) : ∃ r, M[i]? = some r ∧ RuAt H x r := Paired.at' h e
/-- shares as plain data -/
def dsh (q : Rat) : PyData := .tuple [.int q.num, .int (q.den : Int)]
theorem dsh_inj {q r : Rat} (h : dsh q = dsh r) : q = r := by
  unfold dsh at h
  injection h with h
  injection h with h1 h
  injection h with h2 _
  injection h1 with h1
  injection h2 with h2
  exact Rat.ext h1 (by omega)
theorem dshs_inj : ∀ {qs rs : List Rat}, qs.map dsh = rs.map dsh → qs = rs
  | [], [], _ => rfl
  | q :: qs, r :: rs, h => by
    rw [List.map_cons, List.map_cons] at h
    injection h with h1 h2
    rw [dsh_inj h1, dshs_inj h2]
  | [], _ :: _, h => by simp at h
  | _ :: _, [], h => by simp at h
theorem cmp_sh (n : Nat) (q r : Rat) : cmpN (n + 1) (dsh q) (dsh r) := by
  intro p hp
  simp only [List.zip_cons_cons, List.zip_nil_left, List.mem_cons, List.not_mem_nil, or_false] at hp
  rcases hp with rfl | rfl <;> (cases n <;> exact trivial)
theorem cmp_shs (n : Nat) (qs rs : List Rat) : ∀ p ∈ (qs.map dsh).zip (rs.map dsh), cmpN (n + 1) p.1 p.2 := by
  intro p hp
  obtain ⟨a, _, ha⟩ := List.mem_map.mp (List.of_mem_zip (a := p.1) (b := p.2) hp).1
  obtain ⟨b, _, hb⟩ := List.mem_map.mp (List.of_mem_zip (a := p.1) (b := p.2) hp).2
  rw [← ha, ← hb]
  exact cmp_sh n a b
theorem shs_data {H : Hp} : ∀ {xs : List V} {qs : List Rat}, Shs H xs qs → DataL H xs (qs.map dsh)
  | _, _, .nil => .nil
  | _, _, .cons r t => .cons (sh_data r) (shs_data t)
section
variable {P : Program} {w : World} {K : PySem.W.Frag} {mg : Str → Option Value} {base : Heap}
/-- a tuple or a list of shares, summed -/
def spSumG : Sp := fun vs H Q _ => ∃ (a : Addr) (xs : List V) (qs : List Rat), vs = [.ref a] ∧ (H a = some (.tup xs) ∨ H a = some (.lst xs)) ∧ Shs H xs qs ∧ (∀ q ∈ qs, 0 ≤ q ∧ SB 3000 q) ∧ (∀ i, SB 3000 (psum (qs.take i))) ∧ ∀ v H', Same H H' → ShAt H' v (psum qs) → Q v H'
theorem ok_sumG (T : Txt2 mg) (C_l_share : Cal P w K mg base "_law_share" ["_law_top", "_law_bottom"] 1 spShareL) (F : FunAt K mg "_law_sum" ["_law_some"] s_l_sum) : Cal P w K mg base "_law_sum" ["_law_some"] 2 spSumG := by
  have S := sc_l_sum
  refine F.cal sc_l_sum (fun vs H Q E h => ?_) (fun f cdv A outer s H vs Q E hr h => ?_)
  · obtain ⟨a, xs, qs, rfl, _⟩ := h; rfl
  obtain ⟨a, xs, qs, rfl, ha | ha, sh, hq, hp, k⟩ := h <;> have sl := sh.length
  · refine ⟨_, (@pss_cons _ _ _ _ _ (@ps_set _ _ (1) _ _ _ _ (by exact S.nd) (by rfl) (by first | exact Or.inl rfl | exact Or.inr rfl) pe_int (by first|rfl|decide|exact .inl rfl|exact .inr rfl|(intros; rfl)) (by first|rfl|decide|exact .inl rfl|exact .inr rfl|(intros; rfl))) (@pss_cons _ _ _ _ _ (@ps_set _ _ (2) _ _ _ _ (by exact S.nd) (by rfl) (by first | exact Or.inl rfl | exact Or.inr rfl) pe_int (by first|rfl|decide|exact .inl rfl|exact .inr rfl|(intros; rfl)) (by first|rfl|decide|exact .inl rfl|exact .inr rfl|(intros; rfl))) (@pss_cons _ _ _ _ _ (@ps_for _ _ _ _ _ _ _ _ (by exact PassesOwn.never) (by rfl) (@pi_tup _ _ _ _ (pv 0)) (@pg_name _ _ (3) _ (by exact S.nd) (by rfl) (by first | exact Or.inl rfl | exact Or.inr rfl) (by first|rfl|decide|exact .inl rfl|exact .inr rfl|(intros; rfl))) (@pss_one _ _ _ (@ps_asg _ _ _ _ _ _ (@cc _ _ _ _ _ _ _ _ _ _ (by exact C_l_share) (by exact (hr.mono (by decide))) (@pa_consN _ _ _ _ _ (@pe_op _ _ _ _ _ _ _ _ op_add (@pe_op _ _ _ _ _ _ _ _ op_mulB (pv 1) (@pe_ix _ _ _ _ _ _ _ ix_tup (pv 3) pe_int (by exact (fun _ _ => rfl)))) (@pe_op _ _ _ _ _ _ _ _ op_mulB (@pe_ix _ _ _ _ _ _ _ ix_tup (pv 3) pe_int (by exact (fun _ _ => rfl))) (pv 2))) (@pa_consN _ _ _ _ _ (@pe_op _ _ _ _ _ _ _ _ op_mulB (pv 2) (@pe_ix _ _ _ _ _ _ _ ix_tup (pv 3) pe_int (by exact (fun _ _ => rfl)))) pa_nil (by first|rfl|decide|exact .inl rfl|exact .inr rfl|(intros; rfl))) (by first|rfl|decide|exact .inl rfl|exact .inr rfl|(intros; rfl))) (by first|rfl|decide|exact .inl rfl|exact .inr rfl|(intros; rfl)) (by first|rfl|decide|exact .inl rfl|exact .inr rfl|(intros; rfl)) (by first|rfl|decide|exact .inl rfl|exact .inr rfl|(intros; rfl)) (by first|rfl|decide|exact .inl rfl|exact .inr rfl|(intros; rfl))) (@pg_tup _ _ _ _ _ _ (by rfl) (@pgs_cons _ _ _ _ _ (@pg_name _ _ (1) _ (by exact S.nd) (by rfl) (by first | exact Or.inl rfl | exact Or.inr rfl) (by first|rfl|decide|exact .inl rfl|exact .inr rfl|(intros; rfl))) (@pgs_cons _ _ _ _ _ (@pg_name _ _ (2) _ (by exact S.nd) (by rfl) (by first | exact Or.inl rfl | exact Or.inr rfl) (by first|rfl|decide|exact .inl rfl|exact .inr rfl|(intros; rfl))) pgs_nil (by first|rfl|decide|exact .inl rfl|exact .inr rfl|(intros; rfl))) (by first|rfl|decide|exact .inl rfl|exact .inr rfl|(intros; rfl))) (by first|rfl|decide|exact .inl rfl|exact .inr rfl|(intros; rfl)) (by first|rfl|decide|exact .inl rfl|exact .inr rfl|(intros; rfl))) (by first|rfl|decide|exact .inl rfl|exact .inr rfl|(intros; rfl)) (by first|rfl|decide|exact .inl rfl|exact .inr rfl|(intros; rfl)) (by first|rfl|decide|exact .inl rfl|exact .inr rfl|(intros; rfl)))) (by first|rfl|decide|exact .inl rfl|exact .inr rfl|(intros; rfl))) (@pss_one _ _ _ (@ps_ret _ _ _ _ (@pe_tup _ _ _ _ _ (@pa_consN _ _ _ _ _ (pv 1) (@pa_consN _ _ _ _ _ (pv 2) pa_nil (by first|rfl|decide|exact .inl rfl|exact .inr rfl|(intros; rfl))) (by first|rfl|decide|exact .inl rfl|exact .inr rfl|(intros; rfl))))))))), ?_⟩
    refine ⟨_, rfl, a, rfl, ⟨_, SqT.of ha⟩, for_tup (xs := xs) (fun i σ H' => (∃ o3, σ = [some (.ref a), some (.int (psum (qs.take i)).num), some (.int ((psum (qs.take i)).den : Int)), o3]) ∧ Same H H' ∧ 0 ≤ psum (qs.take i)) ⟨⟨_, rfl⟩, Same.refl _, (show (0 : Rat) ≤ 0 by decide)⟩ (fun i σ H' _ h => SqT.of (h.2.1 _ _ ha)) ?_ ?_⟩
    · rintro i v σ H1 hv ⟨⟨o3, rfl⟩, s1, p0⟩
      obtain ⟨hi, _⟩ := List.getElem?_eq_some_iff.mp hv
      obtain ⟨q, eq, t, rfl, ht⟩ := sh.at hv
      obtain ⟨hi2, e2⟩ := List.getElem?_eq_some_iff.mp eq
      obtain ⟨q0, qb⟩ := hq q (List.mem_of_getElem? eq)
      have pt := psum_take hi2
      rw [e2] at pt
      have pb := hp i
      have ht1 := s1 _ _ ht
      generalize psum (qs.take i) = S at p0 pb pt
      have big : ∀ {x : Int}, Bt 3000 x → Bt 20000 x := fun h => h.mono (by decide)
      have t0 : 0 ≤ S.num * (q.den : Int) + q.num * (S.den : Int) := by
        have h1 := Int.mul_nonneg (Rat.num_nonneg.mpr p0) (Int.natCast_nonneg q.den)
        have h2 := Int.mul_nonneg (Rat.num_nonneg.mpr q0) (Int.natCast_nonneg S.den)
        omega
      have b0 : 0 < (S.den : Int) * (q.den : Int) := den_mul_pos S q
      have bb : Bt 8000 ((S.den : Int) * (q.den : Int)) := (pb.2.mul qb.2).mono (by decide)
      refine ⟨_, rfl, _, rfl, t, _, _, _, rfl, rfl, SqT.of ht1, rfl, _, _, rfl, rfl, ⟨big pb.1, big qb.2⟩, _, rfl, t, _, _, _, rfl, rfl, SqT.of ht1, rfl, _, rfl, _, _, rfl, rfl, ⟨big qb.1, big pb.2⟩, _, _, rfl, rfl, _, rfl, _, rfl, t, _, _, _, rfl, rfl, SqT.of ht1, rfl, _, _, rfl, rfl, ⟨big pb.2, big qb.2⟩, _, _, rfl, t0, b0, bb, fun v H2 s2 hs => ?_⟩
      rw [← add_div S q, ← pt] at hs
      obtain ⟨p, rfl, hp⟩ := hs
      refine ⟨p, _, rfl, SqT.of hp, rfl, _, _, rfl, _, _, rfl, rfl, ?_⟩
      refine ⟨⟨_, rfl⟩, s1.trans s2, ?_⟩
      rw [pt]; exact Rat.add_nonneg p0 q0
    · rintro σ H1 ⟨⟨o3, rfl⟩, s1, p0⟩
      rw [sl, List.take_length] at p0 ⊢
      exact ⟨_, rfl, _, rfl, lz 2 rfl, fun p hp => k _ _ (s1.trans (same_new hp _)) ⟨p, rfl, upd_same⟩⟩
  · refine ⟨_, (@pss_cons _ _ _ _ _ (@ps_set _ _ (1) _ _ _ _ (by exact S.nd) (by rfl) (by first | exact Or.inl rfl | exact Or.inr rfl) pe_int (by first|rfl|decide|exact .inl rfl|exact .inr rfl|(intros; rfl)) (by first|rfl|decide|exact .inl rfl|exact .inr rfl|(intros; rfl))) (@pss_cons _ _ _ _ _ (@ps_set _ _ (2) _ _ _ _ (by exact S.nd) (by rfl) (by first | exact Or.inl rfl | exact Or.inr rfl) pe_int (by first|rfl|decide|exact .inl rfl|exact .inr rfl|(intros; rfl)) (by first|rfl|decide|exact .inl rfl|exact .inr rfl|(intros; rfl))) (@pss_cons _ _ _ _ _ (@ps_for _ _ _ _ _ _ _ _ (by exact PassesOwn.never) (by rfl) (@pi_list _ _ _ _ (pv 0)) (@pg_name _ _ (3) _ (by exact S.nd) (by rfl) (by first | exact Or.inl rfl | exact Or.inr rfl) (by first|rfl|decide|exact .inl rfl|exact .inr rfl|(intros; rfl))) (@pss_one _ _ _ (@ps_asg _ _ _ _ _ _ (@cc _ _ _ _ _ _ _ _ _ _ (by exact C_l_share) (by exact (hr.mono (by decide))) (@pa_consN _ _ _ _ _ (@pe_op _ _ _ _ _ _ _ _ op_add (@pe_op _ _ _ _ _ _ _ _ op_mulB (pv 1) (@pe_ix _ _ _ _ _ _ _ ix_tup (pv 3) pe_int (by exact (fun _ _ => rfl)))) (@pe_op _ _ _ _ _ _ _ _ op_mulB (@pe_ix _ _ _ _ _ _ _ ix_tup (pv 3) pe_int (by exact (fun _ _ => rfl))) (pv 2))) (@pa_consN _ _ _ _ _ (@pe_op _ _ _ _ _ _ _ _ op_mulB (pv 2) (@pe_ix _ _ _ _ _ _ _ ix_tup (pv 3) pe_int (by exact (fun _ _ => rfl)))) pa_nil (by first|rfl|decide|exact .inl rfl|exact .inr rfl|(intros; rfl))) (by first|rfl|decide|exact .inl rfl|exact .inr rfl|(intros; rfl))) (by first|rfl|decide|exact .inl rfl|exact .inr rfl|(intros; rfl)) (by first|rfl|decide|exact .inl rfl|exact .inr rfl|(intros; rfl)) (by first|rfl|decide|exact .inl rfl|exact .inr rfl|(intros; rfl)) (by first|rfl|decide|exact .inl rfl|exact .inr rfl|(intros; rfl))) (@pg_tup _ _ _ _ _ _ (by rfl) (@pgs_cons _ _ _ _ _ (@pg_name _ _ (1) _ (by exact S.nd) (by rfl) (by first | exact Or.inl rfl | exact Or.inr rfl) (by first|rfl|decide|exact .inl rfl|exact .inr rfl|(intros; rfl))) (@pgs_cons _ _ _ _ _ (@pg_name _ _ (2) _ (by exact S.nd) (by rfl) (by first | exact Or.inl rfl | exact Or.inr rfl) (by first|rfl|decide|exact .inl rfl|exact .inr rfl|(intros; rfl))) pgs_nil (by first|rfl|decide|exact .inl rfl|exact .inr rfl|(intros; rfl))) (by first|rfl|decide|exact .inl rfl|exact .inr rfl|(intros; rfl))) (by first|rfl|decide|exact .inl rfl|exact .inr rfl|(intros; rfl)) (by first|rfl|decide|exact .inl rfl|exact .inr rfl|(intros; rfl))) (by first|rfl|decide|exact .inl rfl|exact .inr rfl|(intros; rfl)) (by first|rfl|decide|exact .inl rfl|exact .inr rfl|(intros; rfl)) (by first|rfl|decide|exact .inl rfl|exact .inr rfl|(intros; rfl)))) (by first|rfl|decide|exact .inl rfl|exact .inr rfl|(intros; rfl))) (@pss_one _ _ _ (@ps_ret _ _ _ _ (@pe_tup _ _ _ _ _ (@pa_consN _ _ _ _ _ (pv 1) (@pa_consN _ _ _ _ _ (pv 2) pa_nil (by first|rfl|decide|exact .inl rfl|exact .inr rfl|(intros; rfl))) (by first|rfl|decide|exact .inl rfl|exact .inr rfl|(intros; rfl))))))))), ?_⟩
    refine ⟨_, rfl, a, rfl, ⟨_, SqL.of ha⟩, for_list (xs := xs) (fun i σ H' => (∃ o3, σ = [some (.ref a), some (.int (psum (qs.take i)).num), some (.int ((psum (qs.take i)).den : Int)), o3]) ∧ Same H H' ∧ 0 ≤ psum (qs.take i)) ⟨⟨_, rfl⟩, Same.refl _, (show (0 : Rat) ≤ 0 by decide)⟩ (fun i σ H' _ h => SqL.of (h.2.1 _ _ ha)) ?_ ?_⟩
    · rintro i v σ H1 hv ⟨⟨o3, rfl⟩, s1, p0⟩
      obtain ⟨hi, _⟩ := List.getElem?_eq_some_iff.mp hv
      obtain ⟨q, eq, t, rfl, ht⟩ := sh.at hv
      obtain ⟨hi2, e2⟩ := List.getElem?_eq_some_iff.mp eq
      obtain ⟨q0, qb⟩ := hq q (List.mem_of_getElem? eq)
      have pt := psum_take hi2
      rw [e2] at pt
      have pb := hp i
      have ht1 := s1 _ _ ht
      generalize psum (qs.take i) = S at p0 pb pt
      have big : ∀ {x : Int}, Bt 3000 x → Bt 20000 x := fun h => h.mono (by decide)
      have t0 : 0 ≤ S.num * (q.den : Int) + q.num * (S.den : Int) := by
        have h1 := Int.mul_nonneg (Rat.num_nonneg.mpr p0) (Int.natCast_nonneg q.den)
        have h2 := Int.mul_nonneg (Rat.num_nonneg.mpr q0) (Int.natCast_nonneg S.den)
        omega
      have b0 : 0 < (S.den : Int) * (q.den : Int) := den_mul_pos S q
      have bb : Bt 8000 ((S.den : Int) * (q.den : Int)) := (pb.2.mul qb.2).mono (by decide)
      refine ⟨_, rfl, _, rfl, t, _, _, _, rfl, rfl, SqT.of ht1, rfl, _, _, rfl, rfl, ⟨big pb.1, big qb.2⟩, _, rfl, t, _, _, _, rfl, rfl, SqT.of ht1, rfl, _, rfl, _, _, rfl, rfl, ⟨big qb.1, big pb.2⟩, _, _, rfl, rfl, _, rfl, _, rfl, t, _, _, _, rfl, rfl, SqT.of ht1, rfl, _, _, rfl, rfl, ⟨big pb.2, big qb.2⟩, _, _, rfl, t0, b0, bb, fun v H2 s2 hs => ?_⟩
      rw [← add_div S q, ← pt] at hs
      obtain ⟨p, rfl, hp⟩ := hs
      refine ⟨p, _, rfl, SqT.of hp, rfl, _, _, rfl, _, _, rfl, rfl, ?_⟩
      refine ⟨⟨_, rfl⟩, s1.trans s2, ?_⟩
      rw [pt]; exact Rat.add_nonneg p0 q0
    · rintro σ H1 ⟨⟨o3, rfl⟩, s1, p0⟩
      rw [sl, List.take_length] at p0 ⊢
      exact ⟨_, rfl, _, rfl, lz 2 rfl, fun p hp => k _ _ (s1.trans (same_new hp _)) ⟨p, rfl, upd_same⟩⟩
end
end My

set_option Elab.async false
set_option linter.all false
set_option maxRecDepth 100000
set_option maxHeartbeats 1000000
namespace My
open PySem L2 MA Srt PySem.Spec
theorem gN_ {i : Nat} {v : V} {σ : St} {H : Hp} {Q : St → Hp → Prop} (h : Q (σ.set i (some v)) H) : gName i v σ H Q := h
theorem tT_ {σ : St} {H : Hp} {Q : Bool → Hp → Prop} (h : Q true H) : tTT σ H Q := h
theorem none_of {H H' : Hp} {p : Addr} (s : Same H H') (h : H' p = none) : H p = none := by
  cases e : H p with
  | none => rfl
  | some o => rw [s _ _ e] at h; cases h
theorem DataL.get' {H : Hp} : ∀ {xs : List V} {ds : List PyData} {i : Nat} {x : V}, DataL H xs ds → xs[i]? = some x → ∃ d, ds[i]? = some d ∧ DataV H x d
  | _, _, i, _, .nil, h => by simp at h
  | _, _, 0, _, .cons hx r, h => by
    have := Option.some.inj (by simpa using h)
    subst this
    exact ⟨_, rfl, hx⟩
  | _, _, i + 1, _, .cons hx r, h => by
    obtain ⟨d, h1, h2⟩ := DataL.get' (i := i) r (by simpa using h)
    exact ⟨d, by simpa using h1, h2⟩
/-- a share as data -/
theorem look_ex {e : PyData} (h : lookD e = true) : ∃ q : Rat, e = dsh q := by
  unfold lookD at h
  split at h
  · rename_i a b
    simp only [Bool.and_eq_true, decide_eq_true_eq] at h
    obtain ⟨h1, h2⟩ := h
    obtain ⟨n, rfl⟩ : ∃ n : Nat, b = n := ⟨b.toNat, by omega⟩
    have n0 : n ≠ 0 := by omega
    have red : a.natAbs.Coprime n := by
      unfold gI Int.gcd at h2
      unfold Nat.Coprime
      rw [Int.natAbs_natCast] at h2
      omega
    exact ⟨⟨a, n, n0, red⟩, rfl⟩
  · cases h
def topD : PyData → Int
  | .tuple (.int a :: _) => a
  | _ => 0
/-- a share that is not below nought -/
def nnD (e : PyData) : Bool := lookD e && decide (topD e ≥ 0)
theorem nn_ex {e : PyData} (h : nnD e = true) : ∃ q : Rat, e = dsh q ∧ 0 ≤ q := by
  unfold nnD at h
  rw [Bool.and_eq_true] at h
  obtain ⟨q, rfl⟩ := look_ex h.1
  refine ⟨q, rfl, Rat.num_nonneg.mp ?_⟩
  have := of_decide_eq_true h.2
  exact this
theorem nn_sh {q : Rat} (h : 0 ≤ q) : nnD (dsh q) = true := by
  unfold nnD
  rw [show lookD (dsh q) = true from look_sh q]
  have : topD (dsh q) = q.num := rfl
  rw [this]
  simpa using h
def rowT (n : Nat) : PyData → Bool
  | .tuple es => decide (es.length = n)
  | _ => false
def rowS : PyData → Bool
  | .tuple es => es.all nnD
  | _ => true
def sqD (n : Nat) : PyData → Bool
  | .tuple ds => decide (ds.length = n) && ds.all (rowT n) && ds.all rowS
  | _ => false
theorem row_ex {es : List PyData} : es.all nnD = true → ∃ qs : List Rat, es = qs.map dsh ∧ ∀ q ∈ qs, 0 ≤ q := by
  induction es with
  | nil => exact fun _ => ⟨[], rfl, fun q hq => by simp at hq⟩
  | cons e es ih =>
    intro h
    rw [List.all_cons, Bool.and_eq_true] at h
    obtain ⟨q, rfl, q0⟩ := nn_ex h.1
    obtain ⟨qs, rfl, h2⟩ := ih h.2
    refine ⟨q :: qs, rfl, fun r hr => ?_⟩
    rcases List.mem_cons.mp hr with rfl | z
    · exact q0
    · exact h2 r z
def partsB : PyData → List Bool
  | .tuple es => es.map nnD
  | _ => []
theorem parts_all (ds : List PyData) : (ds.flatMap partsB).all id = ds.all rowS := by
  induction ds with
  | nil => rfl
  | cons d ds ih =>
    rw [List.flatMap_cons, List.all_append, List.all_cons, ih]
    congr 1
    cases d <;> simp [partsB, rowS]
def matD (M : List (List Rat)) : PyData := .tuple (M.map fun r => .tuple (r.map dsh))
theorem sq_ex {n : Nat} {d : PyData} (h : sqD n d = true) : ∃ M : List (List Rat), d = matD M ∧ M.length = n ∧ ∀ r ∈ M, r.length = n ∧ ∀ q ∈ r, 0 ≤ q := by
  unfold sqD at h
  split at h
  · rename_i ds
    rw [Bool.and_eq_true, Bool.and_eq_true] at h
    obtain ⟨⟨h1, h2⟩, h3⟩ := h
    have h1 := of_decide_eq_true h1
    have key : ∀ ds : List PyData, ds.all (rowT n) = true → ds.all rowS = true → ∃ M : List (List Rat), ds = M.map (fun r => .tuple (r.map dsh)) ∧ ∀ r ∈ M, r.length = n ∧ ∀ q ∈ r, 0 ≤ q := by
      intro ds
      induction ds with
      | nil => exact fun _ _ => ⟨[], rfl, fun r hr => by simp at hr⟩
      | cons d ds ih =>
        intro a b
        rw [List.all_cons, Bool.and_eq_true] at a b
        obtain ⟨M, rfl, hM⟩ := ih a.2 b.2
        have a1 := a.1
        have b1 := b.1
        unfold rowT at a1
        split at a1
        · rename_i es
          obtain ⟨qs, rfl, q0⟩ := row_ex b1
          refine ⟨qs :: M, rfl, fun r hr => ?_⟩
          rcases List.mem_cons.mp hr with rfl | z
          · exact ⟨by have := of_decide_eq_true a1; simpa using this, q0⟩
          · exact hM r z
        · cases a1
    obtain ⟨M, rfl, hM⟩ := key ds h2 h3
    exact ⟨M, rfl, by simpa using h1, hM⟩
  · cases h
theorem sq_of {M : List (List Rat)} {n : Nat} (l : M.length = n) (h : ∀ r ∈ M, r.length = n ∧ ∀ q ∈ r, 0 ≤ q) : sqD n (matD M) = true := by
  unfold sqD matD
  rw [Bool.and_eq_true, Bool.and_eq_true]
  refine ⟨⟨decide_eq_true (by simpa using l), ?_⟩, ?_⟩
  · rw [List.all_eq_true]
    intro d hd
    obtain ⟨r, hr, rfl⟩ := List.mem_map.mp hd
    exact decide_eq_true (by simpa using (h r hr).1)
  · rw [List.all_eq_true]
    intro d hd
    obtain ⟨r, hr, rfl⟩ := List.mem_map.mp hd
    show (r.map dsh).all nnD = true
    rw [List.all_eq_true]
    intro e he
    obtain ⟨q, hq, rfl⟩ := List.mem_map.mp he
    exact nn_sh ((h r hr).2 q hq)
theorem sh_of_data {H : Hp} {v : V} {q : Rat} (h : DataV H v (dsh q)) : ShAt H v q := by
  cases h with
  | @tup a xs ds ha hl =>
    cases hl with
    | cons h1 h2 =>
      cases h2 with
      | cons h3 h4 =>
        cases h4
        cases h1
        cases h3
        exact ⟨a, rfl, ha⟩
theorem shs_of_data {H : Hp} : ∀ {qs : List Rat} {vs : List V}, DataL H vs (qs.map dsh) → Shs H vs qs
  | [], _, .nil => .nil
  | q :: qs, _, .cons a t => .cons (sh_of_data a) (shs_of_data t)
theorem rows_of_data {H : Hp} : ∀ {M : List (List Rat)} {vs : List V}, DataL H vs (M.map fun r => .tuple (r.map dsh)) → Rows H vs M
  | [], _, .nil => .nil
  | r :: M, _, .cons a t => by
    refine .cons ?_ (rows_of_data t)
    cases a with
    | @tup b xs ds hb hl => exact ⟨b, xs, rfl, hb, shs_of_data hl⟩
theorem mat_of_data {H : Hp} {v : V} {M : List (List Rat)} (h : DataV H v (matD M)) : MatAt H v M := by
  cases h with
  | @tup b xs ds hb hl => exact ⟨b, xs, rfl, hb, rows_of_data hl⟩
section
variable {P : Program} {w : World} {K : PySem.W.Frag} {mg : Str → Option Value} {base : Heap}
def spSquareD : Sp := fun vs H Q _ => ∃ (v : V) (n : Nat) (d : PyData), vs = [v, .int (n : Int)] ∧ DataV H v d ∧ n ≤ 12 ∧ (∀ ds, d = .tuple ds → ds.length ≤ 1000) ∧ ∀ H', Same H H' → Q (.bl (sqD n d)) H'
theorem ok_squareD (T : Txt2 mg) (C_is_share : Cal P w K mg base "is_share" ["thing"] 2 spLookV) (F : FunAt K mg "is_square" ["thing", "n"] s_is_square) : Cal P w K mg base "is_square" ["thing", "n"] 3 spSquareD := by
  have S := sc_is_square
  refine F.cal sc_is_square (fun vs H Q E h => ?_) (fun f cdv A outer s H vs Q E hr h => ?_)
  · obtain ⟨v, n, d, rfl, _⟩ := h; rfl
  obtain ⟨v, n, d, rfl, hd, n12, few, k⟩ := h
  refine ⟨_, (@pss_cons _ _ _ _ _ (@ps_if _ _ _ _ _ _ _ _ (@PW.pt _ _ _ (@pw_or _ _ _ _ _ _ _ (@pt_not _ _ _ _ (@pt_val _ _ _ (@pe_callB _ _ _ _ _ _ _ _ _ (call_isi_K K (by rfl)) (by rfl) (by exact T.z_isinstance) (by exact bt_isinstance) (@pa_consN _ _ _ _ _ (pv 0) (@pa_consN _ _ _ _ _ (@pe_bltn _ _ (.ty "tuple") _ _ (by rfl) (by exact T.z_tuple) (by exact bt_tuple) (by rfl) (by first|rfl|decide|exact .inl rfl|exact .inr rfl|(intros; rfl)) (by first|rfl|decide|exact .inl rfl|exact .inr rfl|(intros; rfl))) pa_nil (by first|rfl|decide|exact .inl rfl|exact .inr rfl|(intros; rfl))) (by first|rfl|decide|exact .inl rfl|exact .inr rfl|(intros; rfl))) (by first|rfl|decide|exact .inl rfl|exact .inr rfl|(intros; rfl)) (by first|rfl|decide|exact .inl rfl|exact .inr rfl|(intros; rfl)) (by first|rfl|decide|exact .inl rfl|exact .inr rfl|(intros; rfl)) (by first|rfl|decide|exact .inl rfl|exact .inr rfl|(intros; rfl))) (by first|rfl|decide|exact .inl rfl|exact .inr rfl|(intros; rfl)))) (@pw_or1 _ _ _ _ (@pt_cmpR _ _ _ _ _ _ _ _ op_ne (@pe_callB _ _ _ _ _ _ _ _ _ (call_len_K K (by rfl)) (by rfl) (by exact T.z_len) (by exact bt_len) (@pa_consN _ _ _ _ _ (pv 0) pa_nil (by first|rfl|decide|exact .inl rfl|exact .inr rfl|(intros; rfl))) (by first|rfl|decide|exact .inl rfl|exact .inr rfl|(intros; rfl)) (by first|rfl|decide|exact .inl rfl|exact .inr rfl|(intros; rfl)) (by first|rfl|decide|exact .inl rfl|exact .inr rfl|(intros; rfl)) (by first|rfl|decide|exact .inl rfl|exact .inr rfl|(intros; rfl))) (pv 1) (by exact (nomark _)))))) (@pss_one _ _ _ (@ps_ret _ _ _ _ pe_bl)) pss_nil) (@pss_cons _ _ _ _ _ (@ps_if _ _ _ _ _ _ _ _ (@pt_not _ _ _ _ (@pt_val _ _ _ (@pe_callB _ _ _ _ _ _ _ _ _ (call_all (by rfl)) (by rfl) (by exact T.z_all) (by exact bt_all) (@pa_consN _ _ _ _ _ (@pe_comp _ _ _ _ _ _ _ _ _ _ _ _ _ (by rfl) (by exact (fun _ _ h => h)) (by decide +kernel) (by rfl) (by decide +kernel) (by exact hfr_of rfl) (by exact Sees.frees ["row"] [("n", 1)] (fr_cons ⟨rfl, rfl⟩ fr_nil)) (@pi_tup_K _ _ _ _ K (by rfl) (pv 0)) (fun _ _ _ _ _ => @pg_name _ _ (0) _ (by exact (show (["row", "n"] : List Str).Nodup by decide +kernel)) (by rfl) (by first | exact Or.inl rfl | exact Or.inr rfl) (by first|rfl|decide|exact .inl rfl|exact .inr rfl|(intros; rfl))) (fun _ _ _ _ _ => pts_nil) (fun _ _ _ _ _ => (@pe_and _ _ _ _ _ _ _ (@pe_callB _ _ _ _ _ _ _ _ _ (call_isi_K K (by rfl)) (by rfl) (by exact T.z_isinstance) (by exact bt_isinstance) (@pa_consN _ _ _ _ _ (pv 0) (@pa_consN _ _ _ _ _ (@pe_bltn _ _ (.ty "tuple") _ _ (by rfl) (by exact T.z_tuple) (by exact bt_tuple) (by rfl) (by first|rfl|decide|exact .inl rfl|exact .inr rfl|(intros; rfl)) (by first|rfl|decide|exact .inl rfl|exact .inr rfl|(intros; rfl))) pa_nil (by first|rfl|decide|exact .inl rfl|exact .inr rfl|(intros; rfl))) (by first|rfl|decide|exact .inl rfl|exact .inr rfl|(intros; rfl))) (by first|rfl|decide|exact .inl rfl|exact .inr rfl|(intros; rfl)) (by first|rfl|decide|exact .inl rfl|exact .inr rfl|(intros; rfl)) (by first|rfl|decide|exact .inl rfl|exact .inr rfl|(intros; rfl)) (by first|rfl|decide|exact .inl rfl|exact .inr rfl|(intros; rfl))) (@pe_one _ _ _ _ _ (@pe_cmpR _ _ _ _ _ _ _ _ op_eq (@pe_callB _ _ _ _ _ _ _ _ _ (call_len_K K (by rfl)) (by rfl) (by exact T.z_len) (by exact bt_len) (@pa_consN _ _ _ _ _ (pv 0) pa_nil (by first|rfl|decide|exact .inl rfl|exact .inr rfl|(intros; rfl))) (by first|rfl|decide|exact .inl rfl|exact .inr rfl|(intros; rfl)) (by first|rfl|decide|exact .inl rfl|exact .inr rfl|(intros; rfl)) (by first|rfl|decide|exact .inl rfl|exact .inr rfl|(intros; rfl)) (by first|rfl|decide|exact .inl rfl|exact .inr rfl|(intros; rfl))) (pv 1) (by exact (nomark _)))))) (by first|rfl|decide|exact .inl rfl|exact .inr rfl|(intros; rfl))) pa_nil (by first|rfl|decide|exact .inl rfl|exact .inr rfl|(intros; rfl))) (by first|rfl|decide|exact .inl rfl|exact .inr rfl|(intros; rfl)) (by first|rfl|decide|exact .inl rfl|exact .inr rfl|(intros; rfl)) (by first|rfl|decide|exact .inl rfl|exact .inr rfl|(intros; rfl)) (by first|rfl|decide|exact .inl rfl|exact .inr rfl|(intros; rfl))) (by first|rfl|decide|exact .inl rfl|exact .inr rfl|(intros; rfl)))) (@pss_one _ _ _ (@ps_ret _ _ _ _ pe_bl)) pss_nil) (@pss_one _ _ _ (@ps_ret _ _ _ _ (@pe_callB _ _ _ _ _ _ _ _ _ (call_all (by rfl)) (by rfl) (by exact T.z_all) (by exact bt_all) (@pa_consN _ _ _ _ _ (@pe_comp2 _ _ _ _ _ _ _ _ _ _ _ _ _ _ _ _ _ _ _ (by rfl) (by exact (fun _ _ h => h)) (by decide +kernel) (by rfl) (by decide +kernel) (by exact hfr_of rfl) (by exact Sees.frees ["row", "part"] [] fr_nil) (@pi_tup_K _ _ _ _ K (by rfl) (pv 0)) (fun _ _ _ _ _ => (@pg_name _ _ (0) _ (by exact (show (["row", "part"] : List Str).Nodup by decide +kernel)) (by rfl) (by first | exact Or.inl rfl | exact Or.inr rfl) (by first|rfl|decide|exact .inl rfl|exact .inr rfl|(intros; rfl)))) (fun _ _ _ _ _ => pts_nil) (fun _ _ _ _ _ => (@pi_tup_K _ _ _ _ K (by rfl) (pv 0))) (fun _ _ _ _ _ => (@pg_name _ _ (1) _ (by exact (show (["row", "part"] : List Str).Nodup by decide +kernel)) (by rfl) (by first | exact Or.inl rfl | exact Or.inr rfl) (by first|rfl|decide|exact .inl rfl|exact .inr rfl|(intros; rfl)))) (fun _ _ _ _ _ => pts_nil) (fun _ _ _ _ _ => (@pe_and _ _ _ _ _ _ _ (@cc _ _ _ _ _ _ _ _ _ _ (by exact C_is_share) (by exact (hr.mono (by decide))) (@pa_consN _ _ _ _ _ (pv 1) pa_nil (by first|rfl|decide|exact .inl rfl|exact .inr rfl|(intros; rfl))) (by first|rfl|decide|exact .inl rfl|exact .inr rfl|(intros; rfl)) (by first|rfl|decide|exact .inl rfl|exact .inr rfl|(intros; rfl)) (by first|rfl|decide|exact .inl rfl|exact .inr rfl|(intros; rfl)) (by first|rfl|decide|exact .inl rfl|exact .inr rfl|(intros; rfl))) (@pe_one _ _ _ _ _ (@pe_cmpR _ _ _ _ _ _ _ _ op_ge (@pe_ix _ _ _ _ _ _ _ ix_tup0 (pv 1) pe_int (by exact (fun _ _ => rfl))) pe_int (by exact (nomark _)))))) (by first|rfl|decide|exact .inl rfl|exact .inr rfl|(intros; rfl)) (by first|rfl|decide|exact .inl rfl|exact .inr rfl|(intros; rfl))) pa_nil (by first|rfl|decide|exact .inl rfl|exact .inr rfl|(intros; rfl))) (by first|rfl|decide|exact .inl rfl|exact .inr rfl|(intros; rfl)) (by first|rfl|decide|exact .inl rfl|exact .inr rfl|(intros; rfl)) (by first|rfl|decide|exact .inl rfl|exact .inr rfl|(intros; rfl)) (by first|rfl|decide|exact .inl rfl|exact .inr rfl|(intros; rfl))))))), ?_⟩
  obtain ⟨ty, hty, _, _, e3, _⟩ := tyOf (K := K) hd
  refine ⟨_, rfl, _, _, _, _, rfl, hty, e3, _, rfl, ?_⟩
  clear hty
  cases hd with
  | @tup t xs ds ht hl =>
    have lx := hl.length
    have few' := few ds rfl
    refine iteF ?_
    refine ⟨_, rfl, t, _, rfl, .inr (SqT.of ht), _, rfl, rfl, _, rfl, ?_⟩
    refine ite2 (fun c => ?_) (fun c => ?_)
    · have ne : ds.length ≠ n := fun z => by
        have : V.int (xs.length : Int) = V.int (n : Int) := by rw [lx, z]
        simp [this] at c
      have := k H (Same.refl _)
      rw [show sqD n (.tuple ds) = false by simp [sqD, ne]] at this
      exact this
    have en : ds.length = n := by
      have : V.int (xs.length : Int) = V.int (n : Int) := by simpa using c
      have := V.int.inj this
      omega
    refine ⟨_, rfl, t, rfl, ⟨_, SqT.of ht⟩, comp_tp (a := t) (xs := xs) (fs := [some (.int (n : Int))]) (fun acc i ys H' => Same H H' ∧ ys = ((ds.take i).map (rowT n)).map V.bl) (by omega) ?_ ?_ ?_ ?_⟩
    · exact fun acc hacc => ⟨same_new hacc _, rfl⟩
    · rintro acc i ys H' hacc ⟨s', _⟩
      exact s' _ _ ht
    · rintro acc i ys H' x hacc hx hl' ⟨s', rfl⟩ hacc' Q' hQ
      obtain ⟨e, he, hv⟩ := DataL.get' hl hx
      have hv' := hv.same s'
      have snoc : (((ds.take (i + 1)).map (rowT n)).map V.bl) = ((ds.take i).map (rowT n)).map V.bl ++ [.bl (rowT n e)] := by
        rw [List.take_add_one, he]; simp
      obtain ⟨ty, hty, _, _, e3, _⟩ := tyOf (K := K) hv'
      refine ⟨_, rfl, _, _, _, _, rfl, hty, e3, _, rfl, ?_⟩
      clear hty
      cases hv' with
      | @tup a zs es ha hz =>
        have lz' := hz.length
        refine iteT ?_
        refine ⟨_, rfl, a, _, rfl, .inr (SqT.of ha), _, rfl, ?_⟩
        refine ⟨rfl, ?_⟩
        have eb : decide (V.int (zs.length : Int) = V.int (n : Int)) = rowT n (.tuple es) := by
          unfold rowT
          rw [decide_eq_decide]
          constructor
          · intro z; have := V.int.inj z; omega
          · intro z; rw [lz', z]
        rw [eb]
        refine hQ _ H' hacc' ⟨same_upd s' hacc, ?_⟩
        rw [snoc]
      | _ =>
        refine iteF ?_
        refine hQ _ H' hacc' ⟨same_upd s' hacc, ?_⟩
        rw [snoc]; rfl
    rintro acc ys H1 hacc ⟨s1, rfl⟩ hacc' hlen
    rw [lx, List.take_length] at hacc'
    refine ⟨acc, _, rfl, hacc', ?_⟩
    have eall : (ds.map (rowT n)).all id = ds.all (rowT n) := by rw [List.all_map]; rfl
    rw [eall]
    cases h1 : ds.all (rowT n) with
    | false =>
      refine ⟨_, rfl, iteT ?_⟩
      have := k H1 s1
      rw [show sqD n (.tuple ds) = false by simp [sqD, h1]] at this
      exact this
    | true =>
    refine ⟨_, rfl, iteF ?_⟩
    have rt : ∀ d ∈ ds, rowT n d = true := List.all_eq_true.mp h1
    have ht1 := s1 _ _ ht
    refine ⟨_, rfl, t, rfl, ⟨_, SqT.of ht1⟩, fun l hl2 => ?_⟩
    have cnt : ∀ i, i ≤ ds.length → ((ds.take i).flatMap partsB).length ≤ 12 * i := by
      intro i
      induction i with
      | zero => intro _; simp
      | succ i ih =>
        intro hi
        have := ih (by omega)
        rw [List.take_add_one, List.getElem?_eq_getElem (by omega), List.flatMap_append, List.length_append]
        have h2 := rt ds[i] (List.getElem_mem _)
        have : (List.flatMap partsB [ds[i]]).length ≤ 12 := by
          rw [List.flatMap_cons, List.flatMap_nil, List.append_nil]
          unfold rowT at h2
          split at h2
          · rename_i es e
            rw [e]
            have := of_decide_eq_true h2
            simp [partsB]; omega
          · cases h2
        simp only [Option.toList_some]
        omega
    refine loopW_tupR (xs := xs) (fun i σ' H' => ∃ o1 o2, σ' = [o1, o2] ∧ Same H1 H' ∧ H' l = some (.lst (((ds.take i).flatMap partsB).map V.bl))) ⟨_, _, rfl, same_new hl2 _, upd_same⟩ ?_ ?_ ?_
    · rintro i σ' H' hi ⟨o1, o2, rfl, s', hl'⟩
      exact SqT.of (s' _ _ ht1)
    · rintro i x σ' H' hx ⟨o1, o2, rfl, s', hl'⟩ R hR
      obtain ⟨e, he, hv⟩ := DataL.get' hl hx
      have hids := (List.getElem?_eq_some_iff.mp he).1
      have hv' := hv.same s1
      have rte := rt e (List.mem_of_getElem? he)
      have c0 := cnt i (by omega)
      cases hv' with
      | @tup a zs es ha hz =>
        have lz' := hz.length
        have len : es.length = n := of_decide_eq_true rte
        refine ⟨_, rfl, a, rfl, ⟨_, SqT.of (s' _ _ ha)⟩, ?_⟩
        refine loopW_tupR (xs := zs) (fun j σ' H' => ∃ o2, σ' = [some (.ref a), o2] ∧ Same H1 H' ∧ H' l = some (.lst ((((ds.take i).flatMap partsB) ++ (es.take j).map nnD).map V.bl))) ⟨_, rfl, s', by simpa using hl'⟩ ?_ ?_ ?_
        · rintro j σ' H'' hj ⟨o2, rfl, s'', hl''⟩
          exact SqT.of (s'' _ _ ha)
        · rintro j y σ' H'' hy ⟨o2, rfl, s'', hl''⟩ R2 hR2
          obtain ⟨g, hg, hgv⟩ := DataL.get' hz hy
          have hjl := (List.getElem?_eq_some_iff.mp hg).1
          have hgv' := hgv.same s''
          have sz : ((((ds.take i).flatMap partsB) ++ (es.take j).map nnD).map V.bl).length < sizeLine := by
            rw [sizeLine_eq]; simp; simp at c0; omega
          have snoc : (((ds.take i).flatMap partsB) ++ (es.take (j + 1)).map nnD).map V.bl = (((ds.take i).flatMap partsB) ++ (es.take j).map nnD).map V.bl ++ [.bl (nnD g)] := by
            rw [List.take_add_one, hg]; simp
          refine ⟨_, rfl, _, g, rfl, hgv', ?_⟩
          cases lk : lookD g with
          | false =>
            refine ⟨_, rfl, iteF ?_⟩
            refine ⟨_, sz, hl'', hR2 _ _ ⟨_, rfl, same_updN hl2 s'' _, ?_⟩⟩
            rw [upd_same, snoc, show nnD g = false by simp [nnD, lk]]
          | true =>
            obtain ⟨q, rfl⟩ := look_ex lk
            obtain ⟨u, rfl, hu⟩ := sh_of_data hgv'
            refine ⟨_, rfl, iteT ?_⟩
            refine ⟨_, rfl, u, _, _, _, rfl, rfl, hu, rfl, _, _, rfl, rfl, ?_⟩
            refine ⟨_, sz, hl'', hR2 _ _ ⟨_, rfl, same_updN hl2 s'' _, ?_⟩⟩
            rw [upd_same, snoc, show nnD (dsh q) = decide (q.num ≥ 0) by unfold nnD; rw [lk]; rfl]
        · rintro σ' H'' ⟨o2, rfl, s'', hl''⟩
          refine hR _ _ ⟨_, _, rfl, s'', ?_⟩
          rw [lz', List.take_length] at hl''
          rw [List.take_add_one, he, List.flatMap_append]
          simpa [partsB] using hl''
      | _ => cases rte
    · rintro σ' H' ⟨o1, o2, rfl, s', hl'⟩
      refine ⟨l, _, rfl, hl', ?_⟩
      rw [lx, List.take_length, parts_all]
      have := k H' (s1.trans s')
      rw [show sqD n (.tuple ds) = ds.all rowS by simp [sqD, h1, en]] at this
      exact this
  | _ => exact iteT (k H (Same.refl _))
end
end My

set_option Elab.async false
set_option linter.all false
set_option maxRecDepth 100000
set_option maxHeartbeats 1000000
namespace My
open PySem L2 MA Srt PySem.Spec
theorem psum_sb {qs : List Rat} (h : ∀ q ∈ qs, SB 30 q) : ∀ i, i ≤ qs.length → SB (31 * i + 1) (psum (qs.take i))
  | 0, _ => by
    show SB 1 (psum [])
    exact ⟨by show Bt 1 (0 : Rat).num; unfold Bt; decide +kernel, by show Bt 1 ((0 : Rat).den : Int); unfold Bt; decide +kernel⟩
  | i + 1, hi => by
    rw [psum_take (by omega)]
    have := (psum_sb h i (by omega)).add (h qs[i] (List.getElem_mem _))
    exact this.mono (by omega)
theorem psum_sbN {qs : List Rat} (h : ∀ q ∈ qs, SB 30 q) (hl : qs.length ≤ 12) (i : Nat) : SB 400 (psum (qs.take i)) := by
  by_cases c : i ≤ qs.length
  · exact (psum_sb h i c).mono (by omega)
  · rw [List.take_of_length_le (by omega)]
    have := psum_sb h qs.length (Nat.le_refl _)
    rw [List.take_length] at this
    exact this.mono (by omega)
def zb (M : List (List Rat)) (j : Nat) : List Bool := (List.range j).map fun i => decide (((M.getD i []).getD j 0).num > 0)
def colF (M : List (List Rat)) (j : Nat) : Rat := psum (M.map fun r => r.getD j 0)
def PairOk (qs rs : List Rat) (d : PyData) : Prop := ∃ M : List (List Rat), d = matD M ∧ M.length = qs.length ∧ (∀ r ∈ M, r.length = qs.length ∧ ∀ q ∈ r, 0 ≤ q) ∧ (∀ i j, i < j → j < qs.length → (M.getD i []).getD j 0 = 0) ∧ M.map psum = qs ∧ (List.range qs.length).map (colF M) = rs
theorem mat_inj {M N : List (List Rat)} (h : matD M = matD N) : M = N := by
  unfold matD at h
  injection h with h
  revert N
  induction M with
  | nil =>
    intro N h
    cases N with
    | nil => rfl
    | cons a b => simp at h
  | cons r M ih =>
    intro N h
    cases N with
    | nil => simp at h
    | cons r' N =>
      rw [List.map_cons, List.map_cons] at h
      injection h with h1 h2
      injection h1 with h1
      rw [dshs_inj h1, ih h2]
theorem any_zb {M : List (List Rat)} {n : Nat} : ((List.range n).flatMap (zb M)).any id = true ↔ ∃ i j, i < j ∧ j < n ∧ ((M.getD i []).getD j 0).num > 0 := by
  simp only [List.any_eq_true, List.mem_flatMap, List.mem_range, zb, List.mem_map, id]
  constructor
  · rintro ⟨b, ⟨j, hj, i, hi, rfl⟩, hb⟩
    exact ⟨i, j, hi, hj, of_decide_eq_true hb⟩
  · rintro ⟨i, j, hi, hj, h⟩
    exact ⟨_, ⟨j, hj, i, hi, rfl⟩, decide_eq_true h⟩
section
variable {P : Program} {w : World} {K : PySem.W.Frag} {mg : Str → Option Value} {base : Heap}
def Bd (d : PyData) : Prop := (∀ M, d = matD M → ∀ r ∈ M, ∀ q ∈ r, SB 30 q) ∧ ∀ ds, d = .tuple ds → ds.length ≤ 1000
def spLetsP (c2 : Addr) : Sp := fun vs H Q E => ∃ (a b v : V) (qs rs : List Rat) (d : PyData), vs = [a, b, v] ∧ RuAt H a qs ∧ RuAt H b rs ∧ qs.length ≤ 12 ∧ DataV H v d ∧ Bd d ∧ (qs.length ≠ rs.length → E (.ref c2) none H) ∧
  (qs.length = rs.length → ∀ (t : Bool) (H' : Hp), (t = true ↔ PairOk qs rs d) → Same H H' → Q (.bl t) H')
theorem ok_letsP {er : Errs} (T : Txt2 mg) (C_ask_as_many : Cal1 P w K mg base "ask_as_many" ["one", "other"] 1 (spAsk1 er.c2)) (C_is_square : Cal P w K mg base "is_square" ["thing", "n"] 3 spSquareD) (C_total : Cal P w K mg base "total" ["some"] 3 spTotal)
    (F : FunAt K mg "lets_pairing" ["one", "other", "thing"] s_lets_pairing) : Cal1 P w K mg base "lets_pairing" ["one", "other", "thing"] 4 (spLetsP er.c2) := by
  have S := sc_lets_pairing
  refine F.cal1 sc_lets_pairing (fun vs H Q E h => ?_) (fun f cdv A outer s H vs Q E hr h => ?_)
  · obtain ⟨a, b, v, qs, rs, d, rfl, _⟩ := h; rfl
  obtain ⟨a, b, v, qs, rs, d, rfl, ⟨a, xs, rfl, ha, sq⟩, ⟨b, ys, rfl, hb, sr⟩, n12, hd, ⟨bd, few⟩, kE, k⟩ := h
  have hu2 : (A.deeper (PyProof.Rows.envOfC "lets_pairing" (defScope s_lets_pairing) s.heap.objs.size f cdv)).units + (1 + 1) < cLine := by have := hr.un; omega
  refine ⟨_, (@pss_cons _ _ _ _ _ (@ps_expr _ _ _ _ (@cc1 _ _ _ _ _ _ _ _ _ _ _ (by exact passes1) (by exact C_ask_as_many) (by exact (hr.mono (by decide))) (@pa_consN _ _ _ _ _ (pv 0) (@pa_consN _ _ _ _ _ (pv 1) pa_nil (by first|rfl|decide|exact .inl rfl|exact .inr rfl|(intros; rfl))) (by first|rfl|decide|exact .inl rfl|exact .inr rfl|(intros; rfl))) (by first|rfl|decide|exact .inl rfl|exact .inr rfl|(intros; rfl)) (by first|rfl|decide|exact .inl rfl|exact .inr rfl|(intros; rfl)) (by first|rfl|decide|exact .inl rfl|exact .inr rfl|(intros; rfl)) (by first|rfl|decide|exact .inl rfl|exact .inr rfl|(intros; rfl))) (by first|rfl|decide|exact .inl rfl|exact .inr rfl|(intros; rfl))) (@pss_cons _ _ _ _ _ (@PS.nox _ _ _ (@ps_set _ _ (3) _ _ _ _ (by exact S.nd) (by rfl) (by first | exact Or.inl rfl | exact Or.inr rfl) (@pe_callB _ _ _ _ _ _ _ _ _ call_len_seq (by rfl) (by exact T.z_len) (by exact bt_len) (@pa_consN _ _ _ _ _ (pv 0) pa_nil (by first|rfl|decide|exact .inl rfl|exact .inr rfl|(intros; rfl))) (by first|rfl|decide|exact .inl rfl|exact .inr rfl|(intros; rfl)) (by first|rfl|decide|exact .inl rfl|exact .inr rfl|(intros; rfl)) (by first|rfl|decide|exact .inl rfl|exact .inr rfl|(intros; rfl)) (by first|rfl|decide|exact .inl rfl|exact .inr rfl|(intros; rfl))) (by first|rfl|decide|exact .inl rfl|exact .inr rfl|(intros; rfl)) (by first|rfl|decide|exact .inl rfl|exact .inr rfl|(intros; rfl)))) (@pss_cons _ _ _ _ _ (@PS.nox _ _ _ (@ps_if _ _ _ _ _ _ _ _ (@PW.pt _ _ _ (@pw_or _ _ _ _ _ _ _ (@pt_not _ _ _ _ (@pt_val _ _ _ (@cc _ _ _ _ _ _ _ _ _ _ (by exact C_is_square) (by exact (hr.mono (by decide))) (@pa_consN _ _ _ _ _ (pv 2) (@pa_consN _ _ _ _ _ (pv 3) pa_nil (by first|rfl|decide|exact .inl rfl|exact .inr rfl|(intros; rfl))) (by first|rfl|decide|exact .inl rfl|exact .inr rfl|(intros; rfl))) (by first|rfl|decide|exact .inl rfl|exact .inr rfl|(intros; rfl)) (by first|rfl|decide|exact .inl rfl|exact .inr rfl|(intros; rfl)) (by first|rfl|decide|exact .inl rfl|exact .inr rfl|(intros; rfl)) (by first|rfl|decide|exact .inl rfl|exact .inr rfl|(intros; rfl))) (by first|rfl|decide|exact .inl rfl|exact .inr rfl|(intros; rfl)))) (@pw_or1 _ _ _ _ (@pt_val _ _ _ (@pe_callB _ _ _ _ _ _ _ _ _ (call_any (by rfl)) (by rfl) (by exact T.z_any) (by exact bt_any) (@pa_consN _ _ _ _ _ (@pe_comp2 _ _ _ _ _ _ _ _ _ _ _ _ _ _ _ _ _ _ _ (by rfl) (by exact (fun _ _ h => h)) (by decide +kernel) (by rfl) (by decide +kernel) (by exact hfr_of rfl) (by exact Sees.frees ["j", "i"] [("thing", 2)] (fr_cons ⟨rfl, rfl⟩ fr_nil)) (@pi_range1 _ _ _ _ _ _ (by rfl) (by exact T.z_range) (@pa_consN _ _ _ _ _ (pv 3) pa_nil (by first|rfl|decide|exact .inl rfl|exact .inr rfl|(intros; rfl))) (by first|rfl|decide|exact .inl rfl|exact .inr rfl|(intros; rfl))) (fun _ _ _ _ _ => (@pg_name _ _ (0) _ (by exact (show (["j", "i", "thing"] : List Str).Nodup by decide +kernel)) (by rfl) (by first | exact Or.inl rfl | exact Or.inr rfl) (by first|rfl|decide|exact .inl rfl|exact .inr rfl|(intros; rfl)))) (fun _ _ _ _ _ => pts_nil) (fun _ _ _ _ _ => (@pi_range1 _ _ _ _ _ _ (by rfl) (by exact T.z_range) (@pa_consN _ _ _ _ _ (pv 0) pa_nil (by first|rfl|decide|exact .inl rfl|exact .inr rfl|(intros; rfl))) (by first|rfl|decide|exact .inl rfl|exact .inr rfl|(intros; rfl)))) (fun _ _ _ _ _ => (@pg_name _ _ (1) _ (by exact (show (["j", "i", "thing"] : List Str).Nodup by decide +kernel)) (by rfl) (by first | exact Or.inl rfl | exact Or.inr rfl) (by first|rfl|decide|exact .inl rfl|exact .inr rfl|(intros; rfl)))) (fun _ _ _ _ _ => pts_nil) (fun _ _ _ _ _ => (@pe_cmpR _ _ _ _ _ _ _ _ op_gt (@pe_ix _ _ _ _ _ _ _ ix_tup0 (@pe_ix _ _ _ _ _ _ _ ix_tup0 (@pe_ix _ _ _ _ _ _ _ ix_tup0 (pv 2) (pv 1) (by exact (fun _ _ => rfl))) (pv 0) (by exact (fun _ _ => rfl))) pe_int (by exact (fun _ _ => rfl))) pe_int (by exact (nomark _)))) (by first|rfl|decide|exact .inl rfl|exact .inr rfl|(intros; rfl)) (by first|rfl|decide|exact .inl rfl|exact .inr rfl|(intros; rfl))) pa_nil (by first|rfl|decide|exact .inl rfl|exact .inr rfl|(intros; rfl))) (by first|rfl|decide|exact .inl rfl|exact .inr rfl|(intros; rfl)) (by first|rfl|decide|exact .inl rfl|exact .inr rfl|(intros; rfl)) (by first|rfl|decide|exact .inl rfl|exact .inr rfl|(intros; rfl)) (by first|rfl|decide|exact .inl rfl|exact .inr rfl|(intros; rfl))) (by first|rfl|decide|exact .inl rfl|exact .inr rfl|(intros; rfl)))))) (@pss_one _ _ _ (@ps_ret _ _ _ _ pe_bl)) pss_nil)) (@pss_cons _ _ _ _ _ (@PS.nox _ _ _ (@ps_comp _ _ _ _ _ _ _ _ _ _ _ _ _ _ _ (4) _ (by exact S.nd) (by rfl) (by first | exact Or.inl rfl | exact Or.inr rfl) (by rfl) (by exact (fun _ _ h => h)) (by decide +kernel) (by rfl) (by decide +kernel) (by exact hfr_of rfl) (by exact Sees.frees ["row"] [] fr_nil) (@pi_tup_K _ _ _ _ K (by rfl) (pv 2)) (fun _ _ _ _ _ => @pg_name _ _ (0) _ (by exact (show (["row"] : List Str).Nodup by decide +kernel)) (by rfl) (by first | exact Or.inl rfl | exact Or.inr rfl) (by first|rfl|decide|exact .inl rfl|exact .inr rfl|(intros; rfl))) (fun _ _ _ _ _ => pts_nil) (fun _ _ _ _ _ => (@cc _ _ _ _ _ _ _ _ _ _ (by exact C_total) (by exact (hr.mono (by decide))) (@pa_consN _ _ _ _ _ (@pe_callTy _ _ _ _ _ _ _ _ _ (call_list_K K (by rfl)) (by rfl) (by exact T.z_list) (by exact bt_list) (@pa_consN _ _ _ _ _ (pv 0) pa_nil (by first|rfl|decide|exact .inl rfl|exact .inr rfl|(intros; rfl))) (by first|rfl|decide|exact .inl rfl|exact .inr rfl|(intros; rfl)) (by first|rfl|decide|exact .inl rfl|exact .inr rfl|(intros; rfl)) (by first|rfl|decide|exact .inl rfl|exact .inr rfl|(intros; rfl)) (by first|rfl|decide|exact .inl rfl|exact .inr rfl|(intros; rfl))) pa_nil (by first|rfl|decide|exact .inl rfl|exact .inr rfl|(intros; rfl))) (by first|rfl|decide|exact .inl rfl|exact .inr rfl|(intros; rfl)) (by first|rfl|decide|exact .inl rfl|exact .inr rfl|(intros; rfl)) (by first|rfl|decide|exact .inl rfl|exact .inr rfl|(intros; rfl)) (by first|rfl|decide|exact .inl rfl|exact .inr rfl|(intros; rfl)))) (by first|rfl|decide|exact .inl rfl|exact .inr rfl|(intros; rfl)) (by first|rfl|decide|exact .inl rfl|exact .inr rfl|(intros; rfl)) (by first|rfl|decide|exact .inl rfl|exact .inr rfl|(intros; rfl)))) (@pss_cons _ _ _ _ _ (@PS.nox _ _ _ (@ps_compC _ _ _ _ _ _ _ _ _ _ _ _ _ _ _ (5) _ (by exact S.nd) (by rfl) (by first | exact Or.inl rfl | exact Or.inr rfl) (by rfl) (by exact (fun _ _ h => h)) (by decide +kernel) (by rfl) (by decide +kernel) (by exact hfr_of rfl) (by exact Sees.frees ["j"] [("thing", 2)] (fr_cons ⟨rfl, rfl⟩ fr_nil)) (@pi_range1 _ _ _ _ _ _ (by rfl) (by exact T.z_range) (@pa_consN _ _ _ _ _ (pv 3) pa_nil (by first|rfl|decide|exact .inl rfl|exact .inr rfl|(intros; rfl))) (by first|rfl|decide|exact .inl rfl|exact .inr rfl|(intros; rfl))) (fun _ _ _ _ _ => @pg_name _ _ (0) _ (by exact (show (["j", "thing"] : List Str).Nodup by decide +kernel)) (by rfl) (by first | exact Or.inl rfl | exact Or.inr rfl) (by first|rfl|decide|exact .inl rfl|exact .inr rfl|(intros; rfl))) (fun _ _ _ _ _ => pts_nil) (fun _ _ _ _ _ => (@cc _ _ _ _ _ _ _ _ _ _ (by exact C_total) (by exact (hr.mono (by decide))) (@pa_consN _ _ _ _ _ (@pe_comp _ _ _ _ _ _ _ _ _ _ _ _ _ (by rfl) (by exact (fun _ _ h => h)) (by decide +kernel) (by rfl) (by decide +kernel) (by exact hfr_of rfl) (by exact Sees.frees ["row"] [("j", 0)] (fr_cons ⟨rfl, rfl⟩ fr_nil)) (@pi_tup_K _ _ _ _ K (by rfl) (pv 1)) (fun _ _ _ _ _ => @pg_name _ _ (0) _ (by exact (show (["row", "j"] : List Str).Nodup by decide +kernel)) (by rfl) (by first | exact Or.inl rfl | exact Or.inr rfl) (by first|rfl|decide|exact .inl rfl|exact .inr rfl|(intros; rfl))) (fun _ _ _ _ _ => pts_nil) (fun _ _ _ _ _ => (@pe_ix _ _ _ _ _ _ _ ix_tup0 (pv 0) (pv 1) (by exact (fun _ _ => rfl)))) (by first|rfl|decide|exact .inl rfl|exact .inr rfl|(intros; rfl))) pa_nil (by first|rfl|decide|exact .inl rfl|exact .inr rfl|(intros; rfl))) (by first|rfl|decide|exact .inl rfl|exact .inr rfl|(intros; rfl)) (by first|rfl|decide|exact .inl rfl|exact .inr rfl|(intros; rfl)) (by first|rfl|decide|exact .inl rfl|exact .inr rfl|(intros; rfl)) (by first|rfl|decide|exact .inl rfl|exact .inr rfl|(intros; rfl)))) (by first|rfl|decide|exact .inl rfl|exact .inr rfl|(intros; rfl)) (by first|rfl|decide|exact .inl rfl|exact .inr rfl|(intros; rfl)) (by first|rfl|decide|exact .inl rfl|exact .inr rfl|(intros; rfl)))) (@pss_one _ _ _ (@PS.nox _ _ _ (@ps_ret _ _ _ _ (@pe_and _ _ _ _ _ _ _ (@pe_cmpR _ _ _ _ _ _ _ _ (op_eqD 1 hu2) (pv 4) (@pe_callTy _ _ _ _ _ _ _ _ _ (call_list_K K (by rfl)) (by rfl) (by exact T.z_list) (by exact bt_list) (@pa_consN _ _ _ _ _ (pv 0) pa_nil (by first|rfl|decide|exact .inl rfl|exact .inr rfl|(intros; rfl))) (by first|rfl|decide|exact .inl rfl|exact .inr rfl|(intros; rfl)) (by first|rfl|decide|exact .inl rfl|exact .inr rfl|(intros; rfl)) (by first|rfl|decide|exact .inl rfl|exact .inr rfl|(intros; rfl)) (by first|rfl|decide|exact .inl rfl|exact .inr rfl|(intros; rfl))) (by exact (nomark _))) (@pe_one _ _ _ _ _ (@pe_cmpR _ _ _ _ _ _ _ _ (op_eqD 1 hu2) (pv 5) (@pe_callTy _ _ _ _ _ _ _ _ _ (call_list_K K (by rfl)) (by rfl) (by exact T.z_list) (by exact bt_list) (@pa_consN _ _ _ _ _ (pv 1) pa_nil (by first|rfl|decide|exact .inl rfl|exact .inr rfl|(intros; rfl))) (by first|rfl|decide|exact .inl rfl|exact .inr rfl|(intros; rfl)) (by first|rfl|decide|exact .inl rfl|exact .inr rfl|(intros; rfl)) (by first|rfl|decide|exact .inl rfl|exact .inr rfl|(intros; rfl)) (by first|rfl|decide|exact .inl rfl|exact .inr rfl|(intros; rfl))) (by exact (nomark _))))))))))))), ?_⟩
  have lx := sq.length
  have ly := sr.length
  refine ⟨_, rfl, _, rfl, a, b, xs, ys, rfl, ha, hb, fun z => kE (by omega), fun el => ?_⟩
  replace k := k (by omega)
  obtain ⟨n, hn⟩ : ∃ n, n = qs.length := ⟨_, rfl⟩
  have exn : xs.length = n := by omega
  refine ⟨_, rfl, a, _, rfl, .inr (SqT.of ha), ?_⟩
  rw [exn]
  refine ⟨_, rfl, _, rfl, v, n, d, rfl, hd, by omega, few, fun H1 s1 => ?_⟩
  cases hsq : sqD n d with
  | false =>
    refine ⟨_, rfl, iteT ?_⟩
    refine k _ _ ⟨fun z => (by cases z), fun ⟨M, e, h1, h2, _⟩ => ?_⟩ s1
    subst e
    rw [sq_of (by omega) (fun r hr => ⟨by have := (h2 r hr).1; omega, (h2 r hr).2⟩)] at hsq
    cases hsq
  | true =>
  obtain ⟨M, rfl, gm, hM⟩ := sq_ex hsq
  have bM := bd M rfl
  obtain ⟨t, zs, rfl, ht, rows⟩ := mat_of_data hd
  have lz' := rows.length
  have uniq : ∀ {t : Bool}, ((t = true) ↔ ((∀ i j, i < j → j < qs.length → (M.getD i []).getD j 0 = 0) ∧ M.map psum = qs ∧ (List.range qs.length).map (colF M) = rs)) → (t = true ↔ PairOk qs rs (matD M)) := fun {t} e => by
    rw [e]
    constructor
    · rintro ⟨h1, h2, h3⟩
      exact ⟨M, rfl, by omega, fun r hr => ⟨by have := (hM r hr).1; omega, (hM r hr).2⟩, h1, h2, h3⟩
    · rintro ⟨N, e, _, _, h1, h2, h3⟩
      have := mat_inj e
      subst this
      exact ⟨h1, h2, h3⟩
  refine ⟨_, rfl, iteF ?_⟩
  refine ⟨_, rfl, _, rfl, by omega, by omega, fun l hl => ?_⟩
  have zl : ∀ j, j ≤ n → ((List.range j).flatMap (zb M)).length ≤ 12 * j := by
    intro j
    induction j with
    | zero => intro _; simp
    | succ j ih =>
      intro hj
      have := ih (by omega)
      rw [List.range_succ, List.flatMap_append, List.length_append]
      have : (List.flatMap (zb M) [j]).length = j := by simp [zb]
      omega
  refine loopW_rngR (lo := 0) (n := (n : Int).toNat) (fun j σ' H' => ∃ o1 o2, σ' = [o1, o2, some (.ref t)] ∧ Same H1 H' ∧ H' l = some (.lst (((List.range j).flatMap (zb M)).map V.bl))) ⟨_, _, rfl, same_new hl _, upd_same⟩ ?_ ?_
  · rintro j σ' H' hj ⟨o1, o2, rfl, s', hl'⟩ R hR
    have hjn : j < n := by omega
    have c0 := zl j (by omega)
    refine ⟨_, rfl, _, rfl, by omega, by omega, ?_⟩
    refine loopW_rngR (lo := 0) (n := ((0 : Int) + (j : Int)).toNat) (fun i σ' H' => ∃ o2, σ' = [some (.int (0 + (j : Int))), o2, some (.ref t)] ∧ Same H1 H' ∧ H' l = some (.lst ((((List.range j).flatMap (zb M)) ++ (zb M j).take i).map V.bl))) ⟨_, rfl, s', by simpa using hl'⟩ ?_ ?_
    · rintro i σ' H'' hi ⟨o2, rfl, s'', hl''⟩ R2 hR2
      have hij : i < j := by omega
      have sx := s1.trans s''
      obtain ⟨x, hx⟩ : ∃ x, zs[i]? = some x := ⟨_, List.getElem?_eq_getElem (by omega)⟩
      obtain ⟨r, hr', ⟨ra, rz, rfl, hra, shr⟩⟩ := rows.at hx
      obtain ⟨y, hy⟩ : ∃ y, rz[j]? = some y := ⟨_, List.getElem?_eq_getElem (by rw [shr.length, (hM r (List.mem_of_getElem? hr')).1]; omega)⟩
      obtain ⟨q, hq, ⟨u, rfl, hu⟩⟩ := shr.at hy
      have q0 : (M.getD i []).getD j 0 = q := by
        have e1 : M.getD i [] = r := by rw [List.getD_eq_getElem?_getD, hr']; rfl
        rw [e1, List.getD_eq_getElem?_getD, hq]; rfl
      have e0 : ∀ k : Nat, (0 : Int) + (k : Int) = (k : Int) := fun k => by omega
      refine ⟨_, rfl, _, rfl, t, zs, _, _, rfl, rfl, sx _ _ ht, (by rw [e0]; exact atI_nat hx), _, rfl, ra, rz, _, _, rfl, rfl, sx _ _ hra, (by rw [e0]; exact atI_nat hy), u, _, _, _, rfl, rfl, sx _ _ hu, rfl, _, _, rfl, rfl, ?_⟩
      refine ⟨_, (by rw [sizeLine_eq, List.length_map, List.length_append, List.length_take]; have : (zb M j).length = j := by simp [zb]
                     omega), hl'', ?_⟩
      refine hR2 _ _ ⟨_, rfl, same_updN hl s'' _, ?_⟩
      rw [upd_same, List.take_add_one]
      have ez : (zb M j)[i]? = some (decide (q.num > 0)) := by
        unfold zb
        rw [List.getElem?_map, List.getElem?_range hij]
        show some (decide (((M.getD i []).getD j 0).num > 0)) = _
        rw [q0]
      rw [ez]
      simp
    · rintro σ' H'' ⟨o2, rfl, s'', hl''⟩
      refine hR _ _ ⟨_, _, rfl, s'', ?_⟩
      rw [List.take_of_length_le (by simp [zb])] at hl''
      rw [List.range_succ, List.flatMap_append]
      simpa using hl''
  · rintro σ' H2 ⟨o1, o2, rfl, s2, hl2⟩
    refine ⟨l, _, rfl, hl2, ?_⟩
    rw [Int.toNat_natCast]
    cases hany : ((List.range n).flatMap (zb M)).any id with
    | true =>
      refine ⟨_, rfl, iteT ?_⟩
      obtain ⟨i, j, hij, hjn, hp⟩ := any_zb.mp hany
      refine k _ _ (uniq ⟨fun z => (by cases z), fun ⟨h1, _⟩ => ?_⟩) (s1.trans s2)
      rw [h1 i j hij (by omega)] at hp
      simp at hp
    | false =>
    refine ⟨_, rfl, iteF ?_⟩
    have up0 : ∀ i j, i < j → j < qs.length → (M.getD i []).getD j 0 = 0 := fun i j hij hj => by
      have h1 : ¬ ((M.getD i []).getD j 0).num > 0 := fun z => by
        have := any_zb.mpr ⟨i, j, hij, (by omega : j < n), z⟩
        rw [hany] at this; cases this
      have h2 : 0 ≤ (M.getD i []).getD j 0 := by
        have hi : i < M.length := by omega
        have hr := hM M[i] (List.getElem_mem _)
        rw [getD_of hi, getD_of (by omega)]
        exact hr.2 _ (List.getElem_mem _)
      have h3 := Rat.num_nonneg.mpr h2
      exact Rat.num_eq_zero.mp (by omega)
    have s12 := s1.trans s2
    have ht2 := s12 _ _ ht
    refine ⟨_, rfl, t, rfl, ⟨_, SqT.of ht2⟩, comp_tp (a := t) (xs := zs) (fs := []) (fun acc i ws H' => Same H2 H' ∧ Shs H' ws ((M.take i).map psum)) (by omega) ?_ ?_ ?_ ?_⟩
    · intro acc hacc
      exact ⟨same_new hacc _, .nil⟩
    · rintro acc i ws H' hacc ⟨s', _⟩
      exact s' _ _ ht2
    · rintro acc i ws H' x hacc hx hl ⟨s', sh⟩ hacc' Q' hQ
      obtain ⟨r, hr', ⟨ra, rz, rfl, hra, shr⟩⟩ := rows.at hx
      have rlen := (hM r (List.mem_of_getElem? hr')).1
      have rb := bM r (List.mem_of_getElem? hr')
      have sx := s12.trans s'
      refine ⟨_, rfl, ra, _, rfl, .inr (SqT.of (sx _ _ hra)), fun l1 hl1 => ?_⟩
      have t1 := same_new hl1 (.lst rz)
      refine ⟨l1, rz, r, rfl, upd_same, shr.same (sx.trans t1), fun q hq => (rb q hq).mono (by decide), fun i => (psum_sbN rb (by omega) i).mono (by decide), fun v H3 s3 h3 => ?_⟩
      have sy := t1.trans s3
      refine hQ _ H3 (sy _ _ hacc') ⟨same_upd (s'.trans sy) hacc, ?_⟩
      rw [List.take_add_one, hr', List.map_append]
      exact Shs.snoc (shUpdL (sy _ _ hacc') h3) (Shs.updL (sy _ _ hacc') (sh.same sy))
    rintro A1 ws1 H3 hA1 ⟨s3, sh1⟩ hA1' hl1
    rw [lz', List.take_length] at sh1
    have s13 := s12.trans s3
    refine ⟨_, rfl, _, rfl, by omega, by omega, comp_rng (n := (n : Int).toNat) (lo := 0) (fs := [some (.ref t)]) (fun acc i ws H' => Same H3 H' ∧ Shs H' ws ((List.range i).map fun j => psum (M.map fun r => r.getD j 0))) (by omega) ?_ ?_ ?_⟩
    · intro acc hacc
      exact ⟨same_new hacc _, .nil⟩
    · rintro acc j ws H' hacc hj hl ⟨s', sh⟩ hacc' Q' hQ
      have hjn : j < n := by omega
      have sx := s13.trans s'
      refine ⟨_, rfl, t, rfl, ⟨_, SqT.of (sx _ _ ht)⟩, comp_tp (a := t) (xs := zs) (fs := [some (.int (0 + (j : Int)))]) (fun acc2 i ws H'' => Same H' H'' ∧ Shs H'' ws ((M.take i).map fun r => r.getD j 0)) (by omega) ?_ ?_ ?_ ?_⟩
      · intro acc2 hacc2
        exact ⟨same_new hacc2 _, .nil⟩
      · rintro acc2 i ws H'' hacc2 ⟨s'', _⟩
        exact s'' _ _ (sx _ _ ht)
      · rintro acc2 i ws2 H'' x hacc2 hx hl2 ⟨s'', sh2⟩ hacc2' Q'' hQ'
        obtain ⟨r, hr', ⟨ra, rz, rfl, hra, shr⟩⟩ := rows.at hx
        have sy := sx.trans s''
        obtain ⟨y, hy⟩ : ∃ y, rz[j]? = some y := ⟨_, List.getElem?_eq_getElem (by rw [shr.length, (hM r (List.mem_of_getElem? hr')).1]; omega)⟩
        obtain ⟨q, hq, shq⟩ := shr.at hy
        have e0 : (0 : Int) + (j : Int) = (j : Int) := by omega
        refine ⟨_, rfl, _, rfl, ra, rz, _, _, rfl, rfl, sy _ _ hra, (by rw [e0]; exact atI_nat hy), ?_⟩
        refine hQ' _ H'' hacc2' ⟨same_upd s'' hacc2, ?_⟩
        rw [List.take_add_one, hr', List.map_append]
        refine Shs.snoc (shUpdL hacc2' ?_) (Shs.updL hacc2' sh2)
        show ShAt H'' y (r.getD j 0)
        rw [List.getD_eq_getElem?_getD, hq]
        exact shq.same sy
      · rintro acc2 ws2 H'' hacc2 ⟨s'', sh2⟩ hacc2' hl2
        rw [lz', List.take_length] at sh2
        have cb : ∀ q ∈ M.map fun r => r.getD j 0, SB 30 q := fun q hq => by
          obtain ⟨r, hr', rfl⟩ := List.mem_map.mp hq
          have := (hM r hr').1
          rw [getD_of (by omega)]
          exact bM r hr' _ (List.getElem_mem _)
        refine ⟨acc2, ws2, _, rfl, hacc2', sh2, fun q hq => (cb q hq).mono (by decide), fun i => (psum_sbN cb (by rw [List.length_map]; omega) i).mono (by decide), fun v H5 s5 h5 => ?_⟩
        have sz := s''.trans s5
        refine hQ _ H5 (sz _ _ hacc') ⟨same_upd (s'.trans sz) hacc, ?_⟩
        rw [map_range_succ]
        exact Shs.snoc (shUpdL (sz _ _ hacc') h5) (Shs.updL (sz _ _ hacc') (sh.same sz))
    rintro A2 ws2 H4 hA2 ⟨s4, sh2⟩ hA2' hl2
    rw [Int.toNat_natCast] at sh2
    have s14 := s13.trans s4
    have hA14 := s4 _ _ hA1'
    refine ⟨_, rfl, _, rfl, a, _, rfl, .inr (SqT.of (s14 _ _ ha)), fun l3 hl3 => ?_⟩
    have u1 := same_new hl3 (.lst xs)
    have s15 := s14.trans u1
    refine ⟨_, _, .lst (u1 _ _ hA14) (shs_data (sh1.same (s4.trans u1))), .lst upd_same (shs_data (sq.same s15)), cmp_shs 0 _ _, fun b1 hb1 => ?_⟩
    have e1 : b1 = true ↔ M.map psum = qs := by
      rw [hb1]
      constructor
      · intro h; injection h with h; exact dshs_inj h
      · intro h; rw [h]
    refine ⟨_, rfl, ?_⟩
    cases b1 with
    | false =>
      rw [if_neg (by decide)]
      refine k _ _ (uniq ⟨fun z => (by cases z), fun z => ?_⟩) s15
      exact e1.mpr z.2.1
    | true =>
      rw [if_pos rfl]
      have ep := e1.mp rfl
      refine ⟨_, rfl, _, rfl, b, _, rfl, .inr (SqT.of (s15 _ _ hb)), fun l4 hl4 => ?_⟩
      have u2 := same_new hl4 (.lst ys)
      have s16 := s15.trans u2
      refine ⟨_, _, .lst (u2 _ _ (u1 _ _ hA2')) (shs_data (sh2.same (u1.trans u2))), .lst upd_same (shs_data (sr.same s16)), cmp_shs 0 _ _, fun b2 hb2 => ?_⟩
      refine k _ _ (uniq ?_) s16
      rw [hb2]
      constructor
      · intro h; injection h with h; exact ⟨up0, ep, by rw [← hn]; exact dshs_inj h⟩
      · rintro ⟨_, _, h⟩
        rw [← hn] at h
        rw [← h]
        rfl
end
end My

set_option Elab.async false
set_option linter.all false
set_option maxRecDepth 100000
set_option maxHeartbeats 1000000
namespace My
open PySem L2 MA Srt PySem.Spec
theorem pair_rat {a b : Int} (h : lookD (.tuple [.int a, .int b]) = true) : dsh (Rat.divInt a b) = .tuple [.int a, .int b] := by
  obtain ⟨q, e⟩ := look_ex h
  have e' := e
  unfold dsh at e'
  injection e' with e'
  injection e' with h1 h2
  injection h2 with h2 _
  injection h1 with h1
  injection h2 with h2
  rw [h1, h2, Rat.num_divInt_den, ← h1, ← h2]
  exact e.symm
theorem cmp_two (n : Nat) (a b c d : Int) : cmpN (n + 1) (.tuple [.int a, .int b]) (.tuple [.int c, .int d]) := by
  intro p hp
  simp only [List.zip_cons_cons, List.zip_nil_left, List.mem_cons, List.not_mem_nil, or_false] at hp
  rcases hp with rfl | rfl <;> (cases n <;> exact trivial)
def nnI : PyData → Bool
  | .int a => decide (a ≥ 0)
  | _ => false
theorem nn_two {e1 e2 : PyData} (h : nnD (.tuple [e1, e2]) = true) : nnI e1 = true ∧ nnI e2 = true := by
  obtain ⟨q, e, q0⟩ := nn_ex h
  unfold dsh at e
  injection e with e
  injection e with h1 e
  injection e with h2 _
  rw [h1, h2]
  have := q.den_pos
  exact ⟨decide_eq_true (Rat.num_nonneg.mpr q0), (by show decide ((q.den : Int) ≥ 0) = true; exact decide_eq_true (by omega))⟩
theorem nn_len {es : List PyData} (h : nnD (.tuple es) = true) : es.length = 2 := by
  obtain ⟨q, e, _⟩ := nn_ex h
  unfold dsh at e
  injection e with e
  rw [e]; rfl
def BdS (d : PyData) : Prop := ∀ a b, d = .tuple [.int a, .int b] → a.natAbs ≤ 100000000 ∧ b.natAbs ≤ 100000000
def BdI (d : PyData) : Prop := (∀ ds, d = .tuple ds → ds.length ≤ 1000) ∧ ∀ ds, d = .tuple ds → ∀ r ∈ ds, ∀ es, r = .tuple es → ∀ e ∈ es, BdS e
theorem bt30 {x : Int} (h : x.natAbs ≤ 100000000) : Bt 30 x := by
  by_cases z : x.natAbs = 0
  · have : x = 0 := by omega
    subst this
    unfold Bt; decide +kernel
  · exact .of_lt (Nat.lt_of_le_of_lt h (by decide))
theorem BdI.bd {d : PyData} (h : BdI d) : Bd d := by
  refine ⟨fun M e r hr q hq => ?_, h.1⟩
  subst e
  have := h.2 _ rfl _ (List.mem_map.mpr ⟨r, hr, rfl⟩) _ rfl _ (List.mem_map.mpr ⟨q, hq, rfl⟩) q.num q.den rfl
  exact ⟨bt30 this.1, bt30 this.2⟩
section
variable {P : Program} {w : World} {K : PySem.W.Frag} {mg : Str → Option Value} {base : Heap}
def spLShD : Sp := fun vs H Q _ => ∃ v d, vs = [v] ∧ DataV H v d ∧ BdS d ∧ ∀ H', Same H H' → Q (.bl (nnD d)) H'
theorem ok_lshD (T : Txt2 mg) (C_l_share : Cal P w K mg base "_law_share" ["_law_top", "_law_bottom"] 1 spShareL) (F : FunAt K mg "_law_is_share" ["_law_thing"] s_l_is_share) : Cal P w K mg base "_law_is_share" ["_law_thing"] 2 spLShD := by
  have S := sc_l_is_share
  refine F.cal sc_l_is_share (fun vs H Q E h => ?_) (fun f cdv A outer s H vs Q E hr h => ?_)
  · obtain ⟨v, d, rfl, _⟩ := h; rfl
  obtain ⟨v, d, rfl, hd, bd, k⟩ := h
  have hu1 : (A.deeper (PyProof.Rows.envOfC "_law_is_share" (defScope s_l_is_share) s.heap.objs.size f cdv)).units + (0 + 1) < cLine := by have := hr.un; omega
  refine ⟨_, (@pss_cons _ _ _ _ _ (@ps_if _ _ _ _ _ _ _ _ (@PW.pt _ _ _ (@pw_or _ _ _ _ _ _ _ (@pt_not _ _ _ _ (@pt_val _ _ _ (@pe_callB _ _ _ _ _ _ _ _ _ call_isi (by rfl) (by exact T.z_isinstance) (by exact bt_isinstance) (@pa_consN _ _ _ _ _ (pv 0) (@pa_consN _ _ _ _ _ (@pe_bltn _ _ (.ty "tuple") _ _ (by rfl) (by exact T.z_tuple) (by exact bt_tuple) (by rfl) (by first|rfl|decide|exact .inl rfl|exact .inr rfl|(intros; rfl)) (by first|rfl|decide|exact .inl rfl|exact .inr rfl|(intros; rfl))) pa_nil (by first|rfl|decide|exact .inl rfl|exact .inr rfl|(intros; rfl))) (by first|rfl|decide|exact .inl rfl|exact .inr rfl|(intros; rfl))) (by first|rfl|decide|exact .inl rfl|exact .inr rfl|(intros; rfl)) (by first|rfl|decide|exact .inl rfl|exact .inr rfl|(intros; rfl)) (by first|rfl|decide|exact .inl rfl|exact .inr rfl|(intros; rfl)) (by first|rfl|decide|exact .inl rfl|exact .inr rfl|(intros; rfl))) (by first|rfl|decide|exact .inl rfl|exact .inr rfl|(intros; rfl)))) (@pw_or1 _ _ _ _ (@pt_cmpR _ _ _ _ _ _ _ _ op_ne (@pe_callB _ _ _ _ _ _ _ _ _ call_len_seq (by rfl) (by exact T.z_len) (by exact bt_len) (@pa_consN _ _ _ _ _ (pv 0) pa_nil (by first|rfl|decide|exact .inl rfl|exact .inr rfl|(intros; rfl))) (by first|rfl|decide|exact .inl rfl|exact .inr rfl|(intros; rfl)) (by first|rfl|decide|exact .inl rfl|exact .inr rfl|(intros; rfl)) (by first|rfl|decide|exact .inl rfl|exact .inr rfl|(intros; rfl)) (by first|rfl|decide|exact .inl rfl|exact .inr rfl|(intros; rfl))) pe_int (by exact (nomark _)))))) (@pss_one _ _ _ (@ps_ret _ _ _ _ pe_bl)) pss_nil) (@pss_cons _ _ _ _ _ (@ps_for _ _ _ _ _ _ _ _ (by exact PassesOwn.never) (by rfl) (@pi_tup _ _ _ _ (pv 0)) (@pg_name _ _ (1) _ (by exact S.nd) (by rfl) (by first | exact Or.inl rfl | exact Or.inr rfl) (by first|rfl|decide|exact .inl rfl|exact .inr rfl|(intros; rfl))) (@pss_one _ _ _ (@ps_if _ _ _ _ _ _ _ _ (@PW.pt _ _ _ (@pw_or _ _ _ _ _ _ _ (@pt_not _ _ _ _ (@pt_val _ _ _ (@pe_callB _ _ _ _ _ _ _ _ _ call_isi (by rfl) (by exact T.z_isinstance) (by exact bt_isinstance) (@pa_consN _ _ _ _ _ (pv 1) (@pa_consN _ _ _ _ _ (@pe_bltn _ _ (.ty "int") _ _ (by rfl) (by exact T.z_int) (by exact bt_int) (by rfl) (by first|rfl|decide|exact .inl rfl|exact .inr rfl|(intros; rfl)) (by first|rfl|decide|exact .inl rfl|exact .inr rfl|(intros; rfl))) pa_nil (by first|rfl|decide|exact .inl rfl|exact .inr rfl|(intros; rfl))) (by first|rfl|decide|exact .inl rfl|exact .inr rfl|(intros; rfl))) (by first|rfl|decide|exact .inl rfl|exact .inr rfl|(intros; rfl)) (by first|rfl|decide|exact .inl rfl|exact .inr rfl|(intros; rfl)) (by first|rfl|decide|exact .inl rfl|exact .inr rfl|(intros; rfl)) (by first|rfl|decide|exact .inl rfl|exact .inr rfl|(intros; rfl))) (by first|rfl|decide|exact .inl rfl|exact .inr rfl|(intros; rfl)))) (@pw_or _ _ _ _ _ _ _ (@pt_val _ _ _ (@pe_callB _ _ _ _ _ _ _ _ _ call_isi (by rfl) (by exact T.z_isinstance) (by exact bt_isinstance) (@pa_consN _ _ _ _ _ (pv 1) (@pa_consN _ _ _ _ _ (@pe_bltn _ _ (.ty "bool") _ _ (by rfl) (by exact T.z_bool) (by exact bt_bool) (by rfl) (by first|rfl|decide|exact .inl rfl|exact .inr rfl|(intros; rfl)) (by first|rfl|decide|exact .inl rfl|exact .inr rfl|(intros; rfl))) pa_nil (by first|rfl|decide|exact .inl rfl|exact .inr rfl|(intros; rfl))) (by first|rfl|decide|exact .inl rfl|exact .inr rfl|(intros; rfl))) (by first|rfl|decide|exact .inl rfl|exact .inr rfl|(intros; rfl)) (by first|rfl|decide|exact .inl rfl|exact .inr rfl|(intros; rfl)) (by first|rfl|decide|exact .inl rfl|exact .inr rfl|(intros; rfl)) (by first|rfl|decide|exact .inl rfl|exact .inr rfl|(intros; rfl))) (by first|rfl|decide|exact .inl rfl|exact .inr rfl|(intros; rfl))) (@pw_or1 _ _ _ _ (@pt_cmpR _ _ _ _ _ _ _ _ op_lt (pv 1) pe_int (by exact (nomark _))))))) (@pss_one _ _ _ (@ps_ret _ _ _ _ pe_bl)) pss_nil)) (by first|rfl|decide|exact .inl rfl|exact .inr rfl|(intros; rfl))) (@pss_one _ _ _ (@ps_ret _ _ _ _ (@pe_and _ _ _ _ _ _ _ (@pe_cmpR _ _ _ _ _ _ _ _ op_gt (@pe_ix _ _ _ _ _ _ _ ix_tup (pv 0) pe_int (by exact (fun _ _ => rfl))) pe_int (by exact (nomark _))) (@pe_one _ _ _ _ _ (@pe_cmpR _ _ _ _ _ _ _ _ (op_eqD 0 hu1) (@cc _ _ _ _ _ _ _ _ _ _ (by exact C_l_share) (by exact (hr.mono (by decide))) (@pa_consN _ _ _ _ _ (@pe_ix _ _ _ _ _ _ _ ix_tup (pv 0) pe_int (by exact (fun _ _ => rfl))) (@pa_consN _ _ _ _ _ (@pe_ix _ _ _ _ _ _ _ ix_tup (pv 0) pe_int (by exact (fun _ _ => rfl))) pa_nil (by first|rfl|decide|exact .inl rfl|exact .inr rfl|(intros; rfl))) (by first|rfl|decide|exact .inl rfl|exact .inr rfl|(intros; rfl))) (by first|rfl|decide|exact .inl rfl|exact .inr rfl|(intros; rfl)) (by first|rfl|decide|exact .inl rfl|exact .inr rfl|(intros; rfl)) (by first|rfl|decide|exact .inl rfl|exact .inr rfl|(intros; rfl)) (by first|rfl|decide|exact .inl rfl|exact .inr rfl|(intros; rfl))) (pv 0) (by exact (nomark _))))))))), ?_⟩
  obtain ⟨ty, hty, _, _, e3, _⟩ := tyOf (K := K) hd
  refine ⟨_, rfl, _, _, _, _, rfl, hty, e3, _, rfl, ?_⟩
  clear hty
  cases hd with
  | @tup t xs es ht hl =>
    have lx := hl.length
    refine iteF ?_
    refine ⟨_, rfl, t, _, rfl, .inr (SqT.of ht), rfl, _, rfl, ?_⟩
    refine ite2 (fun c => ?_) (fun c => ?_)
    · have := k H (Same.refl _)
      rw [show nnD (.tuple es) = false from Bool.eq_false_iff.mpr fun z => len_ne c (by rw [lx, nn_len z]; rfl)] at this
      exact this
    have l2 : es.length = 2 := by rw [← lx]; exact len_eq (m := 2) c
    have no : nnD (.tuple es) = false → Q (.bl false) H := fun z => by have := k H (Same.refl _); rw [z] at this; exact this
    match es, l2, hl, no, bd, k with
    | [e1, e2], _, hl, no, bd, k =>
    refine ⟨_, rfl, t, rfl, ⟨_, SqT.of ht⟩, for_tup (xs := xs) (fun i σ H' => (∃ o1, σ = [some (.ref t), o1]) ∧ H' = H ∧ ∀ j e, j < i → [e1, e2][j]? = some e → nnI e = true) ⟨⟨_, rfl⟩, rfl, fun j e hj => by omega⟩ (fun i σ H' _ h => by rw [h.2.1]; exact SqT.of ht) ?_ ?_⟩
    · rintro i x σ H' hx ⟨⟨o1, rfl⟩, rfl, ok⟩
      obtain ⟨e, he, hv⟩ := DataL.get' hl hx
      have bad : nnI e = false → nnD (.tuple [e1, e2]) = false := fun z => Bool.eq_false_iff.mpr fun y => by
        obtain ⟨y1, y2⟩ := nn_two y
        have : e = e1 ∨ e = e2 := by
          have := List.mem_of_getElem? he
          simpa using this
        rcases this with rfl | rfl
        · rw [y1] at z; cases z
        · rw [y2] at z; cases z
      obtain ⟨ty, hty, f1, f2, _, _⟩ := tyOf (K := K) hv
      refine ⟨_, rfl, _, _, _, _, rfl, hty, f1, _, rfl, ?_⟩
      cases e with
      | int z =>
        cases hv
        refine iteF ?_
        refine ⟨_, rfl, _, _, _, _, rfl, hty, f2, _, rfl, iteF ?_⟩
        refine ⟨_, rfl, _, _, rfl, rfl, _, rfl, ?_⟩
        refine ite2 (fun c => ?_) (fun c => ?_)
        · exact no (bad (decide_eq_false (by have := of_decide_eq_true c; omega)))
        · refine ⟨⟨_, rfl⟩, rfl, fun j e' hj he' => ?_⟩
          by_cases ej : j = i
          · subst ej
            rw [he] at he'
            cases he'
            refine decide_eq_true ?_
            have : ¬ z < 0 := by simpa using c
            omega
          · exact ok j e' (by omega) he'
      | bool b =>
        refine iteF ?_
        exact ⟨_, rfl, _, _, _, _, rfl, hty, f2, _, rfl, iteT (no (bad rfl))⟩
      | _ => exact iteT (no (bad rfl))
    · rintro σ H' ⟨⟨o1, rfl⟩, rfl, ok⟩
      have k1 := ok 0 e1 (by rw [lx]; simp) rfl
      have k2 := ok 1 e2 (by rw [lx]; simp) rfl
      cases e1 with
      | int a =>
        cases e2 with
        | int b =>
          have a0 : 0 ≤ a := of_decide_eq_true k1
          have b0 : 0 ≤ b := of_decide_eq_true k2
          obtain ⟨ba, bb⟩ := bd a b rfl
          cases hl with
          | cons h1 hl =>
          cases hl with
          | cons h2 hl =>
          cases hl
          cases h1
          cases h2
          refine ⟨_, rfl, t, _, _, _, rfl, rfl, SqT.of ht, rfl, _, _, rfl, rfl, ?_⟩
          refine ⟨_, rfl, ?_⟩
          by_cases c : b > 0
          · rw [if_pos (decide_eq_true c)]
            refine ⟨_, rfl, t, _, _, _, rfl, rfl, SqT.of ht, rfl, _, rfl, t, _, _, _, rfl, rfl, SqT.of ht, rfl, _, _, rfl, a0, c, (bt30 bb).mono (by decide), fun v2 H2 s2 h2 => ?_⟩
            refine ⟨_, rfl, _, .tuple [.int a, .int b], sh_data h2, .tup (s2 _ _ ht) (.cons (.int _) (.cons (.int _) .nil)), cmp_two 0 _ _ _ _, fun b3 hb3 => ?_⟩
            have := k H2 s2
            have e : nnD (.tuple [.int a, .int b]) = b3 := by
              cases b3 with
              | true =>
                have e4 : dsh (Rat.divInt a b) = .tuple [.int a, .int b] := hb3.mp rfl
                rw [← e4]
                exact nn_sh (by
                  have e5 := e4
                  unfold dsh at e5
                  injection e5 with e5
                  injection e5 with e5 _
                  injection e5 with e5
                  exact Rat.num_nonneg.mp (by omega))
              | false =>
                refine Bool.eq_false_iff.mpr fun z => ?_
                have z1 : lookD (.tuple [.int a, .int b]) = true := by
                  unfold nnD at z
                  rw [Bool.and_eq_true] at z
                  exact z.1
                have := hb3.mpr (pair_rat z1)
                cases this
            rw [e] at this
            exact this
          · rw [if_neg (fun z => c (of_decide_eq_true z))]
            have := k H' (Same.refl _)
            have e : nnD (.tuple [.int a, .int b]) = false := by
              have : ¬ 1 ≤ b := by omega
              simp [nnD, lookD, this]
            rw [e] at this
            exact this
        | _ => cases k2
      | _ => cases k1
  | _ => exact iteT (k H (Same.refl _))
def spIsPairD : Sp := fun vs H Q _ => ∃ (a b v : V) (qs rs : List Rat) (d : PyData), vs = [a, b, v] ∧ RuAt H a qs ∧ RuAt H b rs ∧ qs.length = rs.length ∧ qs.length ≤ 12 ∧ DataV H v d ∧ BdI d ∧ ∀ (t : Bool) (H' : Hp), (t = true ↔ PairOk qs rs d) → Same H H' → Q (.bl t) H'
theorem ok_ispairD (T : Txt2 mg) (C_l_is_share : Cal P w K mg base "_law_is_share" ["_law_thing"] 2 spLShD) (C_l_sum : Cal P w K mg base "_law_sum" ["_law_some"] 2 spSumG) (F : FunAt K mg "_law_is_pairing" ["_law_one", "_law_other", "_law_thing"] s_l_is_pairing) : Cal P w K mg base "_law_is_pairing" ["_law_one", "_law_other", "_law_thing"] 3 spIsPairD := by
  have S := sc_l_is_pairing
  refine F.cal sc_l_is_pairing (fun vs H Q E h => ?_) (fun f cdv A outer s H vs Q E hr h => ?_)
  · obtain ⟨a, b, v, qs, rs, d, rfl, _⟩ := h; rfl
  obtain ⟨a, b, v, qs, rs, d, rfl, ⟨a, xs, rfl, ha, sq⟩, ⟨b, ys, rfl, hb, sr⟩, lqr, n12, hd, bdi, k⟩ := h
  have hu0 : (A.deeper (PyProof.Rows.envOfC "_law_is_pairing" (defScope s_l_is_pairing) s.heap.objs.size f cdv)).units < cLine := by have := hr.un; omega
  have hu1 : (A.deeper (PyProof.Rows.envOfC "_law_is_pairing" (defScope s_l_is_pairing) s.heap.objs.size f cdv)).units + (0 + 1) < cLine := by have := hr.un; omega
  have lx := sq.length
  have ly := sr.length
  obtain ⟨n, hn⟩ : ∃ n, n = qs.length := ⟨_, rfl⟩
  refine ⟨_, (@pss_cons _ _ _ _ _ (@ps_if _ _ _ _ _ _ _ _ (@PW.pt _ _ _ (@pw_or _ _ _ _ _ _ _ (@pt_not _ _ _ _ (@pt_val _ _ _ (@pe_callB _ _ _ _ _ _ _ _ _ call_isi (by rfl) (by exact T.z_isinstance) (by exact bt_isinstance) (@pa_consN _ _ _ _ _ (pv 2) (@pa_consN _ _ _ _ _ (@pe_bltn _ _ (.ty "tuple") _ _ (by rfl) (by exact T.z_tuple) (by exact bt_tuple) (by rfl) (by first|rfl|decide|exact .inl rfl|exact .inr rfl|(intros; rfl)) (by first|rfl|decide|exact .inl rfl|exact .inr rfl|(intros; rfl))) pa_nil (by first|rfl|decide|exact .inl rfl|exact .inr rfl|(intros; rfl))) (by first|rfl|decide|exact .inl rfl|exact .inr rfl|(intros; rfl))) (by first|rfl|decide|exact .inl rfl|exact .inr rfl|(intros; rfl)) (by first|rfl|decide|exact .inl rfl|exact .inr rfl|(intros; rfl)) (by first|rfl|decide|exact .inl rfl|exact .inr rfl|(intros; rfl)) (by first|rfl|decide|exact .inl rfl|exact .inr rfl|(intros; rfl))) (by first|rfl|decide|exact .inl rfl|exact .inr rfl|(intros; rfl)))) (@pw_or1 _ _ _ _ (@pt_cmpR _ _ _ _ _ _ _ _ op_ne (@pe_callB _ _ _ _ _ _ _ _ _ call_len_seq (by rfl) (by exact T.z_len) (by exact bt_len) (@pa_consN _ _ _ _ _ (pv 2) pa_nil (by first|rfl|decide|exact .inl rfl|exact .inr rfl|(intros; rfl))) (by first|rfl|decide|exact .inl rfl|exact .inr rfl|(intros; rfl)) (by first|rfl|decide|exact .inl rfl|exact .inr rfl|(intros; rfl)) (by first|rfl|decide|exact .inl rfl|exact .inr rfl|(intros; rfl)) (by first|rfl|decide|exact .inl rfl|exact .inr rfl|(intros; rfl))) (@pe_callB _ _ _ _ _ _ _ _ _ call_len_seq (by rfl) (by exact T.z_len) (by exact bt_len) (@pa_consN _ _ _ _ _ (pv 0) pa_nil (by first|rfl|decide|exact .inl rfl|exact .inr rfl|(intros; rfl))) (by first|rfl|decide|exact .inl rfl|exact .inr rfl|(intros; rfl)) (by first|rfl|decide|exact .inl rfl|exact .inr rfl|(intros; rfl)) (by first|rfl|decide|exact .inl rfl|exact .inr rfl|(intros; rfl)) (by first|rfl|decide|exact .inl rfl|exact .inr rfl|(intros; rfl))) (by exact (nomark _)))))) (@pss_one _ _ _ (@ps_ret _ _ _ _ pe_bl)) pss_nil) (@pss_cons _ _ _ _ _ (@ps_for _ _ _ _ _ _ _ _ (by exact PassesOwn.never) (by rfl) (@pi_tup _ _ _ _ (pv 2)) (@pg_name _ _ (3) _ (by exact S.nd) (by rfl) (by first | exact Or.inl rfl | exact Or.inr rfl) (by first|rfl|decide|exact .inl rfl|exact .inr rfl|(intros; rfl))) (@pss_cons _ _ _ _ _ (@ps_if _ _ _ _ _ _ _ _ (@PW.pt _ _ _ (@pw_or _ _ _ _ _ _ _ (@pt_not _ _ _ _ (@pt_val _ _ _ (@pe_callB _ _ _ _ _ _ _ _ _ call_isi (by rfl) (by exact T.z_isinstance) (by exact bt_isinstance) (@pa_consN _ _ _ _ _ (pv 3) (@pa_consN _ _ _ _ _ (@pe_bltn _ _ (.ty "tuple") _ _ (by rfl) (by exact T.z_tuple) (by exact bt_tuple) (by rfl) (by first|rfl|decide|exact .inl rfl|exact .inr rfl|(intros; rfl)) (by first|rfl|decide|exact .inl rfl|exact .inr rfl|(intros; rfl))) pa_nil (by first|rfl|decide|exact .inl rfl|exact .inr rfl|(intros; rfl))) (by first|rfl|decide|exact .inl rfl|exact .inr rfl|(intros; rfl))) (by first|rfl|decide|exact .inl rfl|exact .inr rfl|(intros; rfl)) (by first|rfl|decide|exact .inl rfl|exact .inr rfl|(intros; rfl)) (by first|rfl|decide|exact .inl rfl|exact .inr rfl|(intros; rfl)) (by first|rfl|decide|exact .inl rfl|exact .inr rfl|(intros; rfl))) (by first|rfl|decide|exact .inl rfl|exact .inr rfl|(intros; rfl)))) (@pw_or1 _ _ _ _ (@pt_cmpR _ _ _ _ _ _ _ _ op_ne (@pe_callB _ _ _ _ _ _ _ _ _ call_len_seq (by rfl) (by exact T.z_len) (by exact bt_len) (@pa_consN _ _ _ _ _ (pv 3) pa_nil (by first|rfl|decide|exact .inl rfl|exact .inr rfl|(intros; rfl))) (by first|rfl|decide|exact .inl rfl|exact .inr rfl|(intros; rfl)) (by first|rfl|decide|exact .inl rfl|exact .inr rfl|(intros; rfl)) (by first|rfl|decide|exact .inl rfl|exact .inr rfl|(intros; rfl)) (by first|rfl|decide|exact .inl rfl|exact .inr rfl|(intros; rfl))) (@pe_callB _ _ _ _ _ _ _ _ _ call_len_seq (by rfl) (by exact T.z_len) (by exact bt_len) (@pa_consN _ _ _ _ _ (pv 0) pa_nil (by first|rfl|decide|exact .inl rfl|exact .inr rfl|(intros; rfl))) (by first|rfl|decide|exact .inl rfl|exact .inr rfl|(intros; rfl)) (by first|rfl|decide|exact .inl rfl|exact .inr rfl|(intros; rfl)) (by first|rfl|decide|exact .inl rfl|exact .inr rfl|(intros; rfl)) (by first|rfl|decide|exact .inl rfl|exact .inr rfl|(intros; rfl))) (by exact (nomark _)))))) (@pss_one _ _ _ (@ps_ret _ _ _ _ pe_bl)) pss_nil) (@pss_one _ _ _ (@ps_if _ _ _ _ _ _ _ _ (@pt_cmpR _ _ _ _ _ _ _ _ (op_neE hu0) (@pe_comp0 _ _ _ _ _ _ _ _ _ _ _ (["_law_part"]) (fun _ => [none]) (by rfl) (by exact (fun _ _ h => h)) (by decide +kernel) (by rfl) (by decide +kernel) (by decide +kernel) (by exact Sees.none1) (@pi_tup _ _ _ _ (pv 3)) (fun _ _ _ _ _ => @pg_name _ _ (0) _ (by exact (show (["_law_part"] : List Str).Nodup by decide +kernel)) (by rfl) (by first | exact Or.inl rfl | exact Or.inr rfl) (by first|rfl|decide|exact .inl rfl|exact .inr rfl|(intros; rfl))) (fun _ _ _ _ _ => (@pts_one _ _ _ (@pt_not _ _ _ _ (@pt_val _ _ _ (@cc _ _ _ _ _ _ _ _ _ _ (by exact C_l_is_share) (by exact (hr.mono (by decide))) (@pa_consN _ _ _ _ _ (pv 0) pa_nil (by first|rfl|decide|exact .inl rfl|exact .inr rfl|(intros; rfl))) (by first|rfl|decide|exact .inl rfl|exact .inr rfl|(intros; rfl)) (by first|rfl|decide|exact .inl rfl|exact .inr rfl|(intros; rfl)) (by first|rfl|decide|exact .inl rfl|exact .inr rfl|(intros; rfl)) (by first|rfl|decide|exact .inl rfl|exact .inr rfl|(intros; rfl))) (by first|rfl|decide|exact .inl rfl|exact .inr rfl|(intros; rfl)))))) (fun _ _ _ _ _ => (pv 0)) (by first|rfl|decide|exact .inl rfl|exact .inr rfl|(intros; rfl))) (@pe_lst _ _ _ _ pa_nil) (by exact (nomark _))) (@pss_one _ _ _ (@ps_ret _ _ _ _ pe_bl)) pss_nil))) (by first|rfl|decide|exact .inl rfl|exact .inr rfl|(intros; rfl))) (@pss_cons _ _ _ _ _ (@ps_for _ _ _ _ _ _ _ _ (by exact PassesOwn.never) (by rfl) (@pi_range1 _ _ _ _ _ _ (by rfl) (by exact T.z_range) (@pa_consN _ _ _ _ _ (@pe_callB _ _ _ _ _ _ _ _ _ call_len_seq (by rfl) (by exact T.z_len) (by exact bt_len) (@pa_consN _ _ _ _ _ (pv 0) pa_nil (by first|rfl|decide|exact .inl rfl|exact .inr rfl|(intros; rfl))) (by first|rfl|decide|exact .inl rfl|exact .inr rfl|(intros; rfl)) (by first|rfl|decide|exact .inl rfl|exact .inr rfl|(intros; rfl)) (by first|rfl|decide|exact .inl rfl|exact .inr rfl|(intros; rfl)) (by first|rfl|decide|exact .inl rfl|exact .inr rfl|(intros; rfl))) pa_nil (by first|rfl|decide|exact .inl rfl|exact .inr rfl|(intros; rfl))) (by first|rfl|decide|exact .inl rfl|exact .inr rfl|(intros; rfl))) (@pg_name _ _ (4) _ (by exact S.nd) (by rfl) (by first | exact Or.inl rfl | exact Or.inr rfl) (by first|rfl|decide|exact .inl rfl|exact .inr rfl|(intros; rfl))) (@pss_cons _ _ _ _ _ (@ps_if _ _ _ _ _ _ _ _ (@PW.pt _ _ _ (@pw_or _ _ _ _ _ _ _ (@pt_cmpR _ _ _ _ _ _ _ _ (op_neD 0 hu1) (@cc _ _ _ _ _ _ _ _ _ _ (by exact C_l_sum) (by exact (hr.mono (by decide))) (@pa_consN _ _ _ _ _ (@pe_ix _ _ _ _ _ _ _ ix_tup0 (pv 2) (pv 4) (by exact (fun _ _ => rfl))) pa_nil (by first|rfl|decide|exact .inl rfl|exact .inr rfl|(intros; rfl))) (by first|rfl|decide|exact .inl rfl|exact .inr rfl|(intros; rfl)) (by first|rfl|decide|exact .inl rfl|exact .inr rfl|(intros; rfl)) (by first|rfl|decide|exact .inl rfl|exact .inr rfl|(intros; rfl)) (by first|rfl|decide|exact .inl rfl|exact .inr rfl|(intros; rfl))) (@pe_ix _ _ _ _ _ _ _ ix_tup0 (pv 0) (pv 4) (by exact (fun _ _ => rfl))) (by exact (nomark _))) (@pw_or1 _ _ _ _ (@pt_cmpR _ _ _ _ _ _ _ _ (op_neD 0 hu1) (@cc _ _ _ _ _ _ _ _ _ _ (by exact C_l_sum) (by exact (hr.mono (by decide))) (@pa_consN _ _ _ _ _ (@pe_comp _ _ _ _ _ _ _ _ _ _ _ _ _ (by rfl) (by exact (fun _ _ h => h)) (by decide +kernel) (by rfl) (by decide +kernel) (by exact hfr_of rfl) (by exact Sees.frees ["_law_line"] [("_law_i", 4)] (fr_cons ⟨rfl, rfl⟩ fr_nil)) (@pi_tup _ _ _ _ (pv 2)) (fun _ _ _ _ _ => @pg_name _ _ (0) _ (by exact (show (["_law_line", "_law_i"] : List Str).Nodup by decide +kernel)) (by rfl) (by first | exact Or.inl rfl | exact Or.inr rfl) (by first|rfl|decide|exact .inl rfl|exact .inr rfl|(intros; rfl))) (fun _ _ _ _ _ => pts_nil) (fun _ _ _ _ _ => (@pe_ix _ _ _ _ _ _ _ ix_tup0 (pv 0) (pv 1) (by exact (fun _ _ => rfl)))) (by first|rfl|decide|exact .inl rfl|exact .inr rfl|(intros; rfl))) pa_nil (by first|rfl|decide|exact .inl rfl|exact .inr rfl|(intros; rfl))) (by first|rfl|decide|exact .inl rfl|exact .inr rfl|(intros; rfl)) (by first|rfl|decide|exact .inl rfl|exact .inr rfl|(intros; rfl)) (by first|rfl|decide|exact .inl rfl|exact .inr rfl|(intros; rfl)) (by first|rfl|decide|exact .inl rfl|exact .inr rfl|(intros; rfl))) (@pe_ix _ _ _ _ _ _ _ ix_tup0 (pv 1) (pv 4) (by exact (fun _ _ => rfl))) (by exact (nomark _)))))) (@pss_one _ _ _ (@ps_ret _ _ _ _ pe_bl)) pss_nil) (@pss_one _ _ _ (@ps_if _ _ _ _ _ _ _ _ (@pt_cmpR _ _ _ _ _ _ _ _ (op_neE hu0) (@pe_comp0 _ _ _ _ _ _ _ _ _ _ _ (["_law_part"]) (fun _ => [none]) (by rfl) (by exact (fun _ _ h => h)) (by decide +kernel) (by rfl) (by decide +kernel) (by decide +kernel) (by exact Sees.none1) (@pi_tup _ _ _ _ (@pe_slice _ _ _ _ _ _ _ _ _ _ sl_tupS (@pe_ix _ _ _ _ _ _ _ ix_tup0 (pv 2) (pv 4) (by exact (fun _ _ => rfl))) (@po_some _ _ _ (@pe_op _ _ _ _ _ _ _ _ op_add (pv 4) pe_int)) po_none)) (fun _ _ _ _ _ => @pg_name _ _ (0) _ (by exact (show (["_law_part"] : List Str).Nodup by decide +kernel)) (by rfl) (by first | exact Or.inl rfl | exact Or.inr rfl) (by first|rfl|decide|exact .inl rfl|exact .inr rfl|(intros; rfl))) (fun _ _ _ _ _ => (@pts_one _ _ _ (@pt_cmpR _ _ _ _ _ _ _ _ (op_neD 0 hu1) (pv 0) (@pe_tup _ _ _ _ _ (@pa_consN _ _ _ _ _ pe_int (@pa_consN _ _ _ _ _ pe_int pa_nil (by first|rfl|decide|exact .inl rfl|exact .inr rfl|(intros; rfl))) (by first|rfl|decide|exact .inl rfl|exact .inr rfl|(intros; rfl)))) (by exact (nomark _))))) (fun _ _ _ _ _ => (pv 0)) (by first|rfl|decide|exact .inl rfl|exact .inr rfl|(intros; rfl))) (@pe_lst _ _ _ _ pa_nil) (by exact (nomark _))) (@pss_one _ _ _ (@ps_ret _ _ _ _ pe_bl)) pss_nil))) (by first|rfl|decide|exact .inl rfl|exact .inr rfl|(intros; rfl))) (@pss_one _ _ _ (@ps_ret _ _ _ _ pe_bl))))), ?_⟩
  have nosq : ∀ H', Same H H' → sqD n d = false → Q (.bl false) H' := fun H' s' z => k _ _ ⟨fun y => (by cases y), fun ⟨M, e, h1, h2, _⟩ => by
    subst e
    rw [sq_of (by omega) (fun r hr => ⟨by have := (h2 r hr).1; omega, (h2 r hr).2⟩)] at z
    cases z⟩ s'
  obtain ⟨ty, hty, _, _, e3, _⟩ := tyOf (K := K) hd
  refine ⟨_, rfl, _, _, _, _, rfl, hty, e3, _, rfl, ?_⟩
  clear hty
  obtain ⟨few, bdS⟩ := id bdi
  have hd0 := hd
  cases hd with
  | @tup t zs ds ht hl =>
    have lz' := hl.length
    have few' := few ds rfl
    refine iteF ?_
    refine ⟨_, rfl, t, _, rfl, .inr (SqT.of ht), _, rfl, a, _, rfl, .inr (SqT.of ha), rfl, _, rfl, ?_⟩
    refine ite2 (fun c => ?_) (fun c => ?_)
    · have ne : ds.length ≠ n := fun z => by
        have : V.int (zs.length : Int) = V.int (xs.length : Int) := by rw [lz', z, lx, hn]
        simp [this] at c
      exact nosq H (Same.refl _) (by simp [sqD, ne])
    have en : ds.length = n := by
      have : V.int (zs.length : Int) = V.int (xs.length : Int) := by simpa using c
      have := V.int.inj this
      omega
    have bad : ∀ r ∈ ds, (rowT n r && rowS r) = false → sqD n (.tuple ds) = false := fun r hr z => by
      refine Bool.eq_false_iff.mpr fun y => ?_
      unfold sqD at y
      rw [Bool.and_eq_true, Bool.and_eq_true] at y
      have y1 := List.all_eq_true.mp y.1.2 r hr
      have y2 := List.all_eq_true.mp y.2 r hr
      rw [y1, y2] at z
      cases z
    refine ⟨_, rfl, t, rfl, ⟨_, SqT.of ht⟩, for_tup (xs := zs) (fun i σ H' => (∃ o3 o4, σ = [some (.ref a), some (.ref b), some (.ref t), o3, o4]) ∧ Same H H' ∧ ∀ j r, j < i → ds[j]? = some r → (rowT n r && rowS r) = true) ⟨⟨_, _, rfl⟩, Same.refl _, fun j r hj => by omega⟩ (fun i σ H' _ h => SqT.of (h.2.1 _ _ ht)) ?_ ?_⟩
    · rintro i x σ H1 hx ⟨⟨o3, o4, rfl⟩, s1, ok⟩
      obtain ⟨r, hr', hv⟩ := DataL.get' hl hx
      have hrm := List.mem_of_getElem? hr'
      have hv1 := hv.same s1
      obtain ⟨ty, hty, _, _, e3, _⟩ := tyOf (K := K) hv1
      refine ⟨_, rfl, _, _, _, _, rfl, hty, e3, _, rfl, ?_⟩
      clear hty
      cases hv1 with
      | @tup ra rz es hra hz =>
        have lrz := hz.length
        refine iteF ?_
        refine ⟨_, rfl, ra, _, rfl, .inr (SqT.of hra), _, rfl, a, _, rfl, .inr (SqT.of (s1 _ _ ha)), rfl, _, rfl, ?_⟩
        refine ite2 (fun c => ?_) (fun c => ?_)
        · have ne : es.length ≠ n := fun z => by
            have : V.int (rz.length : Int) = V.int (xs.length : Int) := by rw [lrz, z, lx, hn]
            simp [this] at c
          exact nosq H1 s1 (bad _ hrm (by simp [rowT, ne]))
        have el : es.length = n := by
          have : V.int (rz.length : Int) = V.int (xs.length : Int) := by simpa using c
          have := V.int.inj this
          omega
        refine ⟨_, rfl, ra, rfl, ⟨_, SqT.of hra⟩, comp_tpT (a := ra) (xs := rz) (fs := []) (fun acc j ws H' => Same H1 H' ∧ (ws = [] ↔ (es.take j).all nnD = true)) (by omega) ?_ ?_ ?_ ?_⟩
        · exact fun acc hacc => ⟨same_new hacc _, by simp⟩
        · rintro acc j ws H' hacc ⟨s', _⟩
          exact s' _ _ hra
        · rintro acc j ws H' y hacc hy hl' ⟨s', ews⟩ hacc' Qf Q' hf hQ
          obtain ⟨e, he, hev⟩ := DataL.get' hz hy
          have bs := bdS ds rfl _ hrm es rfl e (List.mem_of_getElem? he)
          refine ⟨_, rfl, y, e, rfl, hev.same s', bs, fun H'' s'' => ?_⟩
          have snoc : (es.take (j + 1)).all nnD = ((es.take j).all nnD && nnD e) := by rw [List.take_add_one, he, List.all_append]; simp
          cases ee : nnD e with
          | true =>
            refine ⟨_, rfl, iteF (hf _ (s'' _ _ hacc') ⟨s'.trans s'', ?_⟩)⟩
            rw [snoc, ee, Bool.and_true]; exact ews
          | false =>
            refine ⟨_, rfl, iteT ?_⟩
            refine ⟨_, rfl, hQ _ H'' (s'' _ _ hacc') ⟨same_upd (s'.trans s'') hacc, ?_⟩⟩
            rw [snoc, ee, Bool.and_false]
            simp
        · rintro acc ws H2 hacc ⟨s2, ews⟩ hacc'
          refine ⟨lz 0 rfl, fun l0 hl0 => ?_⟩
          have s3 := same_new hl0 (.lst [])
          refine ⟨acc, l0, ws, rfl, rfl, s3 _ _ hacc', upd_same, _, rfl, ?_⟩
          rw [lrz, List.take_length] at ews
          have s13 := s1.trans (s2.trans s3)
          refine ite2 (fun c => ?_) (fun c => ?_)
          · have wne : ws ≠ [] := of_decide_eq_true c
            refine nosq _ s13 (bad _ hrm ?_)
            have : es.all nnD = false := Bool.eq_false_iff.mpr fun z => wne (ews.mpr z)
            simp [rowS, this]
          · have we : ws = [] := by simpa using c
            refine ⟨⟨_, _, rfl⟩, s13, fun j r hj hrj => ?_⟩
            by_cases ej : j = i
            · subst ej
              rw [hr'] at hrj
              cases hrj
              simp [rowT, rowS, el, ews.mp we]
            · exact ok j r (by omega) hrj
      | _ => exact iteT (nosq H1 s1 (bad _ hrm rfl))
    · rintro σ H1 ⟨⟨o3, o4, rfl⟩, s1, ok⟩
      have hsq : sqD n (.tuple ds) = true := by
        unfold sqD
        rw [Bool.and_eq_true, Bool.and_eq_true]
        refine ⟨⟨decide_eq_true en, List.all_eq_true.mpr fun r hr => ?_⟩, List.all_eq_true.mpr fun r hr => ?_⟩
        · obtain ⟨j, hj, rfl⟩ := List.getElem_of_mem hr
          have := ok j _ (by omega) (List.getElem?_eq_getElem hj)
          rw [Bool.and_eq_true] at this
          exact this.1
        · obtain ⟨j, hj, rfl⟩ := List.getElem_of_mem hr
          have := ok j _ (by omega) (List.getElem?_eq_getElem hj)
          rw [Bool.and_eq_true] at this
          exact this.2
      obtain ⟨M, eM, gl, hM⟩ := sq_ex hsq
      have bM := (bdi.bd).1 M eM
      rw [eM] at hd0
      have mt := mat_of_data hd0
      obtain ⟨t', zs', e, ht', rows⟩ := mt
      cases e
      rw [ht] at ht'
      cases ht'
      have ok_M : PairOk qs rs (.tuple ds) → (∀ i, i < n → psum (M.getD i []) = qs.getD i 0 ∧ colF M i = rs.getD i 0 ∧ ∀ j, i < j → j < n → (M.getD i []).getD j 0 = 0) := by
        rintro ⟨N, e, _, _, h1, h2, h3⟩ i hi
        have := mat_inj (eM.symm.trans e)
        subst this
        refine ⟨?_, ?_, fun j h4 h5 => h1 i j h4 (by omega)⟩
        · rw [← h2, getD_of (by omega), getD_of (by rw [List.length_map]; omega), List.getElem_map]
        · rw [← h3, getD_of (by simp; omega), List.getElem_map, List.getElem_range]
      have fail : ∀ H', Same H H' → ¬ PairOk qs rs (.tuple ds) → Q (.bl false) H' := fun H' s' h => k _ _ ⟨fun y => (by cases y), fun z => absurd z h⟩ s'
      have lzM := rows.length
      refine ⟨_, rfl, a, _, rfl, .inr (SqT.of (s1 _ _ ha)), _, rfl, by omega, by omega, for_range (n := ((xs.length : Nat) : Int).toNat) (lo := 0) (fun i σ H' => (∃ o3 o4, σ = [some (.ref a), some (.ref b), some (.ref t), o3, o4]) ∧ Same H H' ∧ ∀ i', i' < i → psum (M.getD i' []) = qs.getD i' 0 ∧ colF M i' = rs.getD i' 0 ∧ ∀ j, i' < j → j < n → (M.getD i' []).getD j 0 = 0) ⟨⟨_, _, rfl⟩, s1, fun i' h => by omega⟩ ?_ ?_⟩
      · rintro i σ H2 hi ⟨⟨o3, o4, rfl⟩, s2, done⟩
        have hin : i < n := by omega
        have e0 : (0 : Int) + (i : Int) = (i : Int) := by omega
        obtain ⟨x, hx⟩ : ∃ x, zs[i]? = some x := ⟨_, List.getElem?_eq_getElem (by omega)⟩
        obtain ⟨r, hr', ⟨ra, rz, rfl, hra, shr⟩⟩ := rows.at hx
        have hrm := List.mem_of_getElem? hr'
        obtain ⟨r0, r1⟩ := hM r hrm
        have rb := bM r hrm
        have er : M.getD i [] = r := by rw [List.getD_eq_getElem?_getD, hr']; rfl
        obtain ⟨x1, hx1⟩ : ∃ x, xs[i]? = some x := ⟨_, List.getElem?_eq_getElem (by omega)⟩
        obtain ⟨q1, hq1, sh1⟩ := sq.at hx1
        obtain ⟨y1, hy1⟩ : ∃ x, ys[i]? = some x := ⟨_, List.getElem?_eq_getElem (by omega)⟩
        obtain ⟨p1, hp1, sp1⟩ := sr.at hy1
        have eq1 : qs.getD i 0 = q1 := by rw [List.getD_eq_getElem?_getD, hq1]; rfl
        have ep1 : rs.getD i 0 = p1 := by rw [List.getD_eq_getElem?_getD, hp1]; rfl
        refine ⟨_, rfl, _, rfl, t, zs, _, _, rfl, rfl, s2 _ _ ht, (by rw [e0]; exact atI_nat hx), ra, rz, r, rfl, .inl (s2 _ _ hra), shr.same s2, fun q hq => ⟨r1 q hq, (rb q hq).mono (by decide)⟩, fun k => (psum_sbN rb (by omega) k).mono (by decide), fun v3 H3 s3 h3 => ?_⟩
        have s23 := s2.trans s3
        refine ⟨_, rfl, _, rfl, a, xs, _, _, rfl, rfl, s23 _ _ ha, (by rw [e0]; exact atI_nat hx1), _, _, sh_data h3, sh_data (sh1.same s23), cmp_sh 0 _ _, fun b3 hb3 => ?_⟩
        have cb : ∀ q ∈ M.map fun r => r.getD i 0, 0 ≤ q ∧ SB 30 q := fun q hq => by
          obtain ⟨r', hr2, rfl⟩ := List.mem_map.mp hq
          have l0 := (hM r' hr2).1
          rw [getD_of (by omega)]
          exact ⟨(hM r' hr2).2 _ (List.getElem_mem _), bM r' hr2 _ (List.getElem_mem _)⟩
        cases b3 with
        | true =>
          refine ⟨_, rfl, iteT (fail _ s23 fun z => ?_)⟩
          have := (ok_M z i hin).1
          rw [er, eq1] at this
          exact hb3.mp rfl (by rw [this])
        | false =>
        have er1 : psum r = q1 := Classical.byContradiction fun z => by
          have := hb3.mpr fun y => z (dsh_inj y)
          cases this
        refine ⟨_, rfl, iteF ?_⟩
        refine ⟨_, rfl, t, rfl, ⟨_, SqT.of (s23 _ _ ht)⟩, comp_tp (a := t) (xs := zs) (fs := [some (.int (0 + (i : Int)))]) (fun acc j ws H' => Same H3 H' ∧ Shs H' ws ((M.take j).map fun r => r.getD i 0)) (by omega) ?_ ?_ ?_ ?_⟩
        · exact fun acc hacc => ⟨same_new hacc _, .nil⟩
        · rintro acc j ws H' hacc ⟨s', _⟩
          exact (s23.trans s') _ _ ht
        · rintro acc j ws H' y hacc hy hl ⟨s', sh2⟩ hacc' Q' hQ
          obtain ⟨r', hr2, ⟨rb', rw', rfl, hrb, shb⟩⟩ := rows.at hy
          have sy := s23.trans s'
          obtain ⟨z, hz⟩ : ∃ z, rw'[i]? = some z := ⟨_, List.getElem?_eq_getElem (by rw [shb.length, (hM r' (List.mem_of_getElem? hr2)).1]; omega)⟩
          obtain ⟨q, hq, shq⟩ := shb.at hz
          refine ⟨_, rfl, _, rfl, rb', rw', _, _, rfl, rfl, sy _ _ hrb, (by rw [e0]; exact atI_nat hz), ?_⟩
          refine hQ _ H' hacc' ⟨same_upd s' hacc, ?_⟩
          rw [List.take_add_one, hr2, List.map_append]
          refine Shs.snoc (shUpdL hacc' ?_) (Shs.updL hacc' sh2)
          show ShAt H' z (r'.getD i 0)
          rw [List.getD_eq_getElem?_getD, hq]
          exact shq.same sy
        · rintro acc ws H4 hacc ⟨s4, sh2⟩ hacc' hl
          rw [lzM, List.take_length] at sh2
          refine ⟨acc, ws, _, rfl, .inr hacc', sh2, fun q hq => ⟨(cb q hq).1, (cb q hq).2.mono (by decide)⟩, fun k => (psum_sbN (fun q hq => (cb q hq).2) (by rw [List.length_map]; omega) k).mono (by decide), fun v5 H5 s5 h5 => ?_⟩
          have s25 := s23.trans (s4.trans s5)
          refine ⟨_, rfl, _, rfl, b, ys, _, _, rfl, rfl, s25 _ _ hb, (by rw [e0]; exact atI_nat hy1), _, _, sh_data h5, sh_data (sp1.same s25), cmp_sh 0 _ _, fun b5 hb5 => ?_⟩
          cases b5 with
          | true =>
            refine ⟨_, rfl, iteT (fail _ s25 fun z => ?_)⟩
            have := (ok_M z i hin).2.1
            rw [ep1] at this
            exact hb5.mp rfl (by rw [← this]; rfl)
          | false =>
          have ec1 : colF M i = p1 := Classical.byContradiction fun z => by
            have := hb5.mpr fun y => z (dsh_inj y)
            cases this
          refine ⟨_, rfl, iteF ?_⟩
          refine ⟨_, rfl, _, rfl, t, zs, _, _, rfl, rfl, s25 _ _ ht, (by rw [e0]; exact atI_nat hx), _, rfl, _, _, rfl, rfl, _, rfl, ra, rz, rfl, s25 _ _ hra, fun c6 H6 s6 hc6 => ?_⟩
          have lrz := shr.length
          have ecut : cutV rz (some ((0 : Int) + (i : Int) + 1)) none = rz.drop (i + 1) := by
            rw [show (0 : Int) + (i : Int) + 1 = ((i + 1 : Nat) : Int) by omega]
            exact cut_drop (by omega)
          replace hc6 : H6 c6 = some (.tup (rz.drop (i + 1))) := by rw [← ecut]; exact hc6
          have s26 := s25.trans s6
          refine ⟨c6, rfl, ⟨_, SqT.of hc6⟩, comp_tpT (a := c6) (xs := rz.drop (i + 1)) (fs := []) (fun acc j ws H' => Same H6 H' ∧ (ws = [] ↔ ∀ j', j' < j → i + 1 + j' < n → r.getD (i + 1 + j') 0 = 0)) (by rw [List.length_drop]; omega) ?_ ?_ ?_ ?_⟩
          · exact fun acc hacc => ⟨same_new hacc _, by simp⟩
          · rintro acc j ws H' hacc ⟨s', _⟩
            exact s' _ _ hc6
          · rintro acc j ws H' y hacc hy hl ⟨s', ews⟩ hacc' Qf Q' hf hQ
            rw [List.getElem?_drop] at hy
            obtain ⟨q, hq, shq⟩ := shr.at hy
            have hj : i + 1 + j < n := by
              obtain ⟨h, _⟩ := List.getElem?_eq_some_iff.mp hy
              omega
            have eqj : r.getD (i + 1 + j) 0 = q := by rw [List.getD_eq_getElem?_getD, hq]; rfl
            refine ⟨_, rfl, lz 2 rfl, fun u hu => ?_⟩
            have su := same_new hu (.tup [.int 0, .int 1])
            have sv := (s26.trans s').trans su
            refine ⟨_, _, sh_data (shq.same sv), sh_data (q := 0) ⟨u, rfl, upd_same⟩, cmp_sh 0 _ _, fun b7 hb7 => ?_⟩
            cases b7 with
            | false =>
              have q0 : q = 0 := Classical.byContradiction fun z => by
                have := hb7.mpr fun y => z (dsh_inj y)
                cases this
              refine ⟨_, rfl, iteF (hf _ (su _ _ hacc') ⟨s'.trans su, ?_⟩)⟩
              rw [ews]
              constructor
              · intro h j' h1 h2
                by_cases e : j' = j
                · subst e; rw [eqj, q0]
                · exact h j' (by omega) h2
              · exact fun h j' h1 h2 => h j' (by omega) h2
            | true =>
              refine ⟨_, rfl, iteT ?_⟩
              refine ⟨_, rfl, hQ _ _ (su _ _ hacc') ⟨same_upd (s'.trans su) hacc, ?_⟩⟩
              constructor
              · intro h; simp at h
              · intro h
                have := h j (by omega) hj
                rw [eqj] at this
                exact absurd (by rw [this]) (hb7.mp rfl)
          · rintro acc2 ws2 H7 hacc2 ⟨s7, ews⟩ hacc2'
            refine ⟨lz 0 rfl, fun l0 hl0 => ?_⟩
            have s8 := same_new hl0 (.lst [])
            refine ⟨acc2, l0, ws2, rfl, rfl, s8 _ _ hacc2', upd_same, _, rfl, ?_⟩
            have s28 := s26.trans (s7.trans s8)
            have el : (rz.drop (i + 1)).length = n - (i + 1) := by rw [List.length_drop]; omega
            rw [el] at ews
            refine ite2 (fun c => ?_) (fun c => ?_)
            · have wne : ws2 ≠ [] := of_decide_eq_true c
              refine fail _ s28 fun z => wne (ews.mpr fun j' h1 h2 => ?_)
              have := (ok_M z i hin).2.2 (i + 1 + j') (by omega) h2
              rw [er] at this
              exact this
            · have we : ws2 = [] := by simpa using c
              have zz := ews.mp we
              refine ⟨⟨_, _, rfl⟩, s28, fun i' h => ?_⟩
              by_cases e : i' = i
              · subst e
                rw [er, eq1, ep1]
                refine ⟨er1, ec1, fun j h1 h2 => ?_⟩
                have := zz (j - (i' + 1)) (by omega) (by omega)
                rw [show i' + 1 + (j - (i' + 1)) = j by omega] at this
                exact this
              · exact done i' (by omega)
      · rintro σ H2 ⟨⟨o3, o4, rfl⟩, s2, done⟩
        refine k _ _ ⟨fun _ => ?_, fun _ => rfl⟩ s2
        have dn : ∀ i', i' < n → _ := fun i' h => done i' (by omega)
        refine ⟨M, eM, by omega, fun r hr => ⟨by have := (hM r hr).1; omega, (hM r hr).2⟩, fun i j h1 h2 => (dn i (by omega)).2.2 j h1 (by omega), ?_, ?_⟩
        · refine List.ext_getElem (by rw [List.length_map]; omega) fun i h1 h2 => ?_
          have := (dn i (by omega)).1
          rw [getD_of (by omega), getD_of h2] at this
          rw [List.getElem_map]; exact this
        · refine List.ext_getElem (by simp; omega) fun i h1 h2 => ?_
          have := (dn i (by omega)).2.1
          rw [getD_of h2] at this
          rw [List.getElem_map, List.getElem_range]; exact this
  | _ => exact iteT (nosq H (Same.refl _) rfl)
end
end My

set_option Elab.async false
set_option linter.all false
set_option maxRecDepth 100000
set_option maxHeartbeats 1000000
namespace My
open PySem L2 MA Srt PySem.Spec
/-! beside the pen -/
theorem PenZ.ne {K : PySem.W.Frag} {H : Hp} {p q : Addr} {n : Nat} (h : PenZ K H p n) (hq : H q = none) : q ≠ p := fun e => by
  obtain ⟨c, ns, a, x, h1, _⟩ := h
  rw [← e, hq] at h1
  cases h1
theorem PenZ.keepT {K : PySem.W.Frag} {H H' : Hp} {p b : Addr} {n : Nat} {xs : List V} (h : PenZ K H p n) (x : SameY p H H') (hb : H b = some (.tup xs)) : H' b = some (.tup xs) := x.all b _ hb (by
  rintro rfl
  obtain ⟨c, ns, a, l, h1, _⟩ := h
  rw [hb] at h1
  cases h1)
theorem PenZ.neL {K : PySem.W.Frag} {H : Hp} {p b : Addr} {n : Nat} {ns : List Int} (h : PenZ K H p n) (hb : H b = some (.lst (iv ns))) : b ≠ p := by
  rintro rfl
  obtain ⟨c, ms, a, l, h1, _⟩ := h
  rw [hb] at h1
  exact not_pen (HO.lst.inj (Option.some.inj h1)).symm
theorem penZ_upd {K : PySem.W.Frag} {H H2 : Hp} {p acc : Addr} {n m : Nat} (hn : H acc = none) (hp : PenZ K H p n) (x : SameY p H H2) (hp2 : PenZ K H2 p m) (o : HO) : PenZ K (upd H2 acc o) p m ∧ SameY p H (upd H2 acc o) := by
  have pa := hp.ne hn
  obtain ⟨c, ns, a, l, h1, h2, h3, h4⟩ := hp
  obtain ⟨c2, ns2, a2, l2, g1, g2, g3, g4⟩ := hp2
  obtain ⟨a', l', e'⟩ := x.pen c a l h1
  have ec : c2 = c := by
    rw [g1] at e'
    have := HO.lst.inj (Option.some.inj e')
    simp [penV] at this
    exact this.1
  subst ec
  refine ⟨⟨c2, ns, a2, l2, ?_, ?_, g3, g4⟩, ⟨fun b o' e hb => ?_, fun c' a'' l'' e => ?_⟩⟩
  · rw [upd_ne (Ne.symm pa)]; exact g1
  · rcases sq_ne h2 h1 with ⟨o', e, ne, f⟩ | f
    · refine f _ ?_
      rw [upd_ne (fun z => by rw [z, hn] at e; cases e)]
      exact x.all _ _ e ne
    · exact f _
  · rw [upd_ne (fun z => by rw [z, hn] at e; cases e)]
    exact x.all _ _ e hb
  · obtain ⟨a3, l3, e3⟩ := x.pen c' a'' l'' e
    exact ⟨a3, l3, by rw [upd_ne (Ne.symm pa)]; exact e3⟩
def LsAt (H : Hp) (v : V) (ns : List Int) : Prop := ∃ a, v = .ref a ∧ H a = some (.lst (iv ns))
def Rws (H : Hp) : List V → List (List Int) → Prop := Paired (LsAt H)
theorem Rws.same {H H' : Hp} (s : Same H H') : ∀ {xs : List V} {rs : List (List Int)}, Rws H xs rs → Rws H' xs rs
  | _, _, .nil => .nil
  | _, _, .cons r t => let ⟨a, e, h⟩ := r; .cons ⟨a, e, s _ _ h⟩ (Rws.same s t)
theorem Rws.len {H : Hp} : ∀ {xs : List V} {rs : List (List Int)}, Rws H xs rs → xs.length = rs.length
  | _, _, .nil => rfl
  | _, _, .cons _ t => by simp [Rws.len t]
theorem Rws.refs {H : Hp} : ∀ {xs : List V} {rs : List (List Int)}, Rws H xs rs → ∀ x ∈ xs, ∃ a, x = .ref a
  | _, _, .nil, x, h => by simp at h
  | _, _, .cons r t, x, h => by
    rcases List.mem_cons.mp h with rfl | h
    · obtain ⟨a, e, _⟩ := r; exact ⟨a, e⟩
    · exact Rws.refs t x h
theorem Rws.get {H : Hp} {xs : List V} {rs : List (List Int)} (h : Rws H xs rs) {i : Nat} {r : List Int} (hr : rs[i]? = some r) : ∃ a, xs[i]? = some (.ref a) ∧ H a = some (.lst (iv r)) := by
  induction h generalizing i with
  | nil => simp at hr
  | cons r0 t ih =>
    cases i with
    | zero =>
      have := Option.some.inj (by simpa using hr)
      subst this
      obtain ⟨a, e, h⟩ := r0
      exact ⟨a, by simp [e], h⟩
    | succ i => exact ih (by simpa using hr)
theorem ls_ne {H : Hp} {a acc : Addr} {ns : List Int} {ys : List V} (ha : H a = some (.lst (iv ns))) (hacc : H acc = some (.lst ys)) (hn : ns ≠ []) (hy : ∀ y ∈ ys, ∃ b, y = .ref b) : a ≠ acc := by
  rintro rfl
  rw [ha] at hacc
  have e := HO.lst.inj (Option.some.inj hacc)
  cases ns with
  | nil => exact hn rfl
  | cons n ns =>
    have hm : V.int n ∈ ys := by rw [← e]; simp
    obtain ⟨b, e'⟩ := hy _ hm
    cases e'
theorem Rws.upd {H : Hp} {acc : Addr} {zs : List V} {o : HO} (hacc : H acc = some (.lst zs)) (hz : ∀ y ∈ zs, ∃ b, y = .ref b) : ∀ {xs : List V} {rs : List (List Int)}, Rws H xs rs → (∀ r ∈ rs, r ≠ []) → Rws (upd H acc o) xs rs
  | _, _, .nil, _ => .nil
  | _, _, .cons r t, h => by
    obtain ⟨a, e, ha⟩ := r
    exact .cons ⟨a, e, by rw [upd_ne (ls_ne ha hacc (h _ List.mem_cons_self) hz)]; exact ha⟩ (Rws.upd hacc hz t fun r hr => h r (List.mem_cons_of_mem _ hr))
theorem Rws.snoc {H : Hp} {v : V} {r : List Int} (h : LsAt H v r) : ∀ {xs : List V} {rs : List (List Int)}, Rws H xs rs → Rws H (xs ++ [v]) (rs ++ [r])
  | _, _, .nil => .cons h .nil
  | _, _, .cons r t => .cons r (Rws.snoc h t)
theorem Rws.at {H : Hp} {xs : List V} {rs : List (List Int)} {i : Nat} {x : V} (h : Rws H xs rs) (e : xs[i]? = some x) : ∃ r, rs[i]? = some r ∧ LsAt H x r := paired_get h e
theorem Rws.keepY {H H' : Hp} {p : Addr} (x : SameY p H H') (np : ∀ ns a, H a = some (.lst (iv ns)) → a ≠ p) : ∀ {xs : List V} {rs : List (List Int)}, Rws H xs rs → Rws H' xs rs
  | _, _, .nil => .nil
  | _, _, .cons r t => let ⟨a, e, h⟩ := r; .cons ⟨a, e, x.all _ _ h (np _ _ h)⟩ (Rws.keepY x np t)
/-- a row changed: what stands there then -/
theorem Rws.set {H : Hp} {ra : Addr} {old new : List Int} (hra : H ra = some (.lst (iv old))) : ∀ {xs : List V} {rs : List (List Int)}, Rws H xs rs → ∃ T : List (List Int), Rws (L2.upd H ra (.lst (iv new))) xs T ∧ T.length = rs.length ∧ ∀ i, T.getD i [] = rs.getD i [] ∨ (T.getD i [] = new ∧ rs.getD i [] = old)
  | _, [], .nil => ⟨[], .nil, rfl, fun i => .inl rfl⟩
  | _, r0 :: _, .cons r t => by
    obtain ⟨a, e, h⟩ := r
    obtain ⟨T, h1, h2, h3⟩ := Rws.set hra t
    by_cases c : a = ra
    · subst c
      rw [hra] at h
      have eo : old = r0 := by
        have := HO.lst.inj (Option.some.inj h)
        have i1 := seqI old old
        rw [decide_eq_true rfl] at i1
        have i2 := seqI old r0
        rw [← this] at i2
        rw [i1] at i2
        exact of_decide_eq_true i2.symm
      refine ⟨new :: T, .cons ⟨a, e, upd_same⟩ h1, by simp [h2], fun i => ?_⟩
      cases i with
      | zero => exact .inr ⟨rfl, eo.symm⟩
      | succ i => simpa using h3 i
    · refine ⟨_ :: T, .cons ⟨a, e, by rw [upd_ne c]; exact h⟩ h1, by simp [h2], fun i => ?_⟩
      cases i with
      | zero => exact .inl rfl
      | succ i => simpa using h3 i
/-- a table of small numbers -/
structure Tb (n : Nat) (B : Int) (T : List (List Int)) : Prop where
  len : T.length = n
  row : ∀ r ∈ T, r.length = n
  rng : ∀ r ∈ T, ∀ x ∈ r, -B ≤ x ∧ x ≤ B
def TabAt (H : Hp) (l : Addr) (T : List (List Int)) : Prop := ∃ xs, H l = some (.lst xs) ∧ Rws H xs T
theorem mem_getD {T : List (List Int)} {r : List Int} (h : r ∈ T) : ∃ i, i < T.length ∧ T.getD i [] = r := by
  obtain ⟨i, hi, rfl⟩ := List.getElem_of_mem h
  exact ⟨i, hi, getD_of hi⟩
theorem Tb.set {n : Nat} {B : Int} {T T' : List (List Int)} {old new : List Int} (h : Tb n B T) (l : T'.length = T.length) (hs : ∀ i, T'.getD i [] = T.getD i [] ∨ (T'.getD i [] = new ∧ T.getD i [] = old)) (nl : new.length = n) (nr : ∀ x ∈ new, -B ≤ x ∧ x ≤ B) : Tb n B T' := by
  refine ⟨by rw [l]; exact h.len, fun r hr => ?_, fun r hr => ?_⟩
  · obtain ⟨i, hi, rfl⟩ := mem_getD hr
    rcases hs i with e | ⟨e, _⟩
    · rw [e, getD_of (by omega)]; exact h.row _ (List.getElem_mem _)
    · rw [e]; exact nl
  · obtain ⟨i, hi, rfl⟩ := mem_getD hr
    rcases hs i with e | ⟨e, _⟩
    · rw [e, getD_of (by omega)]; exact h.rng _ (List.getElem_mem _)
    · rw [e]; exact nr
section
variable {P : Program} {w : World} {K : PySem.W.Frag} {mg : Str → Option Value} {base : Heap}
def spShareN : Sp := fun vs H Q _ => ∃ t b : Int, vs = [.int t, .int b] ∧ 0 < b ∧ Bt 8000 b ∧ ∀ v H', Same H H' → ShAt H' v (Rat.divInt t b) → Q v H'
theorem ok_shareN (T : Txt2 mg) (F : FunAt K mg "_law_share" ["_law_top", "_law_bottom"] s_l_share) : Cal P w K mg base "_law_share" ["_law_top", "_law_bottom"] 1 spShareN := by
  have S := sc_l_share
  refine F.cal sc_l_share (fun vs H Q E h => ?_) (fun f cdv A outer s H vs Q E hr h => ?_)
  · obtain ⟨a, b, rfl, _⟩ := h; rfl
  obtain ⟨t, b, rfl, hb, bb, k⟩ := h
  refine ⟨_, (@pss_cons _ _ _ _ _ (@ps_set _ _ (2) _ _ _ _ (by exact S.nd) (by rfl) (by first | exact Or.inl rfl | exact Or.inr rfl) (@pe_callB _ _ _ _ _ _ _ _ _ call_abs (by rfl) (by exact T.z_abs) (by exact bt_abs) (@pa_consN _ _ _ _ _ (pv 0) pa_nil (by first|rfl|decide|exact .inl rfl|exact .inr rfl|(intros; rfl))) (by first|rfl|decide|exact .inl rfl|exact .inr rfl|(intros; rfl)) (by first|rfl|decide|exact .inl rfl|exact .inr rfl|(intros; rfl)) (by first|rfl|decide|exact .inl rfl|exact .inr rfl|(intros; rfl)) (by first|rfl|decide|exact .inl rfl|exact .inr rfl|(intros; rfl))) (by first|rfl|decide|exact .inl rfl|exact .inr rfl|(intros; rfl)) (by first|rfl|decide|exact .inl rfl|exact .inr rfl|(intros; rfl))) (@pss_cons _ _ _ _ _ (@ps_set _ _ (3) _ _ _ _ (by exact S.nd) (by rfl) (by first | exact Or.inl rfl | exact Or.inr rfl) (pv 1) (by first|rfl|decide|exact .inl rfl|exact .inr rfl|(intros; rfl)) (by first|rfl|decide|exact .inl rfl|exact .inr rfl|(intros; rfl))) (@pss_cons _ _ _ _ _ (@ps_while _ _ _ _ _ _ (by exact PassesOwn.never) (@pt_cmpR _ _ _ _ _ _ _ _ op_gt (pv 3) pe_int (by exact (nomark _))) (@pss_one _ _ _ (@ps_par _ _ (2) (3) _ _ _ _ _ _ _ _ _ _ _ (by rfl) (by exact S.nd) (by rfl) (by rfl) (by decide) (by rfl) (by rfl) (@pa_consN _ _ _ _ _ (pv 3) (@pa_consN _ _ _ _ _ (@pe_op _ _ _ _ _ _ _ _ op_mod (pv 2) (pv 3)) pa_nil (by first|rfl|decide|exact .inl rfl|exact .inr rfl|(intros; rfl))) (by first|rfl|decide|exact .inl rfl|exact .inr rfl|(intros; rfl))) (by rfl) (by first|rfl|decide|exact .inl rfl|exact .inr rfl|(intros; rfl))))) (@pss_one _ _ _ (@ps_ret _ _ _ _ (@pe_tup _ _ _ _ _ (@pa_consN _ _ _ _ _ (@pe_op _ _ _ _ _ _ _ _ op_fdivB (pv 0) (pv 2)) (@pa_consN _ _ _ _ _ (@pe_op _ _ _ _ _ _ _ _ op_fdivB (pv 1) (pv 2)) pa_nil (by first|rfl|decide|exact .inl rfl|exact .inr rfl|(intros; rfl))) (by first|rfl|decide|exact .inl rfl|exact .inr rfl|(intros; rfl))))))))), ?_⟩
  refine ⟨_, rfl, _, rfl, ?_⟩
  obtain ⟨u, hu⟩ : ∃ u : Int, u = if t < 0 then -t else t := ⟨_, rfl⟩
  have u0 : 0 ≤ u := by rw [hu]; split <;> omega
  have ug : gI u b = gI t b := by
    rw [hu]
    split
    · unfold gI; simp
    · rfl
  rw [← hu]
  refine ⟨_, rfl, ?_⟩
  refine while_by (fun σ H' => H' = H ∧ ∃ x y : Int, σ = [some (.int t), some (.int b), some (.int x), some (.int y)] ∧ 0 ≤ x ∧ 0 ≤ y ∧ gI x y = gI t b) (fun σ _ => match σ with | [_, _, _, some (.int y)] => y.toNat | _ => 0) ⟨rfl, _, _, rfl, u0, by omega, ug⟩ ?_ ?_
  · rintro σ H' ⟨rfl, x, y, rfl, hx, hy, hg⟩
    refine ⟨_, rfl, _, _, rfl, rfl, _, rfl, ?_⟩
    refine ite2 (fun c => ?_) (fun c => ?_)
    · have hy0 : 0 < y := of_decide_eq_true c
      refine ⟨_, rfl, _, rfl, _, rfl, _, _, rfl, rfl, hy0, _, _, rfl, ?_⟩
      have hm := Int.emod_nonneg x (show y ≠ 0 by omega)
      have hl := Int.emod_lt_of_pos x hy0
      refine ⟨⟨rfl, _, _, rfl, hy, hm, ?_⟩, ?_⟩
      · rw [gI_step hx]; exact hg
      · show (x % y).toNat < y.toNat
        omega
    · have hy0 : y = 0 := by
        have : ¬ 0 < y := by simpa using c
        omega
      subst hy0
      rw [gI_zero hx] at hg
      subst hg
      have g0 := gI_pos_right (a := t) (b := b) (by omega)
      have gb : Bt 8000 (gI t b) := bb.gr (by omega)
      refine ⟨_, rfl, _, rfl, _, _, rfl, rfl, ⟨g0, gb⟩, _, rfl, _, rfl, _, _, rfl, rfl, ⟨g0, gb⟩, lz 2 rfl, fun p hp => ?_⟩
      have e := share_pos (t := t) hb
      exact k _ _ (same_new hp _) ⟨p, rfl, by rw [upd_same, ← e.1, ← e.2]⟩
  · rintro σ H' Q1 Q2 hQ ⟨v, e, h0, b0, h1, h2, b1, e2, h3⟩
    exact ⟨v, e, h0, b0, h1, h2, b1, e2, hQ _ _ h3⟩

def matT (T : List (List Int)) (W : Int) : List (List Rat) := T.map fun r => r.map fun x => Rat.divInt x W
def spShares : Sp := fun vs H Q _ => ∃ (l : Addr) (T : List (List Int)) (W : Int) (n : Nat), vs = [.ref l, .int W] ∧ TabAt H l T ∧ Tb n 1000 T ∧ n ≤ 12 ∧ 0 < W ∧ W ≤ 100000 ∧ ∀ v H', Same H H' → MatAt H' v (matT T W) → Q v H'
theorem ok_shares (T : Txt2 mg) (C_l_share : Cal P w K mg base "_law_share" ["_law_top", "_law_bottom"] 1 spShareN) (F : FunAt K mg "_law_shares" ["_law_table_here", "_law_whole"] s_l_shares) : Cal P w K mg base "_law_shares" ["_law_table_here", "_law_whole"] 2 spShares := by
  have S := sc_l_shares
  refine F.cal sc_l_shares (fun vs H Q E h => ?_) (fun f cdv A outer s H vs Q E hr h => ?_)
  · obtain ⟨l, T, W, n, rfl, _⟩ := h; rfl
  obtain ⟨l, T', W, n, rfl, ⟨xs, hl, rws⟩, tb, n12, W0, W1, k⟩ := h
  have lx := rws.len
  have tl := tb.len
  have bW : Bt 8000 W := (bt30 (x := W) (by omega)).mono (by decide)
  refine ⟨_, (@pss_one _ _ _ (@ps_ret _ _ _ _ (@pe_callTy _ _ _ _ _ _ _ _ _ (call_tuple_K K (by rfl)) (by rfl) (by exact T.z_tuple) (by exact bt_tuple) (@pa_consN _ _ _ _ _ (@pe_comp _ _ _ _ _ _ _ _ _ _ _ _ _ (by rfl) (by exact (fun _ _ h => h)) (by decide +kernel) (by rfl) (by decide +kernel) (by exact hfr_of rfl) (by exact Sees.frees ["_law_line"] [("_law_whole", 1)] (fr_cons ⟨rfl, rfl⟩ fr_nil)) (@pi_list _ _ _ _ (pv 0)) (fun _ _ _ _ _ => @pg_name _ _ (0) _ (by exact (show (["_law_line", "_law_whole"] : List Str).Nodup by decide +kernel)) (by rfl) (by first | exact Or.inl rfl | exact Or.inr rfl) (by first|rfl|decide|exact .inl rfl|exact .inr rfl|(intros; rfl))) (fun _ _ _ _ _ => pts_nil) (fun _ _ _ _ _ => (@pe_callTy _ _ _ _ _ _ _ _ _ (call_tuple_K K (by rfl)) (by rfl) (by exact T.z_tuple) (by exact bt_tuple) (@pa_consN _ _ _ _ _ (@pe_comp _ _ _ _ _ _ _ _ _ _ _ _ _ (by rfl) (by exact (fun _ _ h => h)) (by decide +kernel) (by rfl) (by decide +kernel) (by exact hfr_of rfl) (by exact Sees.frees ["_law_part"] [("_law_whole", 1)] (fr_cons ⟨rfl, rfl⟩ fr_nil)) (@pi_list_K _ _ _ _ K (by rfl) (pv 0)) (fun _ _ _ _ _ => @pg_name _ _ (0) _ (by exact (show (["_law_part", "_law_whole"] : List Str).Nodup by decide +kernel)) (by rfl) (by first | exact Or.inl rfl | exact Or.inr rfl) (by first|rfl|decide|exact .inl rfl|exact .inr rfl|(intros; rfl))) (fun _ _ _ _ _ => pts_nil) (fun _ _ _ _ _ => (@cc _ _ _ _ _ _ _ _ _ _ (by exact C_l_share) (by exact (hr.mono (by decide))) (@pa_consN _ _ _ _ _ (pv 0) (@pa_consN _ _ _ _ _ (pv 1) pa_nil (by first|rfl|decide|exact .inl rfl|exact .inr rfl|(intros; rfl))) (by first|rfl|decide|exact .inl rfl|exact .inr rfl|(intros; rfl))) (by first|rfl|decide|exact .inl rfl|exact .inr rfl|(intros; rfl)) (by first|rfl|decide|exact .inl rfl|exact .inr rfl|(intros; rfl)) (by first|rfl|decide|exact .inl rfl|exact .inr rfl|(intros; rfl)) (by first|rfl|decide|exact .inl rfl|exact .inr rfl|(intros; rfl)))) (by first|rfl|decide|exact .inl rfl|exact .inr rfl|(intros; rfl))) pa_nil (by first|rfl|decide|exact .inl rfl|exact .inr rfl|(intros; rfl))) (by first|rfl|decide|exact .inl rfl|exact .inr rfl|(intros; rfl)) (by first|rfl|decide|exact .inl rfl|exact .inr rfl|(intros; rfl)) (by first|rfl|decide|exact .inl rfl|exact .inr rfl|(intros; rfl)) (by first|rfl|decide|exact .inl rfl|exact .inr rfl|(intros; rfl)))) (by first|rfl|decide|exact .inl rfl|exact .inr rfl|(intros; rfl))) pa_nil (by first|rfl|decide|exact .inl rfl|exact .inr rfl|(intros; rfl))) (by first|rfl|decide|exact .inl rfl|exact .inr rfl|(intros; rfl)) (by first|rfl|decide|exact .inl rfl|exact .inr rfl|(intros; rfl)) (by first|rfl|decide|exact .inl rfl|exact .inr rfl|(intros; rfl)) (by first|rfl|decide|exact .inl rfl|exact .inr rfl|(intros; rfl))))), ?_⟩
  refine ⟨_, rfl, l, rfl, ⟨_, SqL.of hl⟩, comp_lst (a := l) (xs := xs) (fs := [some (.int W)]) (fun acc i ys H' => Same H H' ∧ Rows H' ys (matT (T'.take i) W)) (by omega) ?_ ?_ ?_ ?_⟩
  · exact fun acc hacc => ⟨same_new hacc _, .nil⟩
  · exact fun acc i ys H' hacc ⟨s', _⟩ => s' _ _ hl
  · rintro acc i ys H' x hacc hx hlen ⟨s', rows⟩ hacc' Q' hQ
    obtain ⟨r, hr', ra, rfl, hra⟩ := rws.at hx
    have rl := tb.row r (List.mem_of_getElem? hr')
    have hra' := s' _ _ hra
    refine ⟨_, rfl, ra, rfl, ⟨_, SqL.of hra'⟩, comp_lst (a := ra) (xs := iv r) (fs := [some (.int W)]) (fun acc2 j ws H'' => Same H' H'' ∧ Shs H'' ws ((r.take j).map fun x => Rat.divInt x W)) (by simp; omega) ?_ ?_ ?_ ?_⟩
    · exact fun acc2 hacc2 => ⟨same_new hacc2 _, .nil⟩
    · exact fun acc2 j ws H'' hacc2 ⟨s'', _⟩ => s'' _ _ hra'
    · rintro acc2 j ws H'' y hacc2 hy hlen2 ⟨s'', sh⟩ hacc2' Q'' hQ'
      obtain ⟨z, hz, rfl⟩ := iv_at hy
      refine ⟨_, rfl, _, rfl, z, W, rfl, W0, bW, fun v H3 s3 h3 => ?_⟩
      refine hQ' _ H3 (s3 _ _ hacc2') ⟨same_upd (s''.trans s3) hacc2, ?_⟩
      rw [List.take_add_one, hz, List.map_append]
      exact Shs.snoc (shUpdL (s3 _ _ hacc2') h3) (Shs.updL (s3 _ _ hacc2') (sh.same s3))
    · rintro acc2 ws H'' hacc2 ⟨s'', sh⟩ hacc2' hlen2
      rw [List.length_map, List.take_length] at sh
      refine ⟨acc2, ws, rfl, .inl ⟨SqL.of hacc2', fun t ht => ?_⟩⟩
      have s3 := same_new ht (.tup ws)
      refine hQ _ _ ((s''.trans s3) _ _ hacc') ⟨same_upd (s'.trans (s''.trans s3)) hacc, ?_⟩
      have e : matT (T'.take (i + 1)) W = matT (T'.take i) W ++ [r.map fun x => Rat.divInt x W] := by
        unfold matT; rw [List.take_add_one, hr', List.map_append]; rfl
      rw [e]
      exact Rows.snoc (RuAt.updL ((s''.trans s3) _ _ hacc') ⟨t, ws, rfl, upd_same, sh.same s3⟩) (Rows.updL ((s''.trans s3) _ _ hacc') (rows.same (s''.trans s3)))
  · rintro acc ys H' hacc ⟨s', rows⟩ hacc' hlen
    rw [lx, List.take_length] at rows
    refine ⟨acc, ys, rfl, .inl ⟨SqL.of hacc', fun t ht => ?_⟩⟩
    have s3 := same_new ht (.tup ys)
    exact k _ _ (s'.trans s3) ⟨t, ys, rfl, upd_same, rows.same s3⟩
end
end My

set_option Elab.async false
set_option linter.all false
set_option maxRecDepth 100000
set_option maxHeartbeats 1000000
namespace My
open PySem L2 MA Srt PySem.Spec
theorem SameY.nonZ {K : PySem.W.Frag} {p q : Addr} {H H' : Hp} {n : Nat} (x : SameY p H H') (hp : PenZ K H' p n) (h : H' q = none) : H q = none := by
  cases e : H q with
  | none => rfl
  | some o =>
    by_cases c : q = p
    · subst c
      obtain ⟨_, _, _, _, h1, _⟩ := hp
      rw [h1] at h; cases h
    · rw [x.all q o e c] at h; cases h
def totT (T : List (List Int)) : Int := (T.map List.sum).sum
def Nn (T : List (List Int)) : Prop := ∀ r ∈ T, ∀ x ∈ r, 0 ≤ x
def Low (T : List (List Int)) : Prop := ∀ i j, i < j → (T.getD i []).getD j 0 = 0
theorem sum_nnI : ∀ {l : List Int}, (∀ x ∈ l, 0 ≤ x) → 0 ≤ l.sum
  | [], _ => by simp
  | a :: l, h => by
    have h1 := h a (by simp)
    have h2 := sum_nnI (l := l) fun x hx => h x (List.mem_cons_of_mem _ hx)
    rw [List.sum_cons]; omega
theorem sum_geI : ∀ {l : List Int} {x : Int}, (∀ x ∈ l, 0 ≤ x) → x ∈ l → x ≤ l.sum
  | a :: l, x, h, hx => by
    have h1 := h a (by simp)
    have h2 := sum_nnI (l := l) fun x hx => h x (List.mem_cons_of_mem _ hx)
    rw [List.sum_cons]
    rcases List.mem_cons.mp hx with rfl | z
    · omega
    · have := sum_geI (fun x hx => h x (List.mem_cons_of_mem _ hx)) z
      omega
theorem sum_leI {B : Int} (hB : 0 ≤ B) : ∀ {l : List Int}, (∀ x ∈ l, x ≤ B) → l.sum ≤ l.length * B
  | [], _ => by simp
  | a :: l, h => by
    have h1 := h a (by simp)
    have h2 := sum_leI hB (l := l) fun x hx => h x (List.mem_cons_of_mem _ hx)
    rw [List.sum_cons, List.length_cons]
    have : ((l.length + 1 : Nat) : Int) * B = l.length * B + B := by rw [Int.natCast_add, Int.add_mul]; simp
    omega
theorem tot_ge {T : List (List Int)} (h : Nn T) {r : List Int} (hr : r ∈ T) : r.sum ≤ totT T := sum_geI (fun x hx => by
  obtain ⟨r', hr', rfl⟩ := List.mem_map.mp hx
  exact sum_nnI (h r' hr')) (List.mem_map.mpr ⟨r, hr, rfl⟩)
theorem tot_le {T : List (List Int)} {n : Nat} (tb : Tb n 30 T) (n12 : n ≤ 12) : totT T ≤ 4320 := by
  have h1 : ∀ x ∈ T.map List.sum, x ≤ 360 := fun x hx => by
    obtain ⟨r, hr, rfl⟩ := List.mem_map.mp hx
    have := sum_leI (B := 30) (by decide) (l := r) (fun x hx => (tb.rng r hr x hx).2)
    have := tb.row r hr
    omega
  have := sum_leI (B := 360) (by decide) h1
  rw [List.length_map, tb.len] at this
  unfold totT
  omega
theorem set_nz {r : List Int} {n : Nat} (h : r.length = n) (n1 : 1 ≤ n) (hr : ∀ x ∈ r, 0 ≤ x) : 1 ≤ (r.set 0 1).sum := by
  cases r with
  | nil => simp at h; omega
  | cons a r =>
    have := sum_nnI (l := r) fun x hx => hr x (List.mem_cons_of_mem _ hx)
    simp; omega
section
variable {P : Program} {w : World} {K : PySem.W.Frag} {mg : Str → Option Value} {base : Heap}
def spTable (K : PySem.W.Frag) : Sp := fun vs H Q _ => ∃ (p : Addr) (n m : Nat), vs = [.ref p, .int (n : Int)] ∧ PenZ K H p m ∧ m + 200 ≤ 100000 ∧ 1 ≤ n ∧ n ≤ 12 ∧ ∀ (l : Addr) (T : List (List Int)) (H' : Hp), H l = none → TabAt H' l T → Tb n 30 T → Nn T → Low T → 0 < totT T → PenZ K H' p (m + 150) → SameY p H H' → Q (.ref l) H'
theorem ok_table (T : Txt2 mg) (C_l_take : Cal P w K mg base "_law_take" ["_law_pen_here", "_law_many"] 1 (spTakeZ K)) (F : FunAt K mg "_law_table" ["_law_pen_here", "_law_boxes"] s_l_table) : Cal P w K mg base "_law_table" ["_law_pen_here", "_law_boxes"] 2 (spTable K) := by
  have S := sc_l_table
  refine F.cal sc_l_table (fun vs H Q E h => ?_) (fun f cdv A outer s H vs Q E hr h => ?_)
  · obtain ⟨p, n, m, rfl, _⟩ := h; rfl
  obtain ⟨p, n, m, rfl, pen, hm, n1, n12, k⟩ := h
  refine ⟨_, (@pss_cons _ _ _ _ _ (@ps_set _ _ (2) _ _ _ _ (by exact S.nd) (by rfl) (by first | exact Or.inl rfl | exact Or.inr rfl) (@pe_ix _ _ _ _ _ _ _ ix_tup (@pe_tup _ _ _ _ _ (@pa_consN _ _ _ _ _ pe_int (@pa_consN _ _ _ _ _ pe_int (@pa_consN _ _ _ _ _ pe_int (@pa_consN _ _ _ _ _ (@pe_ix _ _ _ _ _ _ _ ix_tup (@pe_tup _ _ _ _ _ (@pa_consN _ _ _ _ _ pe_int (@pa_consN _ _ _ _ _ pe_int pa_nil (by first|rfl|decide|exact .inl rfl|exact .inr rfl|(intros; rfl))) (by first|rfl|decide|exact .inl rfl|exact .inr rfl|(intros; rfl)))) (@pe_callTy _ _ _ _ _ _ _ _ _ call_int1 (by rfl) (by exact T.z_int) (by exact bt_int) (@pa_consN _ _ _ _ _ (@pe_cmpR _ _ _ _ _ _ _ _ op_gt (pv 1) pe_int (by exact (nomark _))) pa_nil (by first|rfl|decide|exact .inl rfl|exact .inr rfl|(intros; rfl))) (by first|rfl|decide|exact .inl rfl|exact .inr rfl|(intros; rfl)) (by first|rfl|decide|exact .inl rfl|exact .inr rfl|(intros; rfl)) (by first|rfl|decide|exact .inl rfl|exact .inr rfl|(intros; rfl)) (by first|rfl|decide|exact .inl rfl|exact .inr rfl|(intros; rfl))) (by exact (fun _ _ => rfl))) pa_nil (by first|rfl|decide|exact .inl rfl|exact .inr rfl|(intros; rfl))) (by first|rfl|decide|exact .inl rfl|exact .inr rfl|(intros; rfl))) (by first|rfl|decide|exact .inl rfl|exact .inr rfl|(intros; rfl))) (by first|rfl|decide|exact .inl rfl|exact .inr rfl|(intros; rfl)))) (@cc _ _ _ _ _ _ _ _ _ _ (by exact C_l_take) (by exact (hr.mono (by decide))) (@pa_consN _ _ _ _ _ (pv 0) (@pa_consN _ _ _ _ _ pe_int pa_nil (by first|rfl|decide|exact .inl rfl|exact .inr rfl|(intros; rfl))) (by first|rfl|decide|exact .inl rfl|exact .inr rfl|(intros; rfl))) (by first|rfl|decide|exact .inl rfl|exact .inr rfl|(intros; rfl)) (by first|rfl|decide|exact .inl rfl|exact .inr rfl|(intros; rfl)) (by first|rfl|decide|exact .inl rfl|exact .inr rfl|(intros; rfl)) (by first|rfl|decide|exact .inl rfl|exact .inr rfl|(intros; rfl))) (by exact (fun _ _ => rfl))) (by first|rfl|decide|exact .inl rfl|exact .inr rfl|(intros; rfl)) (by first|rfl|decide|exact .inl rfl|exact .inr rfl|(intros; rfl))) (@pss_cons _ _ _ _ _ (@ps_set _ _ (3) _ _ _ _ (by exact S.nd) (by rfl) (by first | exact Or.inl rfl | exact Or.inr rfl) (@cc _ _ _ _ _ _ _ _ _ _ (by exact C_l_take) (by exact (hr.mono (by decide))) (@pa_consN _ _ _ _ _ (pv 0) (@pa_consN _ _ _ _ _ (pv 1) pa_nil (by first|rfl|decide|exact .inl rfl|exact .inr rfl|(intros; rfl))) (by first|rfl|decide|exact .inl rfl|exact .inr rfl|(intros; rfl))) (by first|rfl|decide|exact .inl rfl|exact .inr rfl|(intros; rfl)) (by first|rfl|decide|exact .inl rfl|exact .inr rfl|(intros; rfl)) (by first|rfl|decide|exact .inl rfl|exact .inr rfl|(intros; rfl)) (by first|rfl|decide|exact .inl rfl|exact .inr rfl|(intros; rfl))) (by first|rfl|decide|exact .inl rfl|exact .inr rfl|(intros; rfl)) (by first|rfl|decide|exact .inl rfl|exact .inr rfl|(intros; rfl))) (@pss_cons _ _ _ _ _ (@ps_compC _ _ _ _ _ _ _ _ _ _ _ _ _ _ _ (4) _ (by exact S.nd) (by rfl) (by first | exact Or.inl rfl | exact Or.inr rfl) (by rfl) (by exact (fun _ _ h => h)) (by decide +kernel) (by rfl) (by decide +kernel) (by exact hfr_of rfl) (by exact Sees.frees ["_law_i"] [("_law_boxes", 1), ("_law_pen_here", 0), ("_law_most", 2)] (fr_cons ⟨rfl, rfl⟩ (fr_cons ⟨rfl, rfl⟩ (fr_cons ⟨rfl, rfl⟩ fr_nil)))) (@pi_range1 _ _ _ _ _ _ (by rfl) (by exact T.z_range) (@pa_consN _ _ _ _ _ (pv 1) pa_nil (by first|rfl|decide|exact .inl rfl|exact .inr rfl|(intros; rfl))) (by first|rfl|decide|exact .inl rfl|exact .inr rfl|(intros; rfl))) (fun _ _ _ _ _ => @pg_name _ _ (0) _ (by exact (show (["_law_i", "_law_boxes", "_law_pen_here", "_law_most"] : List Str).Nodup by decide +kernel)) (by rfl) (by first | exact Or.inl rfl | exact Or.inr rfl) (by first|rfl|decide|exact .inl rfl|exact .inr rfl|(intros; rfl))) (fun _ _ _ _ _ => pts_nil) (fun _ _ _ _ _ => (@pe_comp _ _ _ _ _ _ _ _ _ _ _ _ _ (by rfl) (by exact (fun _ _ h => h)) (by decide +kernel) (by rfl) (by decide +kernel) (by exact hfr_of rfl) (by exact Sees.frees ["_law_j"] [("_law_pen_here", 2), ("_law_most", 3), ("_law_i", 0)] (fr_cons ⟨rfl, rfl⟩ (fr_cons ⟨rfl, rfl⟩ (fr_cons ⟨rfl, rfl⟩ fr_nil)))) (@pi_range1 _ _ _ _ _ _ (by rfl) (by exact T.z_range) (@pa_consN _ _ _ _ _ (pv 1) pa_nil (by first|rfl|decide|exact .inl rfl|exact .inr rfl|(intros; rfl))) (by first|rfl|decide|exact .inl rfl|exact .inr rfl|(intros; rfl))) (fun _ _ _ _ _ => @pg_name _ _ (0) _ (by exact (show (["_law_j", "_law_pen_here", "_law_most", "_law_i"] : List Str).Nodup by decide +kernel)) (by rfl) (by first | exact Or.inl rfl | exact Or.inr rfl) (by first|rfl|decide|exact .inl rfl|exact .inr rfl|(intros; rfl))) (fun _ _ _ _ _ => pts_nil) (fun _ _ _ _ _ => (@pe_op _ _ _ _ _ _ _ _ op_mul (@cc _ _ _ _ _ _ _ _ _ _ (by exact C_l_take) (by exact (hr.mono (by decide))) (@pa_consN _ _ _ _ _ (pv 1) (@pa_consN _ _ _ _ _ (pv 2) pa_nil (by first|rfl|decide|exact .inl rfl|exact .inr rfl|(intros; rfl))) (by first|rfl|decide|exact .inl rfl|exact .inr rfl|(intros; rfl))) (by first|rfl|decide|exact .inl rfl|exact .inr rfl|(intros; rfl)) (by first|rfl|decide|exact .inl rfl|exact .inr rfl|(intros; rfl)) (by first|rfl|decide|exact .inl rfl|exact .inr rfl|(intros; rfl)) (by first|rfl|decide|exact .inl rfl|exact .inr rfl|(intros; rfl))) (@pe_callTy _ _ _ _ _ _ _ _ _ call_int1 (by rfl) (by exact T.z_int) (by exact bt_int) (@pa_consN _ _ _ _ _ (@pe_cmpR _ _ _ _ _ _ _ _ op_le (pv 0) (pv 3) (by exact (nomark _))) pa_nil (by first|rfl|decide|exact .inl rfl|exact .inr rfl|(intros; rfl))) (by first|rfl|decide|exact .inl rfl|exact .inr rfl|(intros; rfl)) (by first|rfl|decide|exact .inl rfl|exact .inr rfl|(intros; rfl)) (by first|rfl|decide|exact .inl rfl|exact .inr rfl|(intros; rfl)) (by first|rfl|decide|exact .inl rfl|exact .inr rfl|(intros; rfl))))) (by first|rfl|decide|exact .inl rfl|exact .inr rfl|(intros; rfl)))) (by first|rfl|decide|exact .inl rfl|exact .inr rfl|(intros; rfl)) (by first|rfl|decide|exact .inl rfl|exact .inr rfl|(intros; rfl)) (by first|rfl|decide|exact .inl rfl|exact .inr rfl|(intros; rfl))) (@pss_cons _ _ _ _ _ (@ps_if _ _ _ _ _ _ _ _ (@pt_cmpR _ _ _ _ _ _ _ _ op_eq (@pe_callB _ _ _ _ _ _ _ _ _ (call_sum0 (by rfl)) (by rfl) (by exact T.z_sum) (by exact bt_sum) (@pa_consN _ _ _ _ _ (@pe_comp0 _ _ _ _ _ _ _ _ _ _ _ (["_law_line"]) (fun _ => [none]) (by rfl) (by exact (fun _ _ h => h)) (by decide +kernel) (by rfl) (by decide +kernel) (by decide +kernel) (by exact Sees.none1) (@pi_list _ _ _ _ (pv 4)) (fun _ _ _ _ _ => @pg_name _ _ (0) _ (by exact (show (["_law_line"] : List Str).Nodup by decide +kernel)) (by rfl) (by first | exact Or.inl rfl | exact Or.inr rfl) (by first|rfl|decide|exact .inl rfl|exact .inr rfl|(intros; rfl))) (fun _ _ _ _ _ => pts_nil) (fun _ _ _ _ _ => (@pe_callB _ _ _ _ _ _ _ _ _ (call_sum0 (by rfl)) (by rfl) (by exact T.z_sum) (by exact bt_sum) (@pa_consN _ _ _ _ _ (pv 0) pa_nil (by first|rfl|decide|exact .inl rfl|exact .inr rfl|(intros; rfl))) (by first|rfl|decide|exact .inl rfl|exact .inr rfl|(intros; rfl)) (by first|rfl|decide|exact .inl rfl|exact .inr rfl|(intros; rfl)) (by first|rfl|decide|exact .inl rfl|exact .inr rfl|(intros; rfl)) (by first|rfl|decide|exact .inl rfl|exact .inr rfl|(intros; rfl)))) (by first|rfl|decide|exact .inl rfl|exact .inr rfl|(intros; rfl))) pa_nil (by first|rfl|decide|exact .inl rfl|exact .inr rfl|(intros; rfl))) (by first|rfl|decide|exact .inl rfl|exact .inr rfl|(intros; rfl)) (by first|rfl|decide|exact .inl rfl|exact .inr rfl|(intros; rfl)) (by first|rfl|decide|exact .inl rfl|exact .inr rfl|(intros; rfl)) (by first|rfl|decide|exact .inl rfl|exact .inr rfl|(intros; rfl))) pe_int (by exact (nomark _))) (@pss_one _ _ _ (@ps_asg _ _ _ _ _ _ pe_int (@pg_sub _ _ _ _ _ _ _ (@pe_ix _ _ _ _ _ _ _ ix_list (pv 4) (pv 3) (by exact (fun _ _ => rfl))) pe_int set_list (by first|rfl|decide|exact .inl rfl|exact .inr rfl|(intros; rfl))) (by first|rfl|decide|exact .inl rfl|exact .inr rfl|(intros; rfl)) (by first|rfl|decide|exact .inl rfl|exact .inr rfl|(intros; rfl)) (by first|rfl|decide|exact .inl rfl|exact .inr rfl|(intros; rfl)))) pss_nil) (@pss_one _ _ _ (@ps_ret _ _ _ _ (pv 4))))))), ?_⟩
  refine ⟨lz 2 rfl, fun t1 ht1 => ?_⟩
  have s_H1 := same_new ht1 (.tup [.int 30, .int 12])
  have g_t1 : upd H t1 (.tup [.int 30, .int 12]) t1 = some (.tup [.int 30, .int 12]) := upd_same
  generalize upd H t1 (.tup [.int 30, .int 12]) = H1 at s_H1 g_t1 ⊢
  refine ⟨_, rfl, _, _, rfl, rfl, .inr ⟨_, rfl, t1, _, _, _, rfl, rfl, SqT.of g_t1, (by cases (decide ((n : Int) > 6)) <;> rfl : _ = some (.int (if decide ((n : Int) > 6) = true then 12 else 30))), lz 4 rfl, fun t2 ht2 => ?_⟩⟩
  have s_H2 := same_new ht2 (.tup [.int 10, .int 2, .int 4, .int (if decide ((n : Int) > 6) = true then 12 else 30)])
  have g_t2 : upd H1 t2 (.tup [.int 10, .int 2, .int 4, .int (if decide ((n : Int) > 6) = true then 12 else 30)]) t2 = some (.tup [.int 10, .int 2, .int 4, .int (if decide ((n : Int) > 6) = true then 12 else 30)]) := upd_same
  generalize upd H1 t2 (.tup [.int 10, .int 2, .int 4, .int (if decide ((n : Int) > 6) = true then 12 else 30)]) = H2 at s_H2 g_t2 ⊢
  have s02 : Same H H2 := s_H1.trans s_H2
  have pen2 := pen.same s02
  refine ⟨_, rfl, p, _, _, rfl, pen2, by omega, by decide, by decide, fun r H3 r0 r1 pen3 x3 => ?_⟩
  obtain ⟨most, hmost, mo1, mo2⟩ : ∃ most : Int, atI ([.int 10, .int 2, .int 4, .int (if decide ((n : Int) > 6) = true then 12 else 30)] : List V) r = some (.int most) ∧ 2 ≤ most ∧ most ≤ 30 := by
    rcases (show r = 0 ∨ r = 1 ∨ r = 2 ∨ r = 3 by omega) with rfl | rfl | rfl | rfl
    · exact ⟨10, rfl, by decide, by decide⟩
    · exact ⟨2, rfl, by decide, by decide⟩
    · exact ⟨4, rfl, by decide, by decide⟩
    · exact ⟨_, rfl, by split <;> decide, by split <;> decide⟩
  refine ⟨t2, _, _, _, rfl, rfl, SqT.of (pen2.keepT x3 g_t2), hmost, ?_⟩
  refine ⟨_, rfl, _, rfl, p, _, _, rfl, pen3, by omega, by omega, by omega, fun spot H4 sp0 sp1 pen4 x4 => ?_⟩
  have x04 : SameY p H H4 := (Same.y s02).trans (x3.trans x4)
  refine ⟨_, rfl, _, rfl, by omega, by omega, ?_⟩
  refine comp_Y (yields_rng (lo := 0) (n := (n : Int).toNat)) (fun acc i ys σ' H' => (∃ o0, σ' = [o0, some (.int (n : Int)), some (.ref p), some (.int most)]) ∧ PenZ K H' p (m + 3 + 12 * i) ∧ SameY p H4 H' ∧ (∀ y ∈ ys, ∃ b, y = .ref b ∧ H4 b = none) ∧ ∃ T, Rws H' ys T ∧ T.length = i ∧ (∀ r ∈ T, r.length = n ∧ ∀ x ∈ r, 0 ≤ x ∧ x ≤ 30) ∧ Low T) (by omega) ?_ (fun _ _ _ _ _ _ _ => trivial) ?_ ?_
  · intro acc hacc
    exact ⟨⟨_, rfl⟩, (pen4.same (same_new hacc _)).mono (by omega), Same.y (same_new hacc _), fun y hy => by simp at hy, [], .nil, rfl, fun r hr => by simp at hr, fun i j _ => by simp⟩
  · rintro acc i ys σ' X5 x H5 hacc hi hlen ⟨⟨o0, rfl⟩, pen5, x5, refs, T, rws, Tl, hT, low⟩ hH5 ⟨rfl, rfl⟩ Q1 Q2 h1 h2
    refine gN_ (tT_ (iteT ?_))
    refine ⟨_, rfl, _, rfl, by omega, by omega, comp_Y (yields_rng (lo := 0) (n := (n : Int).toNat)) (fun acc2 j ws σ' H' => (∃ o0, σ' = [o0, some (.ref p), some (.int most), some (.int (0 + (i : Int)))]) ∧ PenZ K H' p (m + 3 + 12 * i + j) ∧ SameY p H5 H' ∧ ∃ bs : List Int, ws = iv bs ∧ bs.length = j ∧ (∀ b ∈ bs, 0 ≤ b ∧ b ≤ 30) ∧ ∀ j', i < j' → bs.getD j' 0 = 0) (by omega) ?_ (fun _ _ _ _ _ _ _ => trivial) ?_ ?_⟩
    · intro acc2 hacc2
      exact ⟨⟨_, rfl⟩, pen5.same (same_new hacc2 _), Same.y (same_new hacc2 _), [], rfl, rfl, fun b hb => by simp at hb, fun j' _ => by simp⟩
    · rintro acc2 j ws σ' X6 x H6 hacc2 hj hlen2 ⟨⟨o0, rfl⟩, pen6, x6, bs, rfl, bl, hb, hz⟩ hH6 ⟨rfl, rfl⟩ Q3 Q4 h3 h4
      refine gN_ (tT_ (iteT ?_))
      refine ⟨_, rfl, _, rfl, p, _, _, rfl, pen6, by omega, by omega, by omega, fun r H7 r0 r1 pen7 x7 => ?_⟩
      refine ⟨_, rfl, _, rfl, _, _, rfl, rfl, .inr ⟨_, rfl, _, _, rfl, rfl, .inl ⟨by omega, by omega⟩, ?_⟩⟩
      obtain ⟨u1, u2⟩ := penZ_upd hacc2 pen5 (x6.trans x7) pen7 (.lst (iv bs ++ [.int (r * (if decide (0 + (j : Int) ≤ 0 + (i : Int)) = true then 1 else 0))]))
      refine h3 _ _ H7 (x7.all _ _ hH6 (pen5.ne hacc2)) ⟨⟨_, rfl⟩, u1.mono (by omega), u2, bs ++ [r * (if decide (0 + (j : Int) ≤ 0 + (i : Int)) = true then 1 else 0)], by simp, by simp [bl], fun b hbm => ?_, fun j' hj' => ?_⟩
      · rcases List.mem_append.mp hbm with q | q
        · exact hb b q
        · rw [List.mem_singleton.mp q]
          split <;> simp <;> omega
      · by_cases e : j' < j
        · have := hz j' hj'
          rw [List.getD_eq_getElem?_getD, List.getElem?_append_left (by omega), ← List.getD_eq_getElem?_getD]
          exact this
        · by_cases e2 : j' = j
          · subst e2
            rw [List.getD_eq_getElem?_getD, List.getElem?_append_right (by omega), bl, show (if decide (0 + (j' : Int) ≤ 0 + (i : Int)) = true then (1 : Int) else 0) = 0 from if_neg (by simp; omega)]
            simp
          · rw [List.getD_eq_getElem?_getD, List.getElem?_eq_none (by simp; omega)]
            rfl
    · rintro acc2 ws σ' H6 hacc2 ⟨⟨o0, rfl⟩, pen6, x6, bs, rfl, bl, hb, hz⟩ hH6 hlen2
      rw [Int.toNat_natCast] at bl pen6
      have na : H4 acc2 = none := x5.nonZ pen5 hacc2
      obtain ⟨u1, u2⟩ := penZ_upd hacc pen4 (x5.trans x6) pen6 (.lst (ys ++ [.ref acc2]))
      have hacc6 := x6.all _ _ hH5 (pen4.ne hacc)
      have bne : bs ≠ [] := fun z => by rw [z] at bl; simp at bl; omega
      refine h1 _ _ H6 hacc6 ⟨⟨_, rfl⟩, u1.mono (by omega), u2, fun y hy => ?_, T ++ [bs], ?_, by simp [Tl], fun r hr => ?_, fun a b hab => ?_⟩
      · rcases List.mem_append.mp hy with z | z
        · exact refs y z
        · exact ⟨acc2, List.mem_singleton.mp z, na⟩
      · have r6 := rws.keepY x6 fun ns a e => pen5.neL e
        have nonempty : ∀ r ∈ T, r ≠ [] := fun r hr z => by have := (hT r hr).1; rw [z] at this; simp at this; omega
        have refs' : ∀ y ∈ ys, ∃ b, y = .ref b := fun y hy => let ⟨b, e, _⟩ := refs y hy; ⟨b, e⟩
        have e2 : acc2 ≠ acc := ls_ne hH6 hacc6 bne refs'
        exact Rws.snoc ⟨acc2, rfl, by rw [upd_ne e2]; exact hH6⟩ (Rws.upd hacc6 refs' r6 nonempty)
      · rcases List.mem_append.mp hr with z | z
        · exact hT r z
        · rw [List.mem_singleton.mp z]; exact ⟨bl, hb⟩
      · by_cases e : a < i
        · have := low a b hab
          rw [List.getD_eq_getElem?_getD (l := T ++ [bs]), List.getElem?_append_left (by omega), ← List.getD_eq_getElem?_getD]
          exact this
        · by_cases e2 : a = i
          · subst e2
            rw [List.getD_eq_getElem?_getD (l := T ++ [bs]), List.getElem?_append_right (by omega), Tl]
            simp only [Nat.sub_self, List.getElem?_cons_zero, Option.getD_some]
            exact hz b hab
          · rw [List.getD_eq_getElem?_getD (l := T ++ [bs]), List.getElem?_eq_none (by simp; omega)]
            simp
  rintro l xs σ' H5 hl ⟨_, pen5, x5, refs, T', rws, Tl, hT, low⟩ hH5 hlen
  rw [Int.toNat_natCast] at Tl pen5
  have x05 := x04.trans x5
  have tb : Tb n 30 T' := ⟨Tl, fun r hr => (hT r hr).1, fun r hr x hx => ⟨by have := ((hT r hr).2 x hx).1; omega, ((hT r hr).2 x hx).2⟩⟩
  have nn : Nn T' := fun r hr x hx => ((hT r hr).2 x hx).1
  have nl0 : H l = none := x04.nonZ pen4 hl
  have lx := rws.len
  refine ⟨_, rfl, l, rfl, ⟨_, SqL.of hH5⟩, comp_lst (a := l) (xs := xs) (fs := []) (fun acc i ys H' => Same H5 H' ∧ ys = iv ((T'.take i).map List.sum)) (by omega) ?_ ?_ ?_ ?_⟩
  · exact fun acc hacc => ⟨same_new hacc _, rfl⟩
  · exact fun acc i ys H' hacc ⟨s', _⟩ => s' _ _ hH5
  · rintro acc i ys H' x hacc hx hlen ⟨s', rfl⟩ hacc' Q' hQ
    obtain ⟨r, hr', ra, rfl, hra⟩ := rws.at hx
    refine ⟨_, rfl, ra, r, rfl, s' _ _ hra, hQ _ H' hacc' ⟨same_upd s' hacc, ?_⟩⟩
    rw [List.take_add_one, hr']; simp
  rintro acc ys H6 hacc ⟨s6, rfl⟩ hacc' hlen
  rw [lx, List.take_length] at hacc'
  have x06 := x05.trans (Same.y s6)
  have pen6 := pen5.same s6
  have rws6 := rws.same s6
  have hl6 := s6 _ _ hH5
  refine ⟨acc, T'.map List.sum, rfl, hacc', rfl, _, rfl, ?_⟩
  refine ite2 (fun c => ?_) (fun c => ?_)
  · have t0 : totT T' = 0 := V.int.inj (of_decide_eq_true c)
    obtain ⟨sn, rfl⟩ : ∃ sn : Nat, spot = (sn : Int) := ⟨spot.toNat, by omega⟩
    have hsn : sn < T'.length := by omega
    obtain ⟨ra, hra1, hra2⟩ := rws6.get (List.getElem?_eq_getElem hsn)
    have rl := (hT _ (List.getElem_mem hsn)).1
    refine ⟨_, rfl, _, rfl, l, _, _, _, rfl, rfl, SqL.of hl6, atI_nat hra1, ra, _, _, 0, rfl, rfl, hra2, (show ixN _ ((0 : Nat) : Int) = some 0 from ixN_nat (by simp; omega)), ?_⟩
    rw [show (iv T'[sn]).set 0 (.int 1) = iv (T'[sn].set 0 1) by simp]
    obtain ⟨T2, rw2, l2, hs2⟩ := rws6.set hra2 (new := T'[sn].set 0 1)
    have refs' : ∀ y ∈ xs, ∃ b, y = .ref b := fun y hy => let ⟨b, e, _⟩ := refs y hy; ⟨b, e⟩
    have nra : H ra = none := by
      obtain ⟨b, e, hb⟩ := refs _ (List.mem_of_getElem? hra1)
      cases e
      exact x04.nonZ pen4 hb
    obtain ⟨u1, u2⟩ := penZ_upd nra pen x06 pen6 (.lst (iv (T'[sn].set 0 1)))
    have rne : T'[sn] ≠ [] := fun z => by rw [z] at rl; simp at rl; omega
    have lne : ra ≠ l := ls_ne hra2 hl6 rne refs'
    have nnr := nn _ (List.getElem_mem hsn)
    have bnew : ∀ x ∈ T'[sn].set 0 1, 0 ≤ x ∧ x ≤ 30 := fun x hx => by
      rcases List.mem_or_eq_of_mem_set hx with z | z
      · exact (hT _ (List.getElem_mem hsn)).2 x z
      · omega
    have tb2 := tb.set l2 hs2 (by simpa using rl) (fun x hx => ⟨by have := (bnew x hx).1; omega, (bnew x hx).2⟩)
    have nn2 : Nn T2 := fun r hr x hx => by
      obtain ⟨i, hi, rfl⟩ := mem_getD hr
      rcases hs2 i with e | ⟨e, _⟩
      · rw [e, getD_of (by omega)] at hx
        exact nn _ (List.getElem_mem _) x hx
      · rw [e] at hx; exact (bnew x hx).1
    have low2 : Low T2 := fun a b hab => by
      rcases hs2 a with e | ⟨e, e'⟩
      · rw [e]; exact low a b hab
      · have := low a b hab
        rw [e'] at this
        rw [e, List.getD_eq_getElem?_getD, List.getElem?_set_ne (by omega), ← List.getD_eq_getElem?_getD]
        exact this
    have nin : T'[sn].set 0 1 ∈ T2 := by
      have hsn2 : sn < T2.length := by omega
      obtain ⟨rb, hrb1, hrb2⟩ := rw2.get (List.getElem?_eq_getElem hsn2)
      rw [hra1] at hrb1
      cases hrb1
      rw [upd_same] at hrb2
      have e1 := HO.lst.inj (Option.some.inj hrb2)
      have i1 := seqI (T'[sn].set 0 1) (T'[sn].set 0 1)
      have i2 := seqI (T'[sn].set 0 1) T2[sn]
      rw [← e1, i1, decide_eq_true rfl] at i2
      rw [of_decide_eq_true i2.symm]
      exact List.getElem_mem _
    have tp : 0 < totT T2 := by
      have := tot_ge nn2 nin
      have := set_nz rl n1 nnr
      omega
    exact ⟨_, rfl, k l T2 _ nl0 ⟨xs, by rw [upd_ne (Ne.symm lne)]; exact hl6, rw2⟩ tb2 nn2 low2 tp (u1.mono (by omega)) u2⟩
  · have tp : 0 < totT T' := by
      have h1 : ¬ V.int (totT T') = V.int 0 := by simpa [totT] using c
      have h2 : 0 ≤ totT T' := sum_nnI fun x hx => by
        obtain ⟨r, hr, rfl⟩ := List.mem_map.mp hx
        exact sum_nnI (nn r hr)
      have h3 : totT T' ≠ 0 := fun z => h1 (by rw [z])
      omega
    exact ⟨_, rfl, k l T' H6 nl0 ⟨xs, hl6, rws6⟩ tb nn low tp (pen6.mono (by omega)) x06⟩
end
end My

set_option Elab.async false
set_option linter.all false
set_option maxRecDepth 100000
set_option maxHeartbeats 1000000
namespace My
open PySem L2 MA Srt PySem.Spec
/-- triples -/
def Trs (H : Hp) : List V → List (Int × Int × Int) → Prop := Paired fun v t => ∃ a, v = .ref a ∧ H a = some (.tup [.int t.1, .int t.2.1, .int t.2.2])
theorem Trs.tk {H H' : Hp} (s : ∀ b ys, H b = some (.tup ys) → H' b = some (.tup ys)) {vs : List V} {ts : List (Int × Int × Int)} (h : Trs H vs ts) : Trs H' vs ts := Paired.mapP h fun _ _ ⟨a, e, h⟩ => ⟨a, e, s _ _ h⟩
def Tr3 (n : Nat) (t : Int × Int × Int) : Prop := 0 ≤ t.1 ∧ t.1 < n ∧ 0 ≤ t.2.1 ∧ t.2.1 < n ∧ -3 ≤ t.2.2 ∧ t.2.2 ≤ 3
theorem Tb.mono {n : Nat} {B C : Int} {T : List (List Int)} (h : Tb n B T) (l : B ≤ C) : Tb n C T := ⟨h.len, h.row, fun r hr x hx => by have := h.rng r hr x hx; omega⟩
section
variable {P : Program} {w : World} {K : PySem.W.Frag} {mg : Str → Option Value} {base : Heap}
def spShifted (K : PySem.W.Frag) : Sp := fun vs H Q _ => ∃ (p l : Addr) (n m : Nat) (T : List (List Int)) (spoil : Int), vs = [.ref p, .ref l, .int spoil] ∧ PenZ K H p m ∧ m + 20 ≤ 100000 ∧ l ≠ p ∧ TabAt H l T ∧ Tb n 30 T ∧ 1 ≤ n ∧ n ≤ 12 ∧ 0 ≤ spoil ∧ ∀ (l' : Addr) (T' : List (List Int)) (H' : Hp), H l' = none → TabAt H' l' T' → Tb n 100 T' → PenZ K H' p (m + 5) → SameY p H H' → Q (.ref l') H'
theorem ok_shifted (T : Txt2 mg) (C_l_take : Cal P w K mg base "_law_take" ["_law_pen_here", "_law_many"] 1 (spTakeZ K)) (F : FunAt K mg "_law_shifted" ["_law_pen_here", "_law_table_here", "_law_spoil"] s_l_shifted) : Cal P w K mg base "_law_shifted" ["_law_pen_here", "_law_table_here", "_law_spoil"] 2 (spShifted K) := by
  have S := sc_l_shifted
  refine F.cal sc_l_shifted (fun vs H Q E h => ?_) (fun f cdv A outer s H vs Q E hr h => ?_)
  · obtain ⟨p, l, n, m, T, spoil, rfl, _⟩ := h; rfl
  obtain ⟨p, l, n, m, T', spoil, rfl, pen, hm, lp, ⟨xs, hl, rws⟩, tb, n1, n12, sp0, k⟩ := h
  have lx := rws.len
  have tl := tb.len
  refine ⟨_, (@pss_cons _ _ _ _ _ (@ps_set _ _ (3) _ _ _ _ (by exact S.nd) (by rfl) (by first | exact Or.inl rfl | exact Or.inr rfl) (@pe_callB _ _ _ _ _ _ _ _ _ call_len_seq (by rfl) (by exact T.z_len) (by exact bt_len) (@pa_consN _ _ _ _ _ (pv 1) pa_nil (by first|rfl|decide|exact .inl rfl|exact .inr rfl|(intros; rfl))) (by first|rfl|decide|exact .inl rfl|exact .inr rfl|(intros; rfl)) (by first|rfl|decide|exact .inl rfl|exact .inr rfl|(intros; rfl)) (by first|rfl|decide|exact .inl rfl|exact .inr rfl|(intros; rfl)) (by first|rfl|decide|exact .inl rfl|exact .inr rfl|(intros; rfl))) (by first|rfl|decide|exact .inl rfl|exact .inr rfl|(intros; rfl)) (by first|rfl|decide|exact .inl rfl|exact .inr rfl|(intros; rfl))) (@pss_cons _ _ _ _ _ (@ps_comp _ _ _ _ _ _ _ _ _ _ _ _ _ _ _ (4) _ (by exact S.nd) (by rfl) (by first | exact Or.inl rfl | exact Or.inr rfl) (by rfl) (by exact (fun _ _ h => h)) (by decide +kernel) (by rfl) (by decide +kernel) (by exact hfr_of rfl) (by exact Sees.frees ["_law_line"] [] fr_nil) (@pi_list _ _ _ _ (pv 1)) (fun _ _ _ _ _ => @pg_name _ _ (0) _ (by exact (show (["_law_line"] : List Str).Nodup by decide +kernel)) (by rfl) (by first | exact Or.inl rfl | exact Or.inr rfl) (by first|rfl|decide|exact .inl rfl|exact .inr rfl|(intros; rfl))) (fun _ _ _ _ _ => pts_nil) (fun _ _ _ _ _ => (@pe_callTy _ _ _ _ _ _ _ _ _ (call_list_K K (by rfl)) (by rfl) (by exact T.z_list) (by exact bt_list) (@pa_consN _ _ _ _ _ (pv 0) pa_nil (by first|rfl|decide|exact .inl rfl|exact .inr rfl|(intros; rfl))) (by first|rfl|decide|exact .inl rfl|exact .inr rfl|(intros; rfl)) (by first|rfl|decide|exact .inl rfl|exact .inr rfl|(intros; rfl)) (by first|rfl|decide|exact .inl rfl|exact .inr rfl|(intros; rfl)) (by first|rfl|decide|exact .inl rfl|exact .inr rfl|(intros; rfl)))) (by first|rfl|decide|exact .inl rfl|exact .inr rfl|(intros; rfl)) (by first|rfl|decide|exact .inl rfl|exact .inr rfl|(intros; rfl)) (by first|rfl|decide|exact .inl rfl|exact .inr rfl|(intros; rfl))) (@pss_cons _ _ _ _ _ (@ps_set _ _ (5) _ _ _ _ (by exact S.nd) (by rfl) (by first | exact Or.inl rfl | exact Or.inr rfl) (@cc _ _ _ _ _ _ _ _ _ _ (by exact C_l_take) (by exact (hr.mono (by decide))) (@pa_consN _ _ _ _ _ (pv 0) (@pa_consN _ _ _ _ _ (pv 3) pa_nil (by first|rfl|decide|exact .inl rfl|exact .inr rfl|(intros; rfl))) (by first|rfl|decide|exact .inl rfl|exact .inr rfl|(intros; rfl))) (by first|rfl|decide|exact .inl rfl|exact .inr rfl|(intros; rfl)) (by first|rfl|decide|exact .inl rfl|exact .inr rfl|(intros; rfl)) (by first|rfl|decide|exact .inl rfl|exact .inr rfl|(intros; rfl)) (by first|rfl|decide|exact .inl rfl|exact .inr rfl|(intros; rfl))) (by first|rfl|decide|exact .inl rfl|exact .inr rfl|(intros; rfl)) (by first|rfl|decide|exact .inl rfl|exact .inr rfl|(intros; rfl))) (@pss_cons _ _ _ _ _ (@ps_set _ _ (6) _ _ _ _ (by exact S.nd) (by rfl) (by first | exact Or.inl rfl | exact Or.inr rfl) (@cc _ _ _ _ _ _ _ _ _ _ (by exact C_l_take) (by exact (hr.mono (by decide))) (@pa_consN _ _ _ _ _ (pv 0) (@pa_consN _ _ _ _ _ (pv 3) pa_nil (by first|rfl|decide|exact .inl rfl|exact .inr rfl|(intros; rfl))) (by first|rfl|decide|exact .inl rfl|exact .inr rfl|(intros; rfl))) (by first|rfl|decide|exact .inl rfl|exact .inr rfl|(intros; rfl)) (by first|rfl|decide|exact .inl rfl|exact .inr rfl|(intros; rfl)) (by first|rfl|decide|exact .inl rfl|exact .inr rfl|(intros; rfl)) (by first|rfl|decide|exact .inl rfl|exact .inr rfl|(intros; rfl))) (by first|rfl|decide|exact .inl rfl|exact .inr rfl|(intros; rfl)) (by first|rfl|decide|exact .inl rfl|exact .inr rfl|(intros; rfl))) (@pss_cons _ _ _ _ _ (@ps_set _ _ (7) _ _ _ _ (by exact S.nd) (by rfl) (by first | exact Or.inl rfl | exact Or.inr rfl) (@cc _ _ _ _ _ _ _ _ _ _ (by exact C_l_take) (by exact (hr.mono (by decide))) (@pa_consN _ _ _ _ _ (pv 0) (@pa_consN _ _ _ _ _ (pv 3) pa_nil (by first|rfl|decide|exact .inl rfl|exact .inr rfl|(intros; rfl))) (by first|rfl|decide|exact .inl rfl|exact .inr rfl|(intros; rfl))) (by first|rfl|decide|exact .inl rfl|exact .inr rfl|(intros; rfl)) (by first|rfl|decide|exact .inl rfl|exact .inr rfl|(intros; rfl)) (by first|rfl|decide|exact .inl rfl|exact .inr rfl|(intros; rfl)) (by first|rfl|decide|exact .inl rfl|exact .inr rfl|(intros; rfl))) (by first|rfl|decide|exact .inl rfl|exact .inr rfl|(intros; rfl)) (by first|rfl|decide|exact .inl rfl|exact .inr rfl|(intros; rfl))) (@pss_cons _ _ _ _ _ (@ps_set _ _ (8) _ _ _ _ (by exact S.nd) (by rfl) (by first | exact Or.inl rfl | exact Or.inr rfl) (@cc _ _ _ _ _ _ _ _ _ _ (by exact C_l_take) (by exact (hr.mono (by decide))) (@pa_consN _ _ _ _ _ (pv 0) (@pa_consN _ _ _ _ _ (pv 3) pa_nil (by first|rfl|decide|exact .inl rfl|exact .inr rfl|(intros; rfl))) (by first|rfl|decide|exact .inl rfl|exact .inr rfl|(intros; rfl))) (by first|rfl|decide|exact .inl rfl|exact .inr rfl|(intros; rfl)) (by first|rfl|decide|exact .inl rfl|exact .inr rfl|(intros; rfl)) (by first|rfl|decide|exact .inl rfl|exact .inr rfl|(intros; rfl)) (by first|rfl|decide|exact .inl rfl|exact .inr rfl|(intros; rfl))) (by first|rfl|decide|exact .inl rfl|exact .inr rfl|(intros; rfl)) (by first|rfl|decide|exact .inl rfl|exact .inr rfl|(intros; rfl))) (@pss_cons _ _ _ _ _ (@ps_set _ _ (9) _ _ _ _ (by exact S.nd) (by rfl) (by first | exact Or.inl rfl | exact Or.inr rfl) (@pe_op _ _ _ _ _ _ _ _ op_add pe_int (@cc _ _ _ _ _ _ _ _ _ _ (by exact C_l_take) (by exact (hr.mono (by decide))) (@pa_consN _ _ _ _ _ (pv 0) (@pa_consN _ _ _ _ _ pe_int pa_nil (by first|rfl|decide|exact .inl rfl|exact .inr rfl|(intros; rfl))) (by first|rfl|decide|exact .inl rfl|exact .inr rfl|(intros; rfl))) (by first|rfl|decide|exact .inl rfl|exact .inr rfl|(intros; rfl)) (by first|rfl|decide|exact .inl rfl|exact .inr rfl|(intros; rfl)) (by first|rfl|decide|exact .inl rfl|exact .inr rfl|(intros; rfl)) (by first|rfl|decide|exact .inl rfl|exact .inr rfl|(intros; rfl)))) (by first|rfl|decide|exact .inl rfl|exact .inr rfl|(intros; rfl)) (by first|rfl|decide|exact .inl rfl|exact .inr rfl|(intros; rfl))) (@pss_cons _ _ _ _ _ (@ps_set _ _ (10) _ _ _ _ (by exact S.nd) (by rfl) (by first | exact Or.inl rfl | exact Or.inr rfl) (@pe_ix _ _ _ _ _ _ _ ix_list (@pe_lst _ _ _ _ (@pa_consN _ _ _ _ _ (@pe_lst _ _ _ _ (@pa_consN _ _ _ _ _ (@pe_tup _ _ _ _ _ (@pa_consN _ _ _ _ _ (pv 5) (@pa_consN _ _ _ _ _ (pv 6) (@pa_consN _ _ _ _ _ (pv 9) pa_nil (by first|rfl|decide|exact .inl rfl|exact .inr rfl|(intros; rfl))) (by first|rfl|decide|exact .inl rfl|exact .inr rfl|(intros; rfl))) (by first|rfl|decide|exact .inl rfl|exact .inr rfl|(intros; rfl)))) (@pa_consN _ _ _ _ _ (@pe_tup _ _ _ _ _ (@pa_consN _ _ _ _ _ (pv 7) (@pa_consN _ _ _ _ _ (pv 6) (@pa_consN _ _ _ _ _ (@pe_un _ _ _ _ _ _ un_neg (pv 9)) pa_nil (by first|rfl|decide|exact .inl rfl|exact .inr rfl|(intros; rfl))) (by first|rfl|decide|exact .inl rfl|exact .inr rfl|(intros; rfl))) (by first|rfl|decide|exact .inl rfl|exact .inr rfl|(intros; rfl)))) pa_nil (by first|rfl|decide|exact .inl rfl|exact .inr rfl|(intros; rfl))) (by first|rfl|decide|exact .inl rfl|exact .inr rfl|(intros; rfl)))) (@pa_consN _ _ _ _ _ (@pe_lst _ _ _ _ (@pa_consN _ _ _ _ _ (@pe_tup _ _ _ _ _ (@pa_consN _ _ _ _ _ (pv 5) (@pa_consN _ _ _ _ _ (pv 6) (@pa_consN _ _ _ _ _ (pv 9) pa_nil (by first|rfl|decide|exact .inl rfl|exact .inr rfl|(intros; rfl))) (by first|rfl|decide|exact .inl rfl|exact .inr rfl|(intros; rfl))) (by first|rfl|decide|exact .inl rfl|exact .inr rfl|(intros; rfl)))) (@pa_consN _ _ _ _ _ (@pe_tup _ _ _ _ _ (@pa_consN _ _ _ _ _ (pv 5) (@pa_consN _ _ _ _ _ (pv 8) (@pa_consN _ _ _ _ _ (@pe_un _ _ _ _ _ _ un_neg (pv 9)) pa_nil (by first|rfl|decide|exact .inl rfl|exact .inr rfl|(intros; rfl))) (by first|rfl|decide|exact .inl rfl|exact .inr rfl|(intros; rfl))) (by first|rfl|decide|exact .inl rfl|exact .inr rfl|(intros; rfl)))) pa_nil (by first|rfl|decide|exact .inl rfl|exact .inr rfl|(intros; rfl))) (by first|rfl|decide|exact .inl rfl|exact .inr rfl|(intros; rfl)))) (@pa_consN _ _ _ _ _ (@pe_lst _ _ _ _ (@pa_consN _ _ _ _ _ (@pe_tup _ _ _ _ _ (@pa_consN _ _ _ _ _ (pv 5) (@pa_consN _ _ _ _ _ (pv 6) (@pa_consN _ _ _ _ _ (pv 9) pa_nil (by first|rfl|decide|exact .inl rfl|exact .inr rfl|(intros; rfl))) (by first|rfl|decide|exact .inl rfl|exact .inr rfl|(intros; rfl))) (by first|rfl|decide|exact .inl rfl|exact .inr rfl|(intros; rfl)))) pa_nil (by first|rfl|decide|exact .inl rfl|exact .inr rfl|(intros; rfl)))) pa_nil (by first|rfl|decide|exact .inl rfl|exact .inr rfl|(intros; rfl))) (by first|rfl|decide|exact .inl rfl|exact .inr rfl|(intros; rfl))) (by first|rfl|decide|exact .inl rfl|exact .inr rfl|(intros; rfl)))) (@pe_op _ _ _ _ _ _ _ _ op_mod (pv 2) pe_int) (by exact (fun _ _ => rfl))) (by first|rfl|decide|exact .inl rfl|exact .inr rfl|(intros; rfl)) (by first|rfl|decide|exact .inl rfl|exact .inr rfl|(intros; rfl))) (@pss_cons _ _ _ _ _ (@ps_if _ _ _ _ _ _ _ _ (@pt_cmpR _ _ _ _ _ _ _ _ op_gt (pv 2) pe_int (by exact (nomark _))) (@pss_one _ _ _ (@ps_set _ _ (10) _ _ _ _ (by exact S.nd) (by rfl) (by first | exact Or.inl rfl | exact Or.inr rfl) (@pe_lst _ _ _ _ (@pa_consN _ _ _ _ _ (@pe_tup _ _ _ _ _ (@pa_consN _ _ _ _ _ (pv 5) (@pa_consN _ _ _ _ _ (pv 6) (@pa_consN _ _ _ _ _ (pv 9) pa_nil (by first|rfl|decide|exact .inl rfl|exact .inr rfl|(intros; rfl))) (by first|rfl|decide|exact .inl rfl|exact .inr rfl|(intros; rfl))) (by first|rfl|decide|exact .inl rfl|exact .inr rfl|(intros; rfl)))) (@pa_consN _ _ _ _ _ (@pe_tup _ _ _ _ _ (@pa_consN _ _ _ _ _ (pv 7) (@pa_consN _ _ _ _ _ (pv 8) (@pa_consN _ _ _ _ _ (pv 9) pa_nil (by first|rfl|decide|exact .inl rfl|exact .inr rfl|(intros; rfl))) (by first|rfl|decide|exact .inl rfl|exact .inr rfl|(intros; rfl))) (by first|rfl|decide|exact .inl rfl|exact .inr rfl|(intros; rfl)))) (@pa_consN _ _ _ _ _ (@pe_tup _ _ _ _ _ (@pa_consN _ _ _ _ _ (pv 5) (@pa_consN _ _ _ _ _ (pv 8) (@pa_consN _ _ _ _ _ (@pe_un _ _ _ _ _ _ un_neg (pv 9)) pa_nil (by first|rfl|decide|exact .inl rfl|exact .inr rfl|(intros; rfl))) (by first|rfl|decide|exact .inl rfl|exact .inr rfl|(intros; rfl))) (by first|rfl|decide|exact .inl rfl|exact .inr rfl|(intros; rfl)))) (@pa_consN _ _ _ _ _ (@pe_tup _ _ _ _ _ (@pa_consN _ _ _ _ _ (pv 7) (@pa_consN _ _ _ _ _ (pv 6) (@pa_consN _ _ _ _ _ (@pe_un _ _ _ _ _ _ un_neg (pv 9)) pa_nil (by first|rfl|decide|exact .inl rfl|exact .inr rfl|(intros; rfl))) (by first|rfl|decide|exact .inl rfl|exact .inr rfl|(intros; rfl))) (by first|rfl|decide|exact .inl rfl|exact .inr rfl|(intros; rfl)))) pa_nil (by first|rfl|decide|exact .inl rfl|exact .inr rfl|(intros; rfl))) (by first|rfl|decide|exact .inl rfl|exact .inr rfl|(intros; rfl))) (by first|rfl|decide|exact .inl rfl|exact .inr rfl|(intros; rfl))) (by first|rfl|decide|exact .inl rfl|exact .inr rfl|(intros; rfl)))) (by first|rfl|decide|exact .inl rfl|exact .inr rfl|(intros; rfl)) (by first|rfl|decide|exact .inl rfl|exact .inr rfl|(intros; rfl)))) pss_nil) (@pss_cons _ _ _ _ _ (@ps_for _ _ _ _ _ _ _ _ (by exact PassesOwn.never) (by rfl) (@pi_list _ _ _ _ (pv 10)) (@pg_tup _ _ _ _ _ _ (by rfl) (@pgs_cons _ _ _ _ _ (@pg_name _ _ (11) _ (by exact S.nd) (by rfl) (by first | exact Or.inl rfl | exact Or.inr rfl) (by first|rfl|decide|exact .inl rfl|exact .inr rfl|(intros; rfl))) (@pgs_cons _ _ _ _ _ (@pg_name _ _ (12) _ (by exact S.nd) (by rfl) (by first | exact Or.inl rfl | exact Or.inr rfl) (by first|rfl|decide|exact .inl rfl|exact .inr rfl|(intros; rfl))) (@pgs_cons _ _ _ _ _ (@pg_name _ _ (13) _ (by exact S.nd) (by rfl) (by first | exact Or.inl rfl | exact Or.inr rfl) (by first|rfl|decide|exact .inl rfl|exact .inr rfl|(intros; rfl))) pgs_nil (by first|rfl|decide|exact .inl rfl|exact .inr rfl|(intros; rfl))) (by first|rfl|decide|exact .inl rfl|exact .inr rfl|(intros; rfl))) (by first|rfl|decide|exact .inl rfl|exact .inr rfl|(intros; rfl))) (by first|rfl|decide|exact .inl rfl|exact .inr rfl|(intros; rfl)) (by first|rfl|decide|exact .inl rfl|exact .inr rfl|(intros; rfl))) (@pss_one _ _ _ (@ps_asg _ _ _ _ _ _ (@pe_op _ _ _ _ _ _ _ _ op_add (@pe_ix _ _ _ _ _ _ _ ix_list (@pe_ix _ _ _ _ _ _ _ ix_list (pv 4) (pv 11) (by exact (fun _ _ => rfl))) (pv 12) (by exact (fun _ _ => rfl))) (pv 13)) (@pg_sub _ _ _ _ _ _ _ (@pe_ix _ _ _ _ _ _ _ ix_list (pv 4) (pv 11) (by exact (fun _ _ => rfl))) (pv 12) set_list (by first|rfl|decide|exact .inl rfl|exact .inr rfl|(intros; rfl))) (by first|rfl|decide|exact .inl rfl|exact .inr rfl|(intros; rfl)) (by first|rfl|decide|exact .inl rfl|exact .inr rfl|(intros; rfl)) (by first|rfl|decide|exact .inl rfl|exact .inr rfl|(intros; rfl)))) (by first|rfl|decide|exact .inl rfl|exact .inr rfl|(intros; rfl))) (@pss_one _ _ _ (@ps_ret _ _ _ _ (pv 4))))))))))))), ?_⟩
  refine ⟨_, rfl, l, _, rfl, .inl (SqL.of hl), ?_⟩
  rw [show xs.length = n by omega]
  refine ⟨_, rfl, l, rfl, ⟨_, SqL.of hl⟩, comp_lst (a := l) (xs := xs) (fs := []) (fun acc i ys H' => Same H H' ∧ (∀ y ∈ ys, ∃ b, y = .ref b ∧ H b = none) ∧ Rws H' ys (T'.take i)) (by omega) ?_ ?_ ?_ ?_⟩
  · exact fun acc hacc => ⟨same_new hacc _, fun y hy => by simp at hy, .nil⟩
  · exact fun acc i ys H' hacc ⟨s', _⟩ => s' _ _ hl
  · rintro acc i ys H' x hacc hx hlen ⟨s', refs, rw'⟩ hacc' Q' hQ
    obtain ⟨r, hr', ra, rfl, hra⟩ := rws.at hx
    have rl := tb.row r (List.mem_of_getElem? hr')
    refine ⟨_, rfl, ra, _, rfl, .inl (SqL.of (s' _ _ hra)), fun c hc => ?_⟩
    have sn := same_new hc (.lst (iv r))
    have nc : H c = none := none_of s' hc
    have hacc2 := sn _ _ hacc'
    have refs' : ∀ y ∈ ys, ∃ b, y = .ref b := fun y hy => let ⟨b, e, _⟩ := refs y hy; ⟨b, e⟩
    have rne : r ≠ [] := fun z => by rw [z] at rl; simp at rl; omega
    have cne : c ≠ acc := fun z => by subst z; rw [hacc'] at hc; cases hc
    refine hQ _ _ hacc2 ⟨same_upd (s'.trans sn) hacc, fun y hy => ?_, ?_⟩
    · rcases List.mem_append.mp hy with z | z
      · exact refs y z
      · exact ⟨c, List.mem_singleton.mp z, nc⟩
    · rw [List.take_add_one, hr']
      refine Rws.snoc ⟨c, rfl, by rw [upd_ne cne]; exact upd_same⟩ (Rws.upd hacc2 refs' (rw'.same sn) fun r' hr2 z => ?_)
      have := tb.row r' (List.mem_of_mem_take hr2)
      rw [z] at this; simp at this; omega
  rintro fo ys H1 hfo ⟨s1, refs, rw1⟩ hfo1 hlen
  rw [lx, List.take_length] at rw1
  have pen1 := pen.same s1
  have fop : fo ≠ p := pen.ne hfo
  refine ⟨_, rfl, _, rfl, p, _, _, rfl, pen1, by omega, by omega, by omega, fun i H2 i0 i1 pen2 x2 => ?_⟩
  refine ⟨_, rfl, _, rfl, p, _, _, rfl, pen2, by omega, by omega, by omega, fun j H3 j0 j1 pen3 x3 => ?_⟩
  refine ⟨_, rfl, _, rfl, p, _, _, rfl, pen3, by omega, by omega, by omega, fun far H4 f0 f1 pen4 x4 => ?_⟩
  refine ⟨_, rfl, _, rfl, p, _, _, rfl, pen4, by omega, by omega, by omega, fun wide H5 w0 w1 pen5 x5 => ?_⟩
  refine ⟨_, rfl, p, _, _, rfl, pen5, by omega, by decide, by decide, fun u H6 u0 u1 pen6 x6 => ⟨_, _, rfl, rfl, ?_⟩⟩
  have x16 := x2.trans (x3.trans (x4.trans (x5.trans x6)))
  have x06 : SameY p H H6 := (Same.y s1).trans x16
  have fo6 := x16.all _ _ hfo1 fop
  have rw6 := rw1.keepY x16 fun ns a e => pen1.neL e
  dsimp only
  obtain ⟨mu, hmu⟩ : ∃ mu : Int, mu = 1 + u := ⟨_, rfl⟩
  rw [← hmu]
  apply joinA (C := fun ch h => Same H6 h ∧ ∃ vs ts, h ch = some (.lst vs) ∧ Trs h vs ts ∧ (∀ t ∈ ts, Tr3 n t) ∧ ts.length ≤ 4)
  case main =>
    intro key
    refine ⟨_, rfl, _, rfl, _, rfl, lz 3 rfl, fun a1 ha1 => ?_⟩
    have s_H7 := same_new ha1 (.tup [.int i, .int j, .int mu])
    have g_a1 : upd H6 a1 (.tup [.int i, .int j, .int mu]) a1 = some (.tup [.int i, .int j, .int mu]) := upd_same
    generalize upd H6 a1 (.tup [.int i, .int j, .int mu]) = H7 at s_H7 g_a1 ⊢
    refine ⟨_, rfl, _, rfl, _, rfl, _, rfl, lz 3 rfl, fun a2 ha2 => ?_⟩
    have s_H8 := same_new ha2 (.tup [.int far, .int j, .int (-mu)])
    have g_a2 : upd H7 a2 (.tup [.int far, .int j, .int (-mu)]) a2 = some (.tup [.int far, .int j, .int (-mu)]) := upd_same
    generalize upd H7 a2 (.tup [.int far, .int j, .int (-mu)]) = H8 at s_H8 g_a2 ⊢
    refine ⟨lz 2 rfl, fun l1 hl1 => ?_⟩
    have s_H9 := same_new hl1 (.lst [.ref a1, .ref a2])
    have g_l1 : upd H8 l1 (.lst [.ref a1, .ref a2]) l1 = some (.lst [.ref a1, .ref a2]) := upd_same
    generalize upd H8 l1 (.lst [.ref a1, .ref a2]) = H9 at s_H9 g_l1 ⊢
    refine ⟨_, rfl, _, rfl, _, rfl, lz 3 rfl, fun a3 ha3 => ?_⟩
    have s_H10 := same_new ha3 (.tup [.int i, .int j, .int mu])
    have g_a3 : upd H9 a3 (.tup [.int i, .int j, .int mu]) a3 = some (.tup [.int i, .int j, .int mu]) := upd_same
    generalize upd H9 a3 (.tup [.int i, .int j, .int mu]) = H10 at s_H10 g_a3 ⊢
    refine ⟨_, rfl, _, rfl, _, rfl, _, rfl, lz 3 rfl, fun a4 ha4 => ?_⟩
    have s_H11 := same_new ha4 (.tup [.int i, .int wide, .int (-mu)])
    have g_a4 : upd H10 a4 (.tup [.int i, .int wide, .int (-mu)]) a4 = some (.tup [.int i, .int wide, .int (-mu)]) := upd_same
    generalize upd H10 a4 (.tup [.int i, .int wide, .int (-mu)]) = H11 at s_H11 g_a4 ⊢
    refine ⟨lz 2 rfl, fun l2 hl2 => ?_⟩
    have s_H12 := same_new hl2 (.lst [.ref a3, .ref a4])
    have g_l2 : upd H11 l2 (.lst [.ref a3, .ref a4]) l2 = some (.lst [.ref a3, .ref a4]) := upd_same
    generalize upd H11 l2 (.lst [.ref a3, .ref a4]) = H12 at s_H12 g_l2 ⊢
    refine ⟨_, rfl, _, rfl, _, rfl, lz 3 rfl, fun a5 ha5 => ?_⟩
    have s_H13 := same_new ha5 (.tup [.int i, .int j, .int mu])
    have g_a5 : upd H12 a5 (.tup [.int i, .int j, .int mu]) a5 = some (.tup [.int i, .int j, .int mu]) := upd_same
    generalize upd H12 a5 (.tup [.int i, .int j, .int mu]) = H13 at s_H13 g_a5 ⊢
    refine ⟨lz 1 rfl, fun l3 hl3 => ?_⟩
    have s_H14 := same_new hl3 (.lst [.ref a5])
    have g_l3 : upd H13 l3 (.lst [.ref a5]) l3 = some (.lst [.ref a5]) := upd_same
    generalize upd H13 l3 (.lst [.ref a5]) = H14 at s_H14 g_l3 ⊢
    refine ⟨lz 3 rfl, fun l4 hl4 => ?_⟩
    have s_H15 := same_new hl4 (.lst [.ref l1, .ref l2, .ref l3])
    have g_l4 : upd H14 l4 (.lst [.ref l1, .ref l2, .ref l3]) l4 = some (.lst [.ref l1, .ref l2, .ref l3]) := upd_same
    generalize upd H14 l4 (.lst [.ref l1, .ref l2, .ref l3]) = H15 at s_H15 g_l4 ⊢
    have g_a1 := (s_H8.trans (s_H9.trans (s_H10.trans (s_H11.trans (s_H12.trans (s_H13.trans (s_H14.trans s_H15))))))) _ _ g_a1
    have g_a2 := (s_H9.trans (s_H10.trans (s_H11.trans (s_H12.trans (s_H13.trans (s_H14.trans s_H15)))))) _ _ g_a2
    have g_a3 := (s_H11.trans (s_H12.trans (s_H13.trans (s_H14.trans s_H15)))) _ _ g_a3
    have g_a4 := (s_H12.trans (s_H13.trans (s_H14.trans s_H15))) _ _ g_a4
    have g_a5 := (s_H14.trans s_H15) _ _ g_a5
    have g_l1 := (s_H10.trans (s_H11.trans (s_H12.trans (s_H13.trans (s_H14.trans s_H15))))) _ _ g_l1
    have g_l2 := (s_H13.trans (s_H14.trans s_H15)) _ _ g_l2
    have g_l3 := (s_H15) _ _ g_l3
    have sA : Same H6 H15 := s_H7.trans (s_H8.trans (s_H9.trans (s_H10.trans (s_H11.trans (s_H12.trans (s_H13.trans (s_H14.trans s_H15)))))))
    have md : 0 ≤ spoil % 3 ∧ spoil % 3 < 3 := ⟨Int.emod_nonneg _ (by decide), Int.emod_lt_of_pos _ (by decide)⟩
    have t1 : Tr3 n (i, j, mu) := ⟨by show 0 ≤ i; omega, by show i < _; omega, by show 0 ≤ j; omega, by show j < _; omega, by show -3 ≤ mu; omega, by show mu ≤ 3; omega⟩
    have t2 : Tr3 n (far, j, -mu) := ⟨by show 0 ≤ far; omega, by show far < _; omega, by show 0 ≤ j; omega, by show j < _; omega, by show -3 ≤ -mu; omega, by show -mu ≤ 3; omega⟩
    have t4 : Tr3 n (i, wide, -mu) := ⟨by show 0 ≤ i; omega, by show i < _; omega, by show 0 ≤ wide; omega, by show wide < _; omega, by show -3 ≤ -mu; omega, by show -mu ≤ 3; omega⟩
    have t5 : Tr3 n (far, wide, mu) := ⟨by show 0 ≤ far; omega, by show far < _; omega, by show 0 ≤ wide; omega, by show wide < _; omega, by show -3 ≤ mu; omega, by show mu ≤ 3; omega⟩
    obtain ⟨lc, vs, ts, hat, hlc, hts, tsb, tsl⟩ : ∃ (lc : Addr) (vs : List V) (ts : List (Int × Int × Int)), atI ([.ref l1, .ref l2, .ref l3] : List V) (spoil % 3) = some (.ref lc) ∧ H15 lc = some (.lst vs) ∧ Trs H15 vs ts ∧ (∀ t ∈ ts, Tr3 n t) ∧ ts.length ≤ 4 := by
      rcases (show spoil % 3 = 0 ∨ spoil % 3 = 1 ∨ spoil % 3 = 2 by omega) with e | e | e <;> rw [e]
      · exact ⟨l1, _, [(i, j, mu), (far, j, -mu)], rfl, g_l1, .cons ⟨a1, rfl, g_a1⟩ (.cons ⟨a2, rfl, g_a2⟩ .nil), by simpa using ⟨t1, t2⟩, by simp⟩
      · exact ⟨l2, _, [(i, j, mu), (i, wide, -mu)], rfl, g_l2, .cons ⟨a3, rfl, g_a3⟩ (.cons ⟨a4, rfl, g_a4⟩ .nil), by simpa using ⟨t1, t4⟩, by simp⟩
      · exact ⟨l3, _, [(i, j, mu)], rfl, g_l3, .cons ⟨a5, rfl, g_a5⟩ .nil, by simpa using t1, by simp⟩
    refine ⟨_, rfl, _, _, rfl, rfl, (show (0 : Int) < 3 by decide), l4, _, _, _, rfl, rfl, SqL.of g_l4, hat, ?_⟩
    refine ⟨_, rfl, _, _, rfl, rfl, _, rfl, ?_⟩
    refine ite2 (fun c => ?_) (fun c => ?_)
    rotate_left 1
    · exact key lc H15 ⟨sA, vs, ts, hlc, hts, tsb, tsl⟩
    refine ⟨_, rfl, _, rfl, _, rfl, lz 3 rfl, fun b1 hb1 => ?_⟩
    have s_H16 := same_new hb1 (.tup [.int i, .int j, .int mu])
    have g_b1 : upd H15 b1 (.tup [.int i, .int j, .int mu]) b1 = some (.tup [.int i, .int j, .int mu]) := upd_same
    generalize upd H15 b1 (.tup [.int i, .int j, .int mu]) = H16 at s_H16 g_b1 ⊢
    refine ⟨_, rfl, _, rfl, _, rfl, lz 3 rfl, fun b2 hb2 => ?_⟩
    have s_H17 := same_new hb2 (.tup [.int far, .int wide, .int mu])
    have g_b2 : upd H16 b2 (.tup [.int far, .int wide, .int mu]) b2 = some (.tup [.int far, .int wide, .int mu]) := upd_same
    generalize upd H16 b2 (.tup [.int far, .int wide, .int mu]) = H17 at s_H17 g_b2 ⊢
    refine ⟨_, rfl, _, rfl, _, rfl, _, rfl, lz 3 rfl, fun b3 hb3 => ?_⟩
    have s_H18 := same_new hb3 (.tup [.int i, .int wide, .int (-mu)])
    have g_b3 : upd H17 b3 (.tup [.int i, .int wide, .int (-mu)]) b3 = some (.tup [.int i, .int wide, .int (-mu)]) := upd_same
    generalize upd H17 b3 (.tup [.int i, .int wide, .int (-mu)]) = H18 at s_H18 g_b3 ⊢
    refine ⟨_, rfl, _, rfl, _, rfl, _, rfl, lz 3 rfl, fun b4 hb4 => ?_⟩
    have s_H19 := same_new hb4 (.tup [.int far, .int j, .int (-mu)])
    have g_b4 : upd H18 b4 (.tup [.int far, .int j, .int (-mu)]) b4 = some (.tup [.int far, .int j, .int (-mu)]) := upd_same
    generalize upd H18 b4 (.tup [.int far, .int j, .int (-mu)]) = H19 at s_H19 g_b4 ⊢
    refine ⟨lz 4 rfl, fun l5 hl5 => ?_⟩
    have s_H20 := same_new hl5 (.lst [.ref b1, .ref b2, .ref b3, .ref b4])
    have g_l5 : upd H19 l5 (.lst [.ref b1, .ref b2, .ref b3, .ref b4]) l5 = some (.lst [.ref b1, .ref b2, .ref b3, .ref b4]) := upd_same
    generalize upd H19 l5 (.lst [.ref b1, .ref b2, .ref b3, .ref b4]) = H20 at s_H20 g_l5 ⊢
    have g_b1 := (s_H17.trans (s_H18.trans (s_H19.trans s_H20))) _ _ g_b1
    have g_b2 := (s_H18.trans (s_H19.trans s_H20)) _ _ g_b2
    have g_b3 := (s_H19.trans s_H20) _ _ g_b3
    have g_b4 := (s_H20) _ _ g_b4
    have sB : Same H6 H20 := s_H7.trans (s_H8.trans (s_H9.trans (s_H10.trans (s_H11.trans (s_H12.trans (s_H13.trans (s_H14.trans (s_H15.trans (s_H16.trans (s_H17.trans (s_H18.trans (s_H19.trans s_H20))))))))))))
    exact key l5 H20 ⟨sB, _, [(i, j, mu), (far, wide, mu), (i, wide, -mu), (far, j, -mu)], g_l5, .cons ⟨b1, rfl, g_b1⟩ (.cons ⟨b2, rfl, g_b2⟩ (.cons ⟨b3, rfl, g_b3⟩ (.cons ⟨b4, rfl, g_b4⟩ .nil))), by simpa using ⟨t1, t5, t4, t2⟩, by simp⟩
  rintro ch J0 ⟨sJ, vs, ts, hch, hts, tsb, tsl⟩
  have x0J := x06.trans (Same.y sJ)
  have foJ := sJ _ _ fo6
  have rwJ := rw6.same sJ
  have penJ := pen6.same sJ
  have vl : vs.length = ts.length := Paired.length hts
  have refs' : ∀ y ∈ ys, ∃ b, y = .ref b := fun y hy => let ⟨b, e, _⟩ := refs y hy; ⟨b, e⟩
  have yl := rw1.len
  refine ⟨_, rfl, ch, rfl, ⟨_, SqL.of hch⟩, for_Y (yields_lst (xs := vs)) (fun q σ H' => (∃ o11 o12 o13, σ = [some (.ref p), some (.ref l), some (.int spoil), some (.int (n : Int)), some (.ref fo), some (.int i), some (.int j), some (.int far), some (.int wide), some (.int mu), some (.ref ch), o11, o12, o13]) ∧ SameY p H H' ∧ PenZ K H' p (m + 5) ∧ H' ch = some (.lst vs) ∧ Trs H' vs ts ∧ H' fo = some (.lst ys) ∧ ∃ T2, Rws H' ys T2 ∧ Tb n (30 + 3 * q) T2) ⟨⟨_, _, _, rfl⟩, x0J, penJ, hch, hts, foJ, T', rwJ, by simpa using tb⟩ (fun _ _ _ h => h.2.2.2.1) ?_ ?_⟩
  · rintro q x σ X1 J1 hq ⟨⟨o11, o12, o13, rfl⟩, y1, pj, hch1, hts1, fo1, T2, rw2, tb2⟩ ⟨rfl, hx⟩
    obtain ⟨t, ht, ta, rfl, hta⟩ := paired_get hts1 hx
    obtain ⟨tr, tc, tm⟩ := t
    obtain ⟨c1, c2, c3, c4, c5, c6⟩ := tsb _ (List.mem_of_getElem? ht)
    dsimp only at c1 c2 c3 c4 c5 c6 hta
    refine ⟨ta, _, rfl, SqT.of hta, rfl, _, _, rfl, _, _, rfl, _, _, rfl, rfl, ?_⟩
    obtain ⟨rn, rfl⟩ : ∃ rn : Nat, tr = (rn : Int) := ⟨tr.toNat, by omega⟩
    obtain ⟨cn, rfl⟩ : ∃ cn : Nat, tc = (cn : Int) := ⟨tc.toNat, by omega⟩
    have tl2 := tb2.len
    have hrn : rn < T2.length := by omega
    obtain ⟨ra, hra1, hra2⟩ := rw2.get (List.getElem?_eq_getElem hrn)
    have rl := tb2.row _ (List.getElem_mem hrn)
    have hcn : cn < T2[rn].length := by omega
    refine ⟨_, rfl, _, rfl, fo, _, _, _, rfl, rfl, SqL.of fo1, atI_nat hra1, _, rfl, ra, _, _, _, rfl, rfl, SqL.of hra2, atI_iv (List.getElem?_eq_getElem hcn), _, rfl, _, _, rfl, rfl, ?_⟩
    refine ⟨_, rfl, _, rfl, fo, _, _, _, rfl, rfl, SqL.of fo1, atI_nat hra1, _, rfl, ra, _, _, cn, rfl, rfl, hra2, ixN_nat (by simpa using hcn), ?_⟩
    dsimp only
    rw [iv_set]
    obtain ⟨T3, rw3, l3', hs3⟩ := rw2.set hra2 (new := T2[rn].set cn (T2[rn][cn] + tm))
    have nra : H ra = none := by
      obtain ⟨b, e, hb⟩ := refs _ (List.mem_of_getElem? hra1)
      cases e
      exact hb
    obtain ⟨u1, u2⟩ := penZ_upd nra pen y1 pj (.lst (iv (T2[rn].set cn (T2[rn][cn] + tm))))
    have rne : T2[rn] ≠ [] := fun z => by rw [z] at rl; simp at rl; omega
    have fne : ra ≠ fo := ls_ne hra2 fo1 rne refs'
    have chne : ch ≠ ra := fun z => by
      subst z
      rw [hch1] at hra2
      have e := HO.lst.inj (Option.some.inj hra2)
      have h0 : T2[rn] = [] := by
        cases hv : T2[rn] with
        | nil => rfl
        | cons z zs' =>
          rw [hv] at e
          obtain ⟨_, _, ta', e', _⟩ := paired_get hts1 (j := 0) (x := .int z) (by rw [e]; rfl)
          cases e'
      exact rne h0
    refine ⟨⟨_, _, _, rfl⟩, u2, u1, by rw [upd_ne chne]; exact hch1, Trs.tk (fun b ws e => by rw [upd_ne (ne_of e hra2 (by intro z; cases z))]; exact e) hts1, by rw [upd_ne (Ne.symm fne)]; exact fo1, T3, rw3, ?_⟩
    refine (tb2.mono (by omega)).set l3' hs3 (by simpa using rl) (fun x hx => ?_)
    rcases List.mem_or_eq_of_mem_set hx with z | z
    · have := tb2.rng _ (List.getElem_mem hrn) x z
      omega
    · have := tb2.rng _ (List.getElem_mem hrn) _ (List.getElem_mem hcn)
      omega
  · rintro σ J1 ⟨⟨o11, o12, o13, rfl⟩, y1, pj, hch1, hts1, fo1, T2, rw2, tb2⟩
    exact ⟨_, rfl, k fo T2 J1 hfo ⟨ys, fo1, rw2⟩ (tb2.mono (by omega)) pj y1⟩
end
end My

set_option Elab.async false
set_option linter.all false
set_option maxRecDepth 100000
set_option maxHeartbeats 1000000
namespace My
open PySem L2 MA Srt PySem.Spec
/-- what may be shown -/
structure Kx (n e : Nat) (d : PyData) : Prop where
  sh : d.showable = true
  dp : d.depth ≤ e
  lv : d.leavesShort 40 = true
  bk : d.bulk ≤ n
theorem Kx.mono {n e n' e' : Nat} {d : PyData} (h : Kx n e d) (h1 : n ≤ n') (h2 : e ≤ e') : Kx n' e' d := ⟨h.sh, Nat.le_trans h.dp h2, h.lv, Nat.le_trans h.bk h1⟩
theorem Kx.ln {n e : Nat} {d : PyData} (h : Kx n e d) (l : n ≤ 100000) : d.shown.length ≤ sizeLine := by
  have a := PyData.shown_le_bulk 40 (by decide) d h.lv
  have b := h.bk
  have : (40 + 2) * d.bulk ≤ 42 * 100000 := Nat.mul_le_mul (by omega) (by omega)
  rw [sizeLine_eq]
  omega
theorem kx_all {n e : Nat} : ∀ {ds : List PyData}, (∀ d ∈ ds, Kx n e d) → PyData.showableAll ds = true ∧ PyData.depthAll ds ≤ e ∧ PyData.leavesShortAll 40 ds = true ∧ PyData.bulkAll ds ≤ ds.length * (n + 1)
  | [], _ => ⟨rfl, Nat.zero_le _, rfl, Nat.zero_le _⟩
  | d :: ds, h => by
    obtain ⟨h1, h2, h3, h4⟩ := kx_all (fun d hd => h d (List.mem_cons_of_mem _ hd)) (ds := ds)
    have hd := h d List.mem_cons_self
    have a := hd.sh
    have b := hd.dp
    have c := hd.lv
    have f := hd.bk
    refine ⟨by simp [PyData.showableAll, a, h1], by simp only [PyData.depthAll]; exact Nat.max_le.mpr ⟨b, h2⟩, by simp [PyData.leavesShortAll, c, h3], ?_⟩
    simp only [PyData.bulkAll, List.length_cons, Nat.add_mul]
    omega
theorem kx_tup {n e m : Nat} {ds : List PyData} (h : ∀ d ∈ ds, Kx n e d) (hm2 : ds.length * (n + 1) + 1 ≤ m) : Kx m (e + 1) (.tuple ds) := by
  obtain ⟨h1, h2, h3, h4⟩ := kx_all h
  exact ⟨by simpa [PyData.showable] using h1, by simp only [PyData.depth]; omega, by simpa [PyData.leavesShort] using h3, by simp only [PyData.bulk]; omega⟩
theorem kx_list {n e m : Nat} {ds : List PyData} (h : ∀ d ∈ ds, Kx n e d) (hm2 : ds.length * (n + 1) + 1 ≤ m) : Kx m (e + 1) (.list ds) := by
  obtain ⟨h1, h2, h3, h4⟩ := kx_all h
  exact ⟨by simpa [PyData.showable] using h1, by simp only [PyData.depth]; omega, by simpa [PyData.leavesShort] using h3, by simp only [PyData.bulk]; omega⟩
theorem kx_int {i : Int} (h : i.natAbs ≤ 100000000) : Kx 0 0 (.int i) := by
  have s := sm_int (show I18 i by show i.natAbs < _; omega) 0
  exact ⟨s.sh, by simp [PyData.depth], s.lv, s.bk⟩
theorem kx_none : Kx 0 0 .none := ⟨rfl, Nat.zero_le _, rfl, Nat.zero_le _⟩
theorem kx_bool (b : Bool) : Kx 0 0 (.bool b) := ⟨rfl, Nat.zero_le _, rfl, Nat.zero_le _⟩
theorem kx_str {x : String} (h : x.length ≤ 20) : Kx 20 0 (.str (Str.ofString x)) := by
  have s := sm_str h
  exact ⟨s.sh, Nat.zero_le _, s.lv, s.bk⟩
theorem kx_text {i : Int} (h : i.natAbs ≤ 100000000) : Kx 20 0 (.str (toString i : String)) := by
  have s := sm_text (i := i) (show I18 i by show i.natAbs < _; omega)
  exact ⟨s.sh, Nat.zero_le _, s.lv, s.bk⟩
theorem kx_kv {n e : Nat} : ∀ {ps : List (PyData × PyData)}, (∀ p ∈ ps, Kx n e p.1 ∧ Kx n e p.2) → PyData.showableKv ps = true ∧ PyData.depthKv ps ≤ e ∧ PyData.leavesShortKv 40 ps = true ∧ PyData.bulkKv ps ≤ ps.length * (2 * n + 4)
  | [], _ => ⟨rfl, Nat.zero_le _, rfl, Nat.zero_le _⟩
  | (k, v) :: ps, h => by
    obtain ⟨h1, h2, h3, h4⟩ := kx_kv (fun d hd => h d (List.mem_cons_of_mem _ hd)) (ps := ps)
    obtain ⟨hk, hv⟩ : Kx n e k ∧ Kx n e v := h (k, v) List.mem_cons_self
    have a := hk.sh
    have b := hk.dp
    have c := hk.lv
    have f := hk.bk
    have a' := hv.sh
    have b' := hv.dp
    have c' := hv.lv
    have f' := hv.bk
    refine ⟨by simp [PyData.showableKv, a, a', h1], by simp only [PyData.depthKv]; omega, by simp [PyData.leavesShortKv, c, c', h3], ?_⟩
    simp only [PyData.bulkKv, List.length_cons, Nat.add_mul]
    omega
theorem kx_dict {n e m : Nat} {ps : List (PyData × PyData)} (h : ∀ p ∈ ps, Kx n e p.1 ∧ Kx n e p.2) (hm2 : ps.length * (2 * n + 4) + 1 ≤ m) : Kx m (e + 1) (.dict ps) := by
  obtain ⟨h1, h2, h3, h4⟩ := kx_kv h
  exact ⟨by simpa [PyData.showable] using h1, by simp only [PyData.depth]; omega, by simpa [PyData.leavesShort] using h3, by simp only [PyData.bulk]; omega⟩
/-- all ints small -/
inductive AI : PyData → Prop
  | none : AI .none
  | bool (b : Bool) : AI (.bool b)
  | str (s : Str) : AI (.str s)
  | int {i : Int} (h : i.natAbs ≤ 100000000) : AI (.int i)
  | list {ds : List PyData} (h : ∀ d ∈ ds, AI d) : AI (.list ds)
  | tuple {ds : List PyData} (h : ∀ d ∈ ds, AI d) (few : ds.length ≤ 1000) : AI (.tuple ds)
  | dict (ps : List (PyData × PyData)) : AI (.dict ps)
theorem AI.bds {d : PyData} (h : AI d) : BdS d := by
  intro a b e
  subst e
  cases h with
  | tuple h _ =>
    have h1 := h (.int a) (by simp)
    have h2 := h (.int b) (by simp)
    cases h1 with
    | int h1 => cases h2 with
      | int h2 => exact ⟨h1, h2⟩
theorem AI.items {ds : List PyData} (h : AI (.tuple ds)) : ∀ d ∈ ds, AI d := by
  cases h with
  | tuple h _ => exact h
theorem AI.few {ds : List PyData} (h : AI (.tuple ds)) : ds.length ≤ 1000 := by
  cases h with
  | tuple _ h => exact h
theorem AI.bdi {d : PyData} (h : AI d) : BdI d := by
  refine ⟨fun ds e => ?_, fun ds e r hr es e2 x hx => ?_⟩
  · subst e; exact h.few
  · subst e
    have := h.items r hr
    subst e2
    exact (this.items x hx).bds
structure Ok4 (n e : Nat) (d : PyData) : Prop where
  kx : Kx n e d
  ai : AI d
theorem Ok4.mono {n e n' e' : Nat} {d : PyData} (h : Ok4 n e d) (h1 : n ≤ n') (h2 : e ≤ e') : Ok4 n' e' d := ⟨h.kx.mono h1 h2, h.ai⟩
theorem o_int {i : Int} (h : i.natAbs ≤ 100000000) : Ok4 20 0 (.int i) := ⟨(kx_int h).mono (by decide) (by decide), .int h⟩
theorem o_none : Ok4 20 0 .none := ⟨kx_none.mono (by decide) (by decide), .none⟩
theorem o_bool (b : Bool) : Ok4 20 0 (.bool b) := ⟨(kx_bool b).mono (by decide) (by decide), .bool b⟩
theorem o_str {x : String} (h : x.length ≤ 20) : Ok4 20 0 (.str (Str.ofString x)) := ⟨kx_str h, .str _⟩
theorem o_text {i : Int} (h : i.natAbs ≤ 100000000) : Ok4 20 0 (.str (toString i : String)) := ⟨kx_text h, .str _⟩
theorem o_tup {n e m : Nat} {ds : List PyData} (h : ∀ d ∈ ds, Ok4 n e d) (l : ds.length ≤ 1000) (hm : ds.length * (n + 1) + 1 ≤ m) : Ok4 m (e + 1) (.tuple ds) := ⟨kx_tup (fun d hd => (h d hd).kx) hm, .tuple (fun d hd => (h d hd).ai) l⟩
theorem o_list {n e m : Nat} {ds : List PyData} (h : ∀ d ∈ ds, Ok4 n e d) (hm : ds.length * (n + 1) + 1 ≤ m) : Ok4 m (e + 1) (.list ds) := ⟨kx_list (fun d hd => (h d hd).kx) hm, .list fun d hd => (h d hd).ai⟩
theorem o_dict {n e m : Nat} {ps : List (PyData × PyData)} (h : ∀ p ∈ ps, Kx n e p.1 ∧ Kx n e p.2) (hm : ps.length * (2 * n + 4) + 1 ≤ m) : Ok4 m (e + 1) (.dict ps) := ⟨kx_dict h hm, .dict ps⟩
/-! ### data that touches neither the pen nor the list L -/
abbrev XX (p L : Addr) : Addr → Prop := fun a => a ≠ p ∧ a ≠ L
def DX (H : Hp) (p L : Addr) (v : V) (d : PyData) : Prop := DataV (res H (XX p L)) v d
def DXL (H : Hp) (p L : Addr) (vs : List V) (ds : List PyData) : Prop := DataL (res H (XX p L)) vs ds
theorem DX.data {H : Hp} {p L : Addr} {v : V} {d : PyData} (h : DX H p L v d) : DataV H v d := DataV.same res_same h
theorem resY {H H' : Hp} {p L : Addr} (x : SameY p H H') : Same (res H (XX p L)) (res H' (XX p L)) := same_res fun a o ha e => x.all a o e ha.1
theorem resU {H : Hp} {p L : Addr} {o : HO} : Same (res H (XX p L)) (res (upd H L o) (XX p L)) := same_res fun a u ha e => by rw [upd_ne ha.2]; exact e
theorem DX.y {H H' : Hp} {p L : Addr} {v : V} {d : PyData} (h : DX H p L v d) (x : SameY p H H') : DX H' p L v d := DataV.same (resY x) h
theorem DX.u {H : Hp} {p L : Addr} {v : V} {d : PyData} {o : HO} (h : DX H p L v d) : DX (upd H L o) p L v d := DataV.same resU h
theorem DX.s {H H' : Hp} {p L : Addr} {v : V} {d : PyData} (h : DX H p L v d) (x : Same H H') : DX H' p L v d := h.y (Same.y x)
theorem PenZ.neT {K : PySem.W.Frag} {H : Hp} {p b : Addr} {n : Nat} {xs : List V} (h : PenZ K H p n) (hb : H b = some (.tup xs)) : b ≠ p := by
  rintro rfl
  obtain ⟨c, ns, a, l, h1, _⟩ := h
  rw [hb] at h1
  cases h1
/-- the pen and the list L stand -/
structure PL (K : PySem.W.Frag) (H : Hp) (p L : Addr) (m : Nat) : Prop where
  pen : PenZ K H p m
  lst : ∃ zs, H L = some (.lst zs)
  ne : L ≠ p
theorem PL.same {K : PySem.W.Frag} {H H' : Hp} {p L : Addr} {m : Nat} (h : PL K H p L m) (s : Same H H') : PL K H' p L m := ⟨h.pen.same s, let ⟨zs, e⟩ := h.lst; ⟨zs, s _ _ e⟩, h.ne⟩
theorem PL.y {K : PySem.W.Frag} {H H' : Hp} {p L : Addr} {m m' : Nat} (h : PL K H p L m) (x : SameY p H H') (hp : PenZ K H' p m') : PL K H' p L m' := ⟨hp, let ⟨zs, e⟩ := h.lst; ⟨zs, x.all _ _ e h.ne⟩, h.ne⟩
theorem PL.neT {K : PySem.W.Frag} {H : Hp} {p L b : Addr} {m : Nat} {xs : List V} (h : PL K H p L m) (hb : H b = some (.tup xs)) : XX p L b := ⟨h.pen.neT hb, fun z => by
  obtain ⟨zs, e⟩ := h.lst
  rw [z, e] at hb; cases hb⟩
theorem PL.neN {K : PySem.W.Frag} {H : Hp} {p L b : Addr} {m : Nat} (h : PL K H p L m) (hb : H b = none) : XX p L b := ⟨h.pen.ne hb, fun z => by
  obtain ⟨zs, e⟩ := h.lst
  rw [z, e] at hb; cases hb⟩
theorem dx_tup {K : PySem.W.Frag} {H : Hp} {p L a : Addr} {m : Nat} {xs : List V} {ds : List PyData} (hp : PL K H p L m) (h : H a = some (.tup xs)) (l : DXL H p L xs ds) : DX H p L (.ref a) (.tuple ds) :=
  .tup (by rw [res_pos (S := XX p L) (a := a) (hp.neT h)]; exact h) l
theorem dx_lst {H : Hp} {p L a : Addr} {xs : List V} {ds : List PyData} (hx : XX p L a) (h : H a = some (.lst xs)) (l : DXL H p L xs ds) : DX H p L (.ref a) (.list ds) :=
  .lst (by rw [res_pos (S := XX p L) (a := a) hx]; exact h) l
theorem dx_sh {K : PySem.W.Frag} {H : Hp} {p L : Addr} {m : Nat} {v : V} {q : Rat} (hp : PL K H p L m) (h : ShAt H v q) : DX H p L v (dsh q) := by
  obtain ⟨a, rfl, ha⟩ := h
  exact dx_tup hp ha (.cons (.int _) (.cons (.int _) .nil))
/-- rows of things -/
def RwX (n e : Nat) (H : Hp) (p L : Addr) (vs : List V) : Prop := ∀ v ∈ vs, ∃ d, DX H p L v d ∧ Ok4 n e d
theorem RwX.y {n e : Nat} {H H' : Hp} {p L : Addr} {vs : List V} (h : RwX n e H p L vs) (x : SameY p H H') : RwX n e H' p L vs := fun v hv => let ⟨d, h1, h2⟩ := h v hv; ⟨d, h1.y x, h2⟩
theorem RwX.s {n e : Nat} {H H' : Hp} {p L : Addr} {vs : List V} (h : RwX n e H p L vs) (x : Same H H') : RwX n e H' p L vs := h.y (Same.y x)
theorem RwX.app {n e : Nat} {H : Hp} {p L : Addr} {vs us : List V} (h : RwX n e H p L vs) (h' : RwX n e H p L us) : RwX n e H p L (vs ++ us) := fun v hv => (List.mem_append.mp hv).elim (h v) (h' v)
theorem RwX.sub {n e : Nat} {H : Hp} {p L : Addr} {vs us : List V} (h : RwX n e H p L vs) (s : ∀ v ∈ us, v ∈ vs) : RwX n e H p L us := fun v hv => h v (s v hv)
theorem RwX.cut {n e : Nat} {H : Hp} {p L : Addr} {vs : List V} (h : RwX n e H p L vs) (lo hi : Option Int) : RwX n e H p L (cutV vs lo hi) := h.sub fun v hv => List.mem_of_mem_drop (List.mem_of_mem_take hv)
theorem RwX.one {n e : Nat} {H : Hp} {p L : Addr} {v : V} {d : PyData} (h : DX H p L v d) (k : Ok4 n e d) : RwX n e H p L [v] := fun u hu => by rw [List.mem_singleton.mp hu]; exact ⟨d, h, k⟩
theorem RwX.data {n e : Nat} {H : Hp} {p L : Addr} : ∀ {vs : List V}, RwX n e H p L vs → ∃ ds, DXL H p L vs ds ∧ ds.length = vs.length ∧ ∀ d ∈ ds, Ok4 n e d
  | [], _ => ⟨[], .nil, rfl, fun d hd => by simp at hd⟩
  | v :: vs, h => by
    obtain ⟨ds, h1, h2, h3⟩ := RwX.data (fun u hu => h u (List.mem_cons_of_mem _ hu)) (vs := vs)
    obtain ⟨d, h4, h5⟩ := h v List.mem_cons_self
    refine ⟨d :: ds, .cons h4 h1, by simp [h2], fun e he => ?_⟩
    rcases List.mem_cons.mp he with rfl | z
    · exact h5
    · exact h3 e z
theorem RwX.tup {K : PySem.W.Frag} {n e m M : Nat} {H : Hp} {p L t : Addr} {vs : List V} (h : RwX n e H p L vs) (hp : PL K H p L m) (ht : H t = some (.tup vs)) (l : vs.length ≤ 30) (hm : vs.length * (n + 1) + 1 ≤ M) : ∃ d, DX H p L (.ref t) d ∧ Ok4 M (e + 1) d := by
  obtain ⟨ds, h1, h2, h3⟩ := h.data
  exact ⟨_, dx_tup hp ht h1, o_tup h3 (by omega) (by rw [h2]; exact hm)⟩
theorem RwX.lst {n e M : Nat} {H : Hp} {p L t : Addr} {vs : List V} (h : RwX n e H p L vs) (hx : XX p L t) (ht : H t = some (.lst vs)) (hm : vs.length * (n + 1) + 1 ≤ M) : ∃ d, DX H p L (.ref t) d ∧ Ok4 M (e + 1) d := by
  obtain ⟨ds, h1, h2, h3⟩ := h.data
  exact ⟨_, dx_lst hx ht h1, o_list h3 (by rw [h2]; exact hm)⟩
section
variable {P : Program} {w : World} {K : PySem.W.Frag} {mg : Str → Option Value} {base : Heap}
def spPut : Sp := fun vs H Q _ => ∃ (a : Addr) (k : Nat) (v : V) (xs : List V), vs = [.ref a, .int (k : Int), v] ∧ H a = some (.tup xs) ∧ xs.length ≤ 20 ∧ ∀ (t : Addr) (H' : Hp), Same H H' → H' t = some (.tup (cutV xs none (some (k : Int)) ++ [v] ++ cutV xs (some ((k : Int) + 1)) none)) → Q (.ref t) H'
theorem ok_put (T : Txt2 mg) (F : FunAt K mg "_law_put" ["_law_some", "_law_at", "_law_thing"] s_l_put) : Cal P w K mg base "_law_put" ["_law_some", "_law_at", "_law_thing"] 1 spPut := by
  have S := sc_l_put
  refine F.cal sc_l_put (fun vs H Q E h => ?_) (fun f cdv A outer s H vs Q E hr h => ?_)
  · obtain ⟨a, k, v, xs, rfl, _⟩ := h; rfl
  obtain ⟨a, n, v, xs, rfl, ha, few, k⟩ := h
  refine ⟨_, (@pss_one _ _ _ (@ps_ret _ _ _ _ (@pe_op _ _ _ _ _ _ _ _ op_catS (@pe_op _ _ _ _ _ _ _ _ op_catS (@pe_slice _ _ _ _ _ _ _ _ _ _ sl_tupS (pv 0) po_none (@po_some _ _ _ (pv 1))) (@pe_tup _ _ _ _ _ (@pa_consN _ _ _ _ _ (pv 2) pa_nil (by first|rfl|decide|exact .inl rfl|exact .inr rfl|(intros; rfl))))) (@pe_slice _ _ _ _ _ _ _ _ _ _ sl_tupS (pv 0) (@po_some _ _ _ (@pe_op _ _ _ _ _ _ _ _ op_add (pv 1) pe_int)) po_none)))), ?_⟩
  have c1 := cutV_length xs none (some (n : Int))
  have c2 := cutV_length xs (some ((n : Int) + 1)) none
  refine ⟨_, rfl, _, rfl, _, rfl, a, xs, rfl, ha, fun t1 H1 s1 h1 => ?_⟩
  refine ⟨_, rfl, lz 1 rfl, fun t2 ht2 => ?_⟩
  have s_H2 := same_new ht2 (.tup [v])
  have g_t2 : upd H1 t2 (.tup [v]) t2 = some (.tup [v]) := upd_same
  generalize upd H1 t2 (.tup [v]) = H2 at s_H2 g_t2 ⊢
  refine ⟨t1, t2, _, _, rfl, rfl, s_H2 _ _ h1, g_t2, by simp; omega, fun t3 H3 s3 h3 => ?_⟩
  have s03 := s1.trans (s_H2.trans s3)
  refine ⟨_, rfl, _, rfl, _, _, rfl, rfl, _, rfl, a, xs, rfl, s03 _ _ ha, fun t4 H4 s4 h4 => ?_⟩
  exact ⟨t3, t4, _, _, rfl, rfl, s4 _ _ h3, h4, by simp; omega, fun t5 H5 s5 h5 => k t5 H5 (s03.trans (s4.trans s5)) h5⟩
def spOddS (K : PySem.W.Frag) : Sp := fun vs H Q _ => ∃ (p : Addr) (v : V) (a b : Int) (m : Nat), vs = [.ref p, v] ∧ PrAt H v (a, b) ∧ a.natAbs ≤ 10000 ∧ b.natAbs ≤ 10000 ∧ PenZ K H p m ∧ m + 5 ≤ 100000 ∧ ∀ (u : V) (H' : Hp), SameY p H H' → PenZ K H' p (m + 1) → (∀ L, (∃ zs, H L = some (.lst zs)) → L ≠ p → ∃ d, DX H' p L u d ∧ Ok4 100 1 d) → Q u H'
theorem ok_oddS (T : Txt2 mg) (C_l_take : Cal P w K mg base "_law_take" ["_law_pen_here", "_law_many"] 1 (spTakeZ K)) (F : FunAt K mg "_law_odd_share" ["_law_pen_here", "_law_part"] s_l_odd_share) : Cal P w K mg base "_law_odd_share" ["_law_pen_here", "_law_part"] 2 (spOddS K) := by
  have S := sc_l_odd_share
  refine F.cal sc_l_odd_share (fun vs H Q E h => ?_) (fun f cdv A outer s H vs Q E hr h => ?_)
  · obtain ⟨p, v, a, b, m, rfl, _⟩ := h; rfl
  obtain ⟨p, v, a, b, m, rfl, ⟨pt, rfl, hpt⟩, ba, bb, pen, hm, k⟩ := h
  dsimp only at hpt
  have hlog : a.natAbs.log2 < 1920 := log_int (show I18 a by show a.natAbs < _; omega)
  refine ⟨_, (@pss_cons _ _ _ _ _ (@ps_asg _ _ _ _ _ _ (pv 1) (@pg_tup _ _ _ _ _ _ (by rfl) (@pgs_cons _ _ _ _ _ (@pg_name _ _ (3) _ (by exact S.nd) (by rfl) (by first | exact Or.inl rfl | exact Or.inr rfl) (by first|rfl|decide|exact .inl rfl|exact .inr rfl|(intros; rfl))) (@pgs_cons _ _ _ _ _ (@pg_name _ _ (4) _ (by exact S.nd) (by rfl) (by first | exact Or.inl rfl | exact Or.inr rfl) (by first|rfl|decide|exact .inl rfl|exact .inr rfl|(intros; rfl))) pgs_nil (by first|rfl|decide|exact .inl rfl|exact .inr rfl|(intros; rfl))) (by first|rfl|decide|exact .inl rfl|exact .inr rfl|(intros; rfl))) (by first|rfl|decide|exact .inl rfl|exact .inr rfl|(intros; rfl)) (by first|rfl|decide|exact .inl rfl|exact .inr rfl|(intros; rfl))) (by first|rfl|decide|exact .inl rfl|exact .inr rfl|(intros; rfl)) (by first|rfl|decide|exact .inl rfl|exact .inr rfl|(intros; rfl)) (by first|rfl|decide|exact .inl rfl|exact .inr rfl|(intros; rfl))) (@pss_cons _ _ _ _ _ (@ps_set _ _ (2) _ _ _ _ (by exact S.nd) (by rfl) (by first | exact Or.inl rfl | exact Or.inr rfl) (@pe_lst _ _ _ _ (@pa_consN _ _ _ _ _ (@pe_tup _ _ _ _ _ (@pa_consN _ _ _ _ _ (@pe_op _ _ _ _ _ _ _ _ op_mul pe_int (pv 3)) (@pa_consN _ _ _ _ _ (@pe_op _ _ _ _ _ _ _ _ op_mul pe_int (pv 4)) pa_nil (by first|rfl|decide|exact .inl rfl|exact .inr rfl|(intros; rfl))) (by first|rfl|decide|exact .inl rfl|exact .inr rfl|(intros; rfl)))) (@pa_consN _ _ _ _ _ (@pe_tup _ _ _ _ _ (@pa_consN _ _ _ _ _ (@pe_op _ _ _ _ _ _ _ _ op_sub pe_int (pv 3)) (@pa_consN _ _ _ _ _ (@pe_op _ _ _ _ _ _ _ _ op_sub pe_int (pv 4)) pa_nil (by first|rfl|decide|exact .inl rfl|exact .inr rfl|(intros; rfl))) (by first|rfl|decide|exact .inl rfl|exact .inr rfl|(intros; rfl)))) (@pa_consN _ _ _ _ _ (@pe_tup _ _ _ _ _ (@pa_consN _ _ _ _ _ (@pe_op _ _ _ _ _ _ _ _ op_sub (pv 3) (pv 4)) (@pa_consN _ _ _ _ _ (pv 4) pa_nil (by first|rfl|decide|exact .inl rfl|exact .inr rfl|(intros; rfl))) (by first|rfl|decide|exact .inl rfl|exact .inr rfl|(intros; rfl)))) (@pa_consN _ _ _ _ _ (@pe_lst _ _ _ _ (@pa_consN _ _ _ _ _ (pv 3) (@pa_consN _ _ _ _ _ (pv 4) pa_nil (by first|rfl|decide|exact .inl rfl|exact .inr rfl|(intros; rfl))) (by first|rfl|decide|exact .inl rfl|exact .inr rfl|(intros; rfl)))) (@pa_consN _ _ _ _ _ (@pe_tup _ _ _ _ _ (@pa_consN _ _ _ _ _ (pv 3) pa_nil (by first|rfl|decide|exact .inl rfl|exact .inr rfl|(intros; rfl)))) pa_nil (by first|rfl|decide|exact .inl rfl|exact .inr rfl|(intros; rfl))) (by first|rfl|decide|exact .inl rfl|exact .inr rfl|(intros; rfl))) (by first|rfl|decide|exact .inl rfl|exact .inr rfl|(intros; rfl))) (by first|rfl|decide|exact .inl rfl|exact .inr rfl|(intros; rfl))) (by first|rfl|decide|exact .inl rfl|exact .inr rfl|(intros; rfl)))) (by first|rfl|decide|exact .inl rfl|exact .inr rfl|(intros; rfl)) (by first|rfl|decide|exact .inl rfl|exact .inr rfl|(intros; rfl))) (@pss_cons _ _ _ _ _ (@ps_set _ _ (2) _ _ _ _ (by exact S.nd) (by rfl) (by first | exact Or.inl rfl | exact Or.inr rfl) (@pe_op _ _ _ _ _ _ _ _ op_cat (pv 2) (@pe_lst _ _ _ _ (@pa_consN _ _ _ _ _ (@pe_tup _ _ _ _ _ (@pa_consN _ _ _ _ _ (pv 3) (@pa_consN _ _ _ _ _ (pv 4) (@pa_consN _ _ _ _ _ pe_int pa_nil (by first|rfl|decide|exact .inl rfl|exact .inr rfl|(intros; rfl))) (by first|rfl|decide|exact .inl rfl|exact .inr rfl|(intros; rfl))) (by first|rfl|decide|exact .inl rfl|exact .inr rfl|(intros; rfl)))) (@pa_consN _ _ _ _ _ (pv 3) (@pa_consN _ _ _ _ _ pe_non (@pa_consN _ _ _ _ _ (@pe_tup _ _ _ _ _ (@pa_consN _ _ _ _ _ (@pe_cmpR _ _ _ _ _ _ _ _ op_eq (pv 3) pe_int (by exact (nomark _))) (@pa_consN _ _ _ _ _ (pv 4) pa_nil (by first|rfl|decide|exact .inl rfl|exact .inr rfl|(intros; rfl))) (by first|rfl|decide|exact .inl rfl|exact .inr rfl|(intros; rfl)))) (@pa_consN _ _ _ _ _ (@pe_tup _ _ _ _ _ (@pa_consN _ _ _ _ _ (pv 3) (@pa_consN _ _ _ _ _ (@pe_cmpR _ _ _ _ _ _ _ _ op_eq (pv 4) pe_int (by exact (nomark _))) pa_nil (by first|rfl|decide|exact .inl rfl|exact .inr rfl|(intros; rfl))) (by first|rfl|decide|exact .inl rfl|exact .inr rfl|(intros; rfl)))) (@pa_consN _ _ _ _ _ (@pe_tup _ _ _ _ _ (@pa_consN _ _ _ _ _ pe_int (@pa_consN _ _ _ _ _ pe_int pa_nil (by first|rfl|decide|exact .inl rfl|exact .inr rfl|(intros; rfl))) (by first|rfl|decide|exact .inl rfl|exact .inr rfl|(intros; rfl)))) (@pa_consN _ _ _ _ _ (@pe_callTy _ _ _ _ _ _ _ _ _ call_str_int (by rfl) (by exact T.z_str) (by exact bt_str) (@pa_consN _ _ _ _ _ (pv 3) pa_nil (by first|rfl|decide|exact .inl rfl|exact .inr rfl|(intros; rfl))) (by first|rfl|decide|exact .inl rfl|exact .inr rfl|(intros; rfl)) (by first|rfl|decide|exact .inl rfl|exact .inr rfl|(intros; rfl)) (by first|rfl|decide|exact .inl rfl|exact .inr rfl|(intros; rfl)) (by first|rfl|decide|exact .inl rfl|exact .inr rfl|(intros; rfl))) (@pa_consN _ _ _ _ _ (@pe_tup _ _ _ _ _ (@pa_consN _ _ _ _ _ (pv 3) (@pa_consN _ _ _ _ _ pe_int pa_nil (by first|rfl|decide|exact .inl rfl|exact .inr rfl|(intros; rfl))) (by first|rfl|decide|exact .inl rfl|exact .inr rfl|(intros; rfl)))) pa_nil (by first|rfl|decide|exact .inl rfl|exact .inr rfl|(intros; rfl))) (by first|rfl|decide|exact .inl rfl|exact .inr rfl|(intros; rfl))) (by first|rfl|decide|exact .inl rfl|exact .inr rfl|(intros; rfl))) (by first|rfl|decide|exact .inl rfl|exact .inr rfl|(intros; rfl))) (by first|rfl|decide|exact .inl rfl|exact .inr rfl|(intros; rfl))) (by first|rfl|decide|exact .inl rfl|exact .inr rfl|(intros; rfl))) (by first|rfl|decide|exact .inl rfl|exact .inr rfl|(intros; rfl))) (by first|rfl|decide|exact .inl rfl|exact .inr rfl|(intros; rfl))))) (by first|rfl|decide|exact .inl rfl|exact .inr rfl|(intros; rfl)) (by first|rfl|decide|exact .inl rfl|exact .inr rfl|(intros; rfl))) (@pss_cons _ _ _ _ _ (@ps_set _ _ (2) _ _ _ _ (by exact S.nd) (by rfl) (by first | exact Or.inl rfl | exact Or.inr rfl) (@pe_op _ _ _ _ _ _ _ _ op_cat (pv 2) (@pe_lst _ _ _ _ (@pa_consN _ _ _ _ _ (@pe_tup _ _ _ _ _ pa_nil) (@pa_consN _ _ _ _ _ pe_dnewK (@pa_consN _ _ _ _ _ (@pe_tup _ _ _ _ _ (@pa_consN _ _ _ _ _ (pv 3) (@pa_consN _ _ _ _ _ pe_non pa_nil (by first|rfl|decide|exact .inl rfl|exact .inr rfl|(intros; rfl))) (by first|rfl|decide|exact .inl rfl|exact .inr rfl|(intros; rfl)))) pa_nil (by first|rfl|decide|exact .inl rfl|exact .inr rfl|(intros; rfl))) (by first|rfl|decide|exact .inl rfl|exact .inr rfl|(intros; rfl))) (by first|rfl|decide|exact .inl rfl|exact .inr rfl|(intros; rfl))))) (by first|rfl|decide|exact .inl rfl|exact .inr rfl|(intros; rfl)) (by first|rfl|decide|exact .inl rfl|exact .inr rfl|(intros; rfl))) (@pss_one _ _ _ (@ps_ret _ _ _ _ (@pe_ix _ _ _ _ _ _ _ ix_list (pv 2) (@cc _ _ _ _ _ _ _ _ _ _ (by exact C_l_take) (by exact (hr.mono (by decide))) (@pa_consN _ _ _ _ _ (pv 0) (@pa_consN _ _ _ _ _ pe_int pa_nil (by first|rfl|decide|exact .inl rfl|exact .inr rfl|(intros; rfl))) (by first|rfl|decide|exact .inl rfl|exact .inr rfl|(intros; rfl))) (by first|rfl|decide|exact .inl rfl|exact .inr rfl|(intros; rfl)) (by first|rfl|decide|exact .inl rfl|exact .inr rfl|(intros; rfl)) (by first|rfl|decide|exact .inl rfl|exact .inr rfl|(intros; rfl)) (by first|rfl|decide|exact .inl rfl|exact .inr rfl|(intros; rfl))) (by exact (fun _ _ => rfl))))))))), ?_⟩
  refine ⟨_, rfl, pt, _, rfl, SqT.of hpt, rfl, _, _, rfl, _, _, rfl, rfl, ?_⟩
  refine ⟨_, rfl, _, _, rfl, rfl, .inl ⟨by decide, by decide⟩, _, rfl, _, _, rfl, rfl, .inl ⟨by decide, by decide⟩, lz 2 rfl, fun t1 ht1 => ?_⟩
  have s_H1 := same_new ht1 (.tup [.int (2 * a), .int (2 * b)])
  have g_t1 : upd H t1 (.tup [.int (2 * a), .int (2 * b)]) t1 = some (.tup [.int (2 * a), .int (2 * b)]) := upd_same
  generalize upd H t1 (.tup [.int (2 * a), .int (2 * b)]) = H1 at s_H1 g_t1 ⊢
  refine ⟨_, rfl, _, _, rfl, rfl, _, rfl, _, _, rfl, rfl, lz 2 rfl, fun t2 ht2 => ?_⟩
  have s_H2 := same_new ht2 (.tup [.int (0 - a), .int (0 - b)])
  have g_t2 : upd H1 t2 (.tup [.int (0 - a), .int (0 - b)]) t2 = some (.tup [.int (0 - a), .int (0 - b)]) := upd_same
  generalize upd H1 t2 (.tup [.int (0 - a), .int (0 - b)]) = H2 at s_H2 g_t2 ⊢
  refine ⟨_, rfl, _, rfl, _, _, rfl, rfl, _, rfl, lz 2 rfl, fun t3 ht3 => ?_⟩
  have s_H3 := same_new ht3 (.tup [.int (a - b), .int b])
  have g_t3 : upd H2 t3 (.tup [.int (a - b), .int b]) t3 = some (.tup [.int (a - b), .int b]) := upd_same
  generalize upd H2 t3 (.tup [.int (a - b), .int b]) = H3 at s_H3 g_t3 ⊢
  refine ⟨_, rfl, _, rfl, lz 2 rfl, fun t4 ht4 => ?_⟩
  have s_H4 := same_new ht4 (.lst [.int a, .int b])
  have g_t4 : upd H3 t4 (.lst [.int a, .int b]) t4 = some (.lst [.int a, .int b]) := upd_same
  generalize upd H3 t4 (.lst [.int a, .int b]) = H4 at s_H4 g_t4 ⊢
  refine ⟨_, rfl, lz 1 rfl, fun t5 ht5 => ?_⟩
  have s_H5 := same_new ht5 (.tup [.int a])
  have g_t5 : upd H4 t5 (.tup [.int a]) t5 = some (.tup [.int a]) := upd_same
  generalize upd H4 t5 (.tup [.int a]) = H5 at s_H5 g_t5 ⊢
  refine ⟨lz 5 rfl, fun l1 hl1 => ?_⟩
  have s_H6 := same_new hl1 (.lst [.ref t1, .ref t2, .ref t3, .ref t4, .ref t5])
  have g_l1 : upd H5 l1 (.lst [.ref t1, .ref t2, .ref t3, .ref t4, .ref t5]) l1 = some (.lst [.ref t1, .ref t2, .ref t3, .ref t4, .ref t5]) := upd_same
  generalize upd H5 l1 (.lst [.ref t1, .ref t2, .ref t3, .ref t4, .ref t5]) = H6 at s_H6 g_l1 ⊢
  refine ⟨_, rfl, _, rfl, _, rfl, lz 3 rfl, fun t6 ht6 => ?_⟩
  have s_H7 := same_new ht6 (.tup [.int a, .int b, .int 1])
  have g_t6 : upd H6 t6 (.tup [.int a, .int b, .int 1]) t6 = some (.tup [.int a, .int b, .int 1]) := upd_same
  generalize upd H6 t6 (.tup [.int a, .int b, .int 1]) = H7 at s_H7 g_t6 ⊢
  refine ⟨_, rfl, _, rfl, rfl, _, rfl, lz 2 rfl, fun t7 ht7 => ?_⟩
  have s_H8 := same_new ht7 (.tup [.bl (decide (V.int a = V.int 1)), .int b])
  have g_t7 : upd H7 t7 (.tup [.bl (decide (V.int a = V.int 1)), .int b]) t7 = some (.tup [.bl (decide (V.int a = V.int 1)), .int b]) := upd_same
  generalize upd H7 t7 (.tup [.bl (decide (V.int a = V.int 1)), .int b]) = H8 at s_H8 g_t7 ⊢
  refine ⟨_, rfl, _, rfl, rfl, lz 2 rfl, fun t8 ht8 => ?_⟩
  have s_H9 := same_new ht8 (.tup [.int a, .bl (decide (V.int b = V.int 1))])
  have g_t8 : upd H8 t8 (.tup [.int a, .bl (decide (V.int b = V.int 1))]) t8 = some (.tup [.int a, .bl (decide (V.int b = V.int 1))]) := upd_same
  generalize upd H8 t8 (.tup [.int a, .bl (decide (V.int b = V.int 1))]) = H9 at s_H9 g_t8 ⊢
  refine ⟨lz 2 rfl, fun t9 ht9 => ?_⟩
  have s_H10 := same_new ht9 (.tup [.int 0, .int 2])
  have g_t9 : upd H9 t9 (.tup [.int 0, .int 2]) t9 = some (.tup [.int 0, .int 2]) := upd_same
  generalize upd H9 t9 (.tup [.int 0, .int 2]) = H10 at s_H10 g_t9 ⊢
  refine ⟨_, rfl, _, rfl, hlog, _, rfl, lz 2 rfl, fun t10 ht10 => ?_⟩
  have s_H11 := same_new ht10 (.tup [.int a, .int 0])
  have g_t10 : upd H10 t10 (.tup [.int a, .int 0]) t10 = some (.tup [.int a, .int 0]) := upd_same
  generalize upd H10 t10 (.tup [.int a, .int 0]) = H11 at s_H11 g_t10 ⊢
  refine ⟨lz 8 rfl, fun l2 hl2 => ?_⟩
  have s_H12 := same_new hl2 (.lst [.ref t6, .int a, .non, .ref t7, .ref t8, .ref t9, .str (toString a : String), .ref t10])
  have g_l2 : upd H11 l2 (.lst [.ref t6, .int a, .non, .ref t7, .ref t8, .ref t9, .str (toString a : String), .ref t10]) l2 = some (.lst [.ref t6, .int a, .non, .ref t7, .ref t8, .ref t9, .str (toString a : String), .ref t10]) := upd_same
  generalize upd H11 l2 (.lst [.ref t6, .int a, .non, .ref t7, .ref t8, .ref t9, .str (toString a : String), .ref t10]) = H12 at s_H12 g_l2 ⊢
  have g_l1 := (s_H7.trans (s_H8.trans (s_H9.trans (s_H10.trans (s_H11.trans s_H12))))) _ _ g_l1
  refine ⟨l1, l2, _, _, rfl, rfl, g_l1, g_l2, lz 13 rfl, fun l3 hl3 => ?_⟩
  have s_H13 := same_new hl3 (.lst ([.ref t1, .ref t2, .ref t3, .ref t4, .ref t5] ++ [.ref t6, .int a, .non, .ref t7, .ref t8, .ref t9, .str (toString a : String), .ref t10]))
  have g_l3 : upd H12 l3 (.lst ([.ref t1, .ref t2, .ref t3, .ref t4, .ref t5] ++ [.ref t6, .int a, .non, .ref t7, .ref t8, .ref t9, .str (toString a : String), .ref t10])) l3 = some (.lst ([.ref t1, .ref t2, .ref t3, .ref t4, .ref t5] ++ [.ref t6, .int a, .non, .ref t7, .ref t8, .ref t9, .str (toString a : String), .ref t10])) := upd_same
  generalize upd H12 l3 (.lst ([.ref t1, .ref t2, .ref t3, .ref t4, .ref t5] ++ [.ref t6, .int a, .non, .ref t7, .ref t8, .ref t9, .str (toString a : String), .ref t10])) = H13 at s_H13 g_l3 ⊢
  refine ⟨_, rfl, lz 0 rfl, fun t11 ht11 => ?_⟩
  have s_H14 := same_new ht11 (.tup [])
  have g_t11 : upd H13 t11 (.tup []) t11 = some (.tup []) := upd_same
  generalize upd H13 t11 (.tup []) = H14 at s_H14 g_t11 ⊢
  intro t12 ht12
  have s_H15 := same_new ht12 (.dK [])
  have g_t12 : upd H14 t12 (.dK []) t12 = some (.dK []) := upd_same
  generalize upd H14 t12 (.dK []) = H15 at s_H15 g_t12 ⊢
  refine ⟨_, rfl, lz 2 rfl, fun t13 ht13 => ?_⟩
  have s_H16 := same_new ht13 (.tup [.int a, .non])
  have g_t13 : upd H15 t13 (.tup [.int a, .non]) t13 = some (.tup [.int a, .non]) := upd_same
  generalize upd H15 t13 (.tup [.int a, .non]) = H16 at s_H16 g_t13 ⊢
  refine ⟨lz 3 rfl, fun l4 hl4 => ?_⟩
  have s_H17 := same_new hl4 (.lst [.ref t11, .ref t12, .ref t13])
  have g_l4 : upd H16 l4 (.lst [.ref t11, .ref t12, .ref t13]) l4 = some (.lst [.ref t11, .ref t12, .ref t13]) := upd_same
  generalize upd H16 l4 (.lst [.ref t11, .ref t12, .ref t13]) = H17 at s_H17 g_l4 ⊢
  have g_l3 := (s_H14.trans (s_H15.trans (s_H16.trans s_H17))) _ _ g_l3
  refine ⟨l3, l4, _, _, rfl, rfl, g_l3, g_l4, lz 16 rfl, fun l5 hl5 => ?_⟩
  have s_H18 := same_new hl5 (.lst ([.ref t1, .ref t2, .ref t3, .ref t4, .ref t5] ++ [.ref t6, .int a, .non, .ref t7, .ref t8, .ref t9, .str (toString a : String), .ref t10] ++ [.ref t11, .ref t12, .ref t13]))
  have g_l5 : upd H17 l5 (.lst ([.ref t1, .ref t2, .ref t3, .ref t4, .ref t5] ++ [.ref t6, .int a, .non, .ref t7, .ref t8, .ref t9, .str (toString a : String), .ref t10] ++ [.ref t11, .ref t12, .ref t13])) l5 = some (.lst ([.ref t1, .ref t2, .ref t3, .ref t4, .ref t5] ++ [.ref t6, .int a, .non, .ref t7, .ref t8, .ref t9, .str (toString a : String), .ref t10] ++ [.ref t11, .ref t12, .ref t13])) := upd_same
  generalize upd H17 l5 (.lst ([.ref t1, .ref t2, .ref t3, .ref t4, .ref t5] ++ [.ref t6, .int a, .non, .ref t7, .ref t8, .ref t9, .str (toString a : String), .ref t10] ++ [.ref t11, .ref t12, .ref t13])) = H18 at s_H18 g_l5 ⊢
  have g_t1 := (s_H2.trans (s_H3.trans (s_H4.trans (s_H5.trans (s_H6.trans (s_H7.trans (s_H8.trans (s_H9.trans (s_H10.trans (s_H11.trans (s_H12.trans (s_H13.trans (s_H14.trans (s_H15.trans (s_H16.trans (s_H17.trans s_H18)))))))))))))))) _ _ g_t1
  have g_t2 := (s_H3.trans (s_H4.trans (s_H5.trans (s_H6.trans (s_H7.trans (s_H8.trans (s_H9.trans (s_H10.trans (s_H11.trans (s_H12.trans (s_H13.trans (s_H14.trans (s_H15.trans (s_H16.trans (s_H17.trans s_H18))))))))))))))) _ _ g_t2
  have g_t3 := (s_H4.trans (s_H5.trans (s_H6.trans (s_H7.trans (s_H8.trans (s_H9.trans (s_H10.trans (s_H11.trans (s_H12.trans (s_H13.trans (s_H14.trans (s_H15.trans (s_H16.trans (s_H17.trans s_H18)))))))))))))) _ _ g_t3
  have g_t4 := (s_H5.trans (s_H6.trans (s_H7.trans (s_H8.trans (s_H9.trans (s_H10.trans (s_H11.trans (s_H12.trans (s_H13.trans (s_H14.trans (s_H15.trans (s_H16.trans (s_H17.trans s_H18))))))))))))) _ _ g_t4
  have g_t5 := (s_H6.trans (s_H7.trans (s_H8.trans (s_H9.trans (s_H10.trans (s_H11.trans (s_H12.trans (s_H13.trans (s_H14.trans (s_H15.trans (s_H16.trans (s_H17.trans s_H18)))))))))))) _ _ g_t5
  have g_t6 := (s_H8.trans (s_H9.trans (s_H10.trans (s_H11.trans (s_H12.trans (s_H13.trans (s_H14.trans (s_H15.trans (s_H16.trans (s_H17.trans s_H18)))))))))) _ _ g_t6
  have g_t7 := (s_H9.trans (s_H10.trans (s_H11.trans (s_H12.trans (s_H13.trans (s_H14.trans (s_H15.trans (s_H16.trans (s_H17.trans s_H18))))))))) _ _ g_t7
  have g_t8 := (s_H10.trans (s_H11.trans (s_H12.trans (s_H13.trans (s_H14.trans (s_H15.trans (s_H16.trans (s_H17.trans s_H18)))))))) _ _ g_t8
  have g_t9 := (s_H11.trans (s_H12.trans (s_H13.trans (s_H14.trans (s_H15.trans (s_H16.trans (s_H17.trans s_H18))))))) _ _ g_t9
  have g_t10 := (s_H12.trans (s_H13.trans (s_H14.trans (s_H15.trans (s_H16.trans (s_H17.trans s_H18)))))) _ _ g_t10
  have g_t11 := (s_H15.trans (s_H16.trans (s_H17.trans s_H18))) _ _ g_t11
  have g_t12 := (s_H16.trans (s_H17.trans s_H18)) _ _ g_t12
  have g_t13 := (s_H17.trans s_H18) _ _ g_t13
  have sA : Same H H18 := s_H1.trans (s_H2.trans (s_H3.trans (s_H4.trans (s_H5.trans (s_H6.trans (s_H7.trans (s_H8.trans (s_H9.trans (s_H10.trans (s_H11.trans (s_H12.trans (s_H13.trans (s_H14.trans (s_H15.trans (s_H16.trans (s_H17.trans s_H18))))))))))))))))
  have s03 : Same H H3 := s_H1.trans (s_H2.trans s_H3)
  have s014 : Same H H14 := s_H1.trans (s_H2.trans (s_H3.trans (s_H4.trans (s_H5.trans (s_H6.trans (s_H7.trans (s_H8.trans (s_H9.trans (s_H10.trans (s_H11.trans (s_H12.trans (s_H13.trans s_H14))))))))))))
  have pen18 := pen.same sA
  refine ⟨_, rfl, _, rfl, p, _, _, rfl, pen18, by omega, by decide, by decide, fun r H19 r0 r1 pen19 x19 => ?_⟩
  have n4 : H t4 = none := none_of s03 ht4
  have n12 : H t12 = none := none_of s014 ht12
  have x0 : SameY p H H19 := (Same.y sA).trans x19
  have l5p : l5 ≠ p := by
    have s017 : Same H H17 := s_H1.trans (s_H2.trans (s_H3.trans (s_H4.trans (s_H5.trans (s_H6.trans (s_H7.trans (s_H8.trans (s_H9.trans (s_H10.trans (s_H11.trans (s_H12.trans (s_H13.trans (s_H14.trans (s_H15.trans (s_H16.trans s_H17)))))))))))))))
    exact pen.ne (none_of s017 hl5)
  have g19 := x19.all _ _ g_l5 l5p
  obtain ⟨jr, hjr⟩ : ∃ jr : Nat, r = (jr : Int) := ⟨r.toNat, by omega⟩
  subst hjr
  have hj : jr < ([.ref t1, .ref t2, .ref t3, .ref t4, .ref t5] ++ [.ref t6, .int a, .non, .ref t7, .ref t8, .ref t9, .str (toString a : String), .ref t10] ++ [.ref t11, .ref t12, .ref t13] : List V).length := by show jr < 16; omega
  refine ⟨l5, _, _, _, rfl, rfl, SqL.of g19, atI_nat (List.getElem?_eq_getElem hj), ?_⟩
  have hmem := List.getElem_mem hj
  generalize ([.ref t1, .ref t2, .ref t3, .ref t4, .ref t5] ++ [.ref t6, .int a, .non, .ref t7, .ref t8, .ref t9, .str (toString a : String), .ref t10] ++ [.ref t11, .ref t12, .ref t13] : List V)[jr] = u at hmem ⊢
  refine k u H19 x0 (pen19.mono (by omega)) fun L ⟨zs, hL⟩ hLp => ?_
  have pl : PL K H18 p L m := ⟨pen18, ⟨zs, sA _ _ hL⟩, hLp⟩
  have kI : ∀ x : Int, x.natAbs ≤ 1000000 → Ok4 20 0 (.int x) := fun x h => o_int (by omega)
  have k2 : ∀ {x y : PyData}, Ok4 20 0 x → Ok4 20 0 y → Ok4 100 1 (.tuple [x, y]) := fun hx hy => o_tup (n := 20) (e := 0) (by simpa using ⟨hx, hy⟩) (by simp) (by simp)
  have xx4 : XX p L t4 := ⟨pen.ne n4, fun z => by subst z; rw [hL] at n4; cases n4⟩
  have xx12 : XX p L t12 := ⟨pen.ne n12, fun z => by subst z; rw [hL] at n12; cases n12⟩
  have key : ∃ d, DX H18 p L u d ∧ Ok4 100 1 d := by
    simp only [List.cons_append, List.nil_append, List.mem_cons, List.not_mem_nil, or_false] at hmem
    rcases hmem with rfl | rfl | rfl | rfl | rfl | rfl | rfl | rfl | rfl | rfl | rfl | rfl | rfl | rfl | rfl | rfl
    · exact ⟨_, dx_tup pl g_t1 (.cons (.int _) (.cons (.int _) .nil)), k2 (kI _ (by omega)) (kI _ (by omega))⟩
    · exact ⟨_, dx_tup pl g_t2 (.cons (.int _) (.cons (.int _) .nil)), k2 (kI _ (by omega)) (kI _ (by omega))⟩
    · exact ⟨_, dx_tup pl g_t3 (.cons (.int _) (.cons (.int _) .nil)), k2 (kI _ (by omega)) (kI _ (by omega))⟩
    · exact ⟨_, dx_lst xx4 g_t4 (.cons (.int _) (.cons (.int _) .nil)), o_list (n := 20) (e := 0) (by simpa using ⟨kI _ (by omega), kI _ (by omega)⟩) (by simp)⟩
    · exact ⟨_, dx_tup pl g_t5 (.cons (.int _) .nil), o_tup (n := 20) (e := 0) (by simpa using kI _ (by omega)) (by simp) (by simp)⟩
    · exact ⟨_, dx_tup pl g_t6 (.cons (.int _) (.cons (.int _) (.cons (.int _) .nil))), o_tup (n := 20) (e := 0) (by simpa using ⟨kI _ (by omega), kI _ (by omega), kI _ (by decide)⟩) (by simp) (by simp)⟩
    · exact ⟨_, .int _, (kI _ (by omega)).mono (by decide) (by decide)⟩
    · exact ⟨_, .non, o_none.mono (by decide) (by decide)⟩
    · exact ⟨_, dx_tup pl g_t7 (.cons (.bl _) (.cons (.int _) .nil)), k2 (o_bool _) (kI _ (by omega))⟩
    · exact ⟨_, dx_tup pl g_t8 (.cons (.int _) (.cons (.bl _) .nil)), k2 (kI _ (by omega)) (o_bool _)⟩
    · exact ⟨_, dx_tup pl g_t9 (.cons (.int _) (.cons (.int _) .nil)), k2 (kI _ (by decide)) (kI _ (by decide))⟩
    · exact ⟨_, .str _, (o_text (by omega)).mono (by decide) (by decide)⟩
    · exact ⟨_, dx_tup pl g_t10 (.cons (.int _) (.cons (.int _) .nil)), k2 (kI _ (by omega)) (kI _ (by decide))⟩
    · exact ⟨_, dx_tup pl g_t11 .nil, o_tup (n := 20) (e := 0) (by simp) (by simp) (by simp)⟩
    · exact ⟨_, .dict (ps := []) (by rw [res_pos (S := XX p L) (a := t12) xx12]; exact g_t12) .nil .nil, o_dict (n := 20) (e := 0) (by simp) (by simp)⟩
    · exact ⟨_, dx_tup pl g_t13 (.cons (.int _) (.cons .non .nil)), k2 (kI _ (by omega)) o_none⟩
  obtain ⟨d, h1, h2⟩ := key
  exact ⟨d, h1.y x19, h2⟩
end
end My

set_option Elab.async false
set_option linter.all false
set_option maxRecDepth 100000
set_option maxHeartbeats 1000000
namespace My
open PySem L2 MA Srt PySem.Spec
/-- a square of small shares -/
structure Sq4 (n : Nat) (M : List (List Rat)) : Prop where
  len : M.length = n
  row : ∀ r ∈ M, r.length = n
  rng : ∀ r ∈ M, ∀ q ∈ r, q.num.natAbs ≤ 10000 ∧ q.den ≤ 10000
theorem o_dsh {q : Rat} (h : q.num.natAbs ≤ 10000 ∧ q.den ≤ 10000) : Ok4 100 1 (dsh q) := o_tup (n := 20) (e := 0) (by simpa using ⟨o_int (by omega), o_int (i := (q.den : Int)) (by omega)⟩) (by simp) (by simp)
theorem rx_row {K : PySem.W.Frag} {H : Hp} {p L : Addr} {m n : Nat} {vs : List V} {qs : List Rat} (hp : PL K H p L m) (h : Shs H vs qs) (b : ∀ q ∈ qs, q.num.natAbs ≤ 10000 ∧ q.den ≤ 10000) : RwX 100 1 H p L vs := fun v hv => by
  obtain ⟨i, hi, rfl⟩ := List.getElem_of_mem hv
  obtain ⟨q, hq, hs⟩ := h.at (List.getElem?_eq_getElem hi)
  exact ⟨_, dx_sh hp hs, o_dsh (b q (List.mem_of_getElem? hq))⟩
theorem rx_rows {K : PySem.W.Frag} {H : Hp} {p L : Addr} {m n : Nat} {vs : List V} {M : List (List Rat)} (hp : PL K H p L m) (h : Rows H vs M) (s4 : Sq4 n M) (n12 : n ≤ 12) : RwX 2000 2 H p L vs := fun v hv => by
  obtain ⟨i, hi, rfl⟩ := List.getElem_of_mem hv
  obtain ⟨r, hr, a, zs, e, ha, sh⟩ := h.at (List.getElem?_eq_getElem hi)
  have hrm := List.mem_of_getElem? hr
  have l := sh.length
  have rl := s4.row r hrm
  rw [e]
  exact (rx_row (n := n) hp sh (s4.rng r hrm)).tup hp ha (by omega) (by omega)
section
variable {P : Program} {w : World} {K : PySem.W.Frag} {mg : Str → Option Value} {base : Heap}
def spOdd (K : PySem.W.Frag) : Sp := fun vs H Q _ => ∃ (p : Addr) (v : V) (M : List (List Rat)) (n m : Nat), vs = [.ref p, v] ∧ MatAt H v M ∧ Sq4 n M ∧ 1 ≤ n ∧ n ≤ 12 ∧ PenZ K H p m ∧ m + 20 ≤ 100000 ∧ ∀ (u : V) (H' : Hp), SameY p H H' → PenZ K H' p (m + 5) → (∀ L, (∃ zs, H L = some (.lst zs)) → L ≠ p → ∃ d, DX H' p L u d ∧ Ok4 70000 6 d) → Q u H'
theorem ok_odd (T : Txt2 mg) (C_l_take : Cal P w K mg base "_law_take" ["_law_pen_here", "_law_many"] 1 (spTakeZ K)) (C_l_put : Cal P w K mg base "_law_put" ["_law_some", "_law_at", "_law_thing"] 1 spPut) (C_l_odd_share : Cal P w K mg base "_law_odd_share" ["_law_pen_here", "_law_part"] 2 (spOddS K)) (F : FunAt K mg "_law_odd" ["_law_pen_here", "_law_thing"] s_l_odd) : Cal P w K mg base "_law_odd" ["_law_pen_here", "_law_thing"] 3 (spOdd K) := by
  have S := sc_l_odd
  refine F.cal sc_l_odd (fun vs H Q E h => ?_) (fun f cdv A outer s H vs Q E hr h => ?_)
  · obtain ⟨p, v, M, n, m, rfl, _⟩ := h; rfl
  obtain ⟨p, v, M, n, m, rfl, ⟨t, xs, rfl, ht, rows⟩, s4, n1, n12, pen, hm, k⟩ := h
  have lx := rows.length
  have ml := s4.len
  refine ⟨_, (@pss_cons _ _ _ _ _ (@ps_set _ _ (2) _ _ _ _ (by exact S.nd) (by rfl) (by first | exact Or.inl rfl | exact Or.inr rfl) (@cc _ _ _ _ _ _ _ _ _ _ (by exact C_l_take) (by exact (hr.mono (by decide))) (@pa_consN _ _ _ _ _ (pv 0) (@pa_consN _ _ _ _ _ pe_int pa_nil (by first|rfl|decide|exact .inl rfl|exact .inr rfl|(intros; rfl))) (by first|rfl|decide|exact .inl rfl|exact .inr rfl|(intros; rfl))) (by first|rfl|decide|exact .inl rfl|exact .inr rfl|(intros; rfl)) (by first|rfl|decide|exact .inl rfl|exact .inr rfl|(intros; rfl)) (by first|rfl|decide|exact .inl rfl|exact .inr rfl|(intros; rfl)) (by first|rfl|decide|exact .inl rfl|exact .inr rfl|(intros; rfl))) (by first|rfl|decide|exact .inl rfl|exact .inr rfl|(intros; rfl)) (by first|rfl|decide|exact .inl rfl|exact .inr rfl|(intros; rfl))) (@pss_cons _ _ _ _ _ (@ps_set _ _ (3) _ _ _ _ (by exact S.nd) (by rfl) (by first | exact Or.inl rfl | exact Or.inr rfl) (@cc _ _ _ _ _ _ _ _ _ _ (by exact C_l_take) (by exact (hr.mono (by decide))) (@pa_consN _ _ _ _ _ (pv 0) (@pa_consN _ _ _ _ _ (@pe_callB _ _ _ _ _ _ _ _ _ (call_len_K K (by rfl)) (by rfl) (by exact T.z_len) (by exact bt_len) (@pa_consN _ _ _ _ _ (pv 1) pa_nil (by first|rfl|decide|exact .inl rfl|exact .inr rfl|(intros; rfl))) (by first|rfl|decide|exact .inl rfl|exact .inr rfl|(intros; rfl)) (by first|rfl|decide|exact .inl rfl|exact .inr rfl|(intros; rfl)) (by first|rfl|decide|exact .inl rfl|exact .inr rfl|(intros; rfl)) (by first|rfl|decide|exact .inl rfl|exact .inr rfl|(intros; rfl))) pa_nil (by first|rfl|decide|exact .inl rfl|exact .inr rfl|(intros; rfl))) (by first|rfl|decide|exact .inl rfl|exact .inr rfl|(intros; rfl))) (by first|rfl|decide|exact .inl rfl|exact .inr rfl|(intros; rfl)) (by first|rfl|decide|exact .inl rfl|exact .inr rfl|(intros; rfl)) (by first|rfl|decide|exact .inl rfl|exact .inr rfl|(intros; rfl)) (by first|rfl|decide|exact .inl rfl|exact .inr rfl|(intros; rfl))) (by first|rfl|decide|exact .inl rfl|exact .inr rfl|(intros; rfl)) (by first|rfl|decide|exact .inl rfl|exact .inr rfl|(intros; rfl))) (@pss_cons _ _ _ _ _ (@ps_set _ _ (4) _ _ _ _ (by exact S.nd) (by rfl) (by first | exact Or.inl rfl | exact Or.inr rfl) (@cc _ _ _ _ _ _ _ _ _ _ (by exact C_l_take) (by exact (hr.mono (by decide))) (@pa_consN _ _ _ _ _ (pv 0) (@pa_consN _ _ _ _ _ (@pe_callB _ _ _ _ _ _ _ _ _ (call_len_K K (by rfl)) (by rfl) (by exact T.z_len) (by exact bt_len) (@pa_consN _ _ _ _ _ (pv 1) pa_nil (by first|rfl|decide|exact .inl rfl|exact .inr rfl|(intros; rfl))) (by first|rfl|decide|exact .inl rfl|exact .inr rfl|(intros; rfl)) (by first|rfl|decide|exact .inl rfl|exact .inr rfl|(intros; rfl)) (by first|rfl|decide|exact .inl rfl|exact .inr rfl|(intros; rfl)) (by first|rfl|decide|exact .inl rfl|exact .inr rfl|(intros; rfl))) pa_nil (by first|rfl|decide|exact .inl rfl|exact .inr rfl|(intros; rfl))) (by first|rfl|decide|exact .inl rfl|exact .inr rfl|(intros; rfl))) (by first|rfl|decide|exact .inl rfl|exact .inr rfl|(intros; rfl)) (by first|rfl|decide|exact .inl rfl|exact .inr rfl|(intros; rfl)) (by first|rfl|decide|exact .inl rfl|exact .inr rfl|(intros; rfl)) (by first|rfl|decide|exact .inl rfl|exact .inr rfl|(intros; rfl))) (by first|rfl|decide|exact .inl rfl|exact .inr rfl|(intros; rfl)) (by first|rfl|decide|exact .inl rfl|exact .inr rfl|(intros; rfl))) (@pss_cons _ _ _ _ _ (@ps_set _ _ (5) _ _ _ _ (by exact S.nd) (by rfl) (by first | exact Or.inl rfl | exact Or.inr rfl) (@pe_ix _ _ _ _ _ _ _ ix_tup (pv 1) (pv 3) (by exact (fun _ _ => rfl))) (by first|rfl|decide|exact .inl rfl|exact .inr rfl|(intros; rfl)) (by first|rfl|decide|exact .inl rfl|exact .inr rfl|(intros; rfl))) (@pss_cons _ _ _ _ _ (@ps_if _ _ _ _ _ _ _ _ (@pt_cmpR _ _ _ _ _ _ _ _ op_lt (pv 2) pe_int (by exact (nomark _))) (@pss_one _ _ _ (@ps_ret _ _ _ _ (@cc _ _ _ _ _ _ _ _ _ _ (by exact C_l_put) (by exact (hr.mono (by decide))) (@pa_consN _ _ _ _ _ (pv 1) (@pa_consN _ _ _ _ _ (pv 3) (@pa_consN _ _ _ _ _ (@cc _ _ _ _ _ _ _ _ _ _ (by exact C_l_put) (by exact (hr.mono (by decide))) (@pa_consN _ _ _ _ _ (pv 5) (@pa_consN _ _ _ _ _ (pv 4) (@pa_consN _ _ _ _ _ (@cc _ _ _ _ _ _ _ _ _ _ (by exact C_l_odd_share) (by exact (hr.mono (by decide))) (@pa_consN _ _ _ _ _ (pv 0) (@pa_consN _ _ _ _ _ (@pe_ix _ _ _ _ _ _ _ ix_tup (pv 5) (pv 4) (by exact (fun _ _ => rfl))) pa_nil (by first|rfl|decide|exact .inl rfl|exact .inr rfl|(intros; rfl))) (by first|rfl|decide|exact .inl rfl|exact .inr rfl|(intros; rfl))) (by first|rfl|decide|exact .inl rfl|exact .inr rfl|(intros; rfl)) (by first|rfl|decide|exact .inl rfl|exact .inr rfl|(intros; rfl)) (by first|rfl|decide|exact .inl rfl|exact .inr rfl|(intros; rfl)) (by first|rfl|decide|exact .inl rfl|exact .inr rfl|(intros; rfl))) pa_nil (by first|rfl|decide|exact .inl rfl|exact .inr rfl|(intros; rfl))) (by first|rfl|decide|exact .inl rfl|exact .inr rfl|(intros; rfl))) (by first|rfl|decide|exact .inl rfl|exact .inr rfl|(intros; rfl))) (by first|rfl|decide|exact .inl rfl|exact .inr rfl|(intros; rfl)) (by first|rfl|decide|exact .inl rfl|exact .inr rfl|(intros; rfl)) (by first|rfl|decide|exact .inl rfl|exact .inr rfl|(intros; rfl)) (by first|rfl|decide|exact .inl rfl|exact .inr rfl|(intros; rfl))) pa_nil (by first|rfl|decide|exact .inl rfl|exact .inr rfl|(intros; rfl))) (by first|rfl|decide|exact .inl rfl|exact .inr rfl|(intros; rfl))) (by first|rfl|decide|exact .inl rfl|exact .inr rfl|(intros; rfl))) (by first|rfl|decide|exact .inl rfl|exact .inr rfl|(intros; rfl)) (by first|rfl|decide|exact .inl rfl|exact .inr rfl|(intros; rfl)) (by first|rfl|decide|exact .inl rfl|exact .inr rfl|(intros; rfl)) (by first|rfl|decide|exact .inl rfl|exact .inr rfl|(intros; rfl))))) pss_nil) (@pss_cons _ _ _ _ _ (@ps_if _ _ _ _ _ _ _ _ (@pt_cmpR _ _ _ _ _ _ _ _ op_eq (pv 2) pe_int (by exact (nomark _))) (@pss_cons _ _ _ _ _ (@ps_set _ _ (8) _ _ _ _ (by exact S.nd) (by rfl) (by first | exact Or.inl rfl | exact Or.inr rfl) (@pe_lst _ _ _ _ (@pa_consN _ _ _ _ _ (@pe_callTy _ _ _ _ _ _ _ _ _ call_list_of (by rfl) (by exact T.z_list) (by exact bt_list) (@pa_consN _ _ _ _ _ (pv 5) pa_nil (by first|rfl|decide|exact .inl rfl|exact .inr rfl|(intros; rfl))) (by first|rfl|decide|exact .inl rfl|exact .inr rfl|(intros; rfl)) (by first|rfl|decide|exact .inl rfl|exact .inr rfl|(intros; rfl)) (by first|rfl|decide|exact .inl rfl|exact .inr rfl|(intros; rfl)) (by first|rfl|decide|exact .inl rfl|exact .inr rfl|(intros; rfl))) (@pa_consN _ _ _ _ _ (@pe_slice _ _ _ _ _ _ _ _ _ _ sl_tupS (pv 5) po_none (@po_some _ _ _ (@pe_un _ _ _ _ _ _ un_neg pe_int))) (@pa_consN _ _ _ _ _ (@pe_op _ _ _ _ _ _ _ _ op_catS (pv 5) (@pe_tup _ _ _ _ _ (@pa_consN _ _ _ _ _ (@pe_tup _ _ _ _ _ (@pa_consN _ _ _ _ _ pe_int (@pa_consN _ _ _ _ _ pe_int pa_nil (by first|rfl|decide|exact .inl rfl|exact .inr rfl|(intros; rfl))) (by first|rfl|decide|exact .inl rfl|exact .inr rfl|(intros; rfl)))) pa_nil (by first|rfl|decide|exact .inl rfl|exact .inr rfl|(intros; rfl))))) (@pa_consN _ _ _ _ _ (@pe_revT _ _ _ _ _ _ _ _ (pv 5)) (@pa_consN _ _ _ _ _ pe_non (@pa_consN _ _ _ _ _ (@pe_ix _ _ _ _ _ _ _ ix_tup (pv 1) (pv 4) (by exact (fun _ _ => rfl))) (@pa_consN _ _ _ _ _ (@pe_tup _ _ _ _ _ pa_nil) (@pa_consN _ _ _ _ _ (@pe_ix _ _ _ _ _ _ _ ix_tup (pv 5) (pv 4) (by exact (fun _ _ => rfl))) pa_nil (by first|rfl|decide|exact .inl rfl|exact .inr rfl|(intros; rfl))) (by first|rfl|decide|exact .inl rfl|exact .inr rfl|(intros; rfl))) (by first|rfl|decide|exact .inl rfl|exact .inr rfl|(intros; rfl))) (by first|rfl|decide|exact .inl rfl|exact .inr rfl|(intros; rfl))) (by first|rfl|decide|exact .inl rfl|exact .inr rfl|(intros; rfl))) (by first|rfl|decide|exact .inl rfl|exact .inr rfl|(intros; rfl))) (by first|rfl|decide|exact .inl rfl|exact .inr rfl|(intros; rfl))) (by first|rfl|decide|exact .inl rfl|exact .inr rfl|(intros; rfl)))) (by first|rfl|decide|exact .inl rfl|exact .inr rfl|(intros; rfl)) (by first|rfl|decide|exact .inl rfl|exact .inr rfl|(intros; rfl))) (@pss_one _ _ _ (@ps_ret _ _ _ _ (@cc _ _ _ _ _ _ _ _ _ _ (by exact C_l_put) (by exact (hr.mono (by decide))) (@pa_consN _ _ _ _ _ (pv 1) (@pa_consN _ _ _ _ _ (pv 3) (@pa_consN _ _ _ _ _ (@pe_ix _ _ _ _ _ _ _ ix_list (pv 8) (@cc _ _ _ _ _ _ _ _ _ _ (by exact C_l_take) (by exact (hr.mono (by decide))) (@pa_consN _ _ _ _ _ (pv 0) (@pa_consN _ _ _ _ _ pe_int pa_nil (by first|rfl|decide|exact .inl rfl|exact .inr rfl|(intros; rfl))) (by first|rfl|decide|exact .inl rfl|exact .inr rfl|(intros; rfl))) (by first|rfl|decide|exact .inl rfl|exact .inr rfl|(intros; rfl)) (by first|rfl|decide|exact .inl rfl|exact .inr rfl|(intros; rfl)) (by first|rfl|decide|exact .inl rfl|exact .inr rfl|(intros; rfl)) (by first|rfl|decide|exact .inl rfl|exact .inr rfl|(intros; rfl))) (by exact (fun _ _ => rfl))) pa_nil (by first|rfl|decide|exact .inl rfl|exact .inr rfl|(intros; rfl))) (by first|rfl|decide|exact .inl rfl|exact .inr rfl|(intros; rfl))) (by first|rfl|decide|exact .inl rfl|exact .inr rfl|(intros; rfl))) (by first|rfl|decide|exact .inl rfl|exact .inr rfl|(intros; rfl)) (by first|rfl|decide|exact .inl rfl|exact .inr rfl|(intros; rfl)) (by first|rfl|decide|exact .inl rfl|exact .inr rfl|(intros; rfl)) (by first|rfl|decide|exact .inl rfl|exact .inr rfl|(intros; rfl)))))) pss_nil) (@pss_cons _ _ _ _ _ (@ps_set _ _ (6) _ _ _ _ (by exact S.nd) (by rfl) (by first | exact Or.inl rfl | exact Or.inr rfl) (@pe_callTy _ _ _ _ _ _ _ _ _ (call_tuple_K K (by rfl)) (by rfl) (by exact T.z_tuple) (by exact bt_tuple) (@pa_consN _ _ _ _ _ (@pe_compC _ _ _ _ _ _ _ _ _ _ _ _ _ (by rfl) (by exact (fun _ _ h => h)) (by decide +kernel) (by rfl) (by decide +kernel) (by exact hfr_of rfl) (by exact Sees.frees ["_law_k"] [("_law_thing", 1)] (fr_cons ⟨rfl, rfl⟩ fr_nil)) (@pi_range1 _ _ _ _ _ _ (by rfl) (by exact T.z_range) (@pa_consN _ _ _ _ _ (@pe_callB _ _ _ _ _ _ _ _ _ (call_len_K K (by rfl)) (by rfl) (by exact T.z_len) (by exact bt_len) (@pa_consN _ _ _ _ _ (pv 1) pa_nil (by first|rfl|decide|exact .inl rfl|exact .inr rfl|(intros; rfl))) (by first|rfl|decide|exact .inl rfl|exact .inr rfl|(intros; rfl)) (by first|rfl|decide|exact .inl rfl|exact .inr rfl|(intros; rfl)) (by first|rfl|decide|exact .inl rfl|exact .inr rfl|(intros; rfl)) (by first|rfl|decide|exact .inl rfl|exact .inr rfl|(intros; rfl))) pa_nil (by first|rfl|decide|exact .inl rfl|exact .inr rfl|(intros; rfl))) (by first|rfl|decide|exact .inl rfl|exact .inr rfl|(intros; rfl))) (fun _ _ _ _ _ => @pg_name _ _ (0) _ (by exact (show (["_law_k", "_law_thing"] : List Str).Nodup by decide +kernel)) (by rfl) (by first | exact Or.inl rfl | exact Or.inr rfl) (by first|rfl|decide|exact .inl rfl|exact .inr rfl|(intros; rfl))) (fun _ _ _ _ _ => pts_nil) (fun _ _ _ _ _ => (@pe_callTy _ _ _ _ _ _ _ _ _ (call_tuple_K K (by rfl)) (by rfl) (by exact T.z_tuple) (by exact bt_tuple) (@pa_consN _ _ _ _ _ (@pe_comp _ _ _ _ _ _ _ _ _ _ _ _ _ (by rfl) (by exact (fun _ _ h => h)) (by decide +kernel) (by rfl) (by decide +kernel) (by exact hfr_of rfl) (by exact Sees.frees ["_law_one"] [("_law_k", 0)] (fr_cons ⟨rfl, rfl⟩ fr_nil)) (@pi_tup_K _ _ _ _ K (by rfl) (pv 1)) (fun _ _ _ _ _ => @pg_name _ _ (0) _ (by exact (show (["_law_one", "_law_k"] : List Str).Nodup by decide +kernel)) (by rfl) (by first | exact Or.inl rfl | exact Or.inr rfl) (by first|rfl|decide|exact .inl rfl|exact .inr rfl|(intros; rfl))) (fun _ _ _ _ _ => pts_nil) (fun _ _ _ _ _ => (@pe_ix _ _ _ _ _ _ _ ix_tup0 (pv 0) (pv 1) (by exact (fun _ _ => rfl)))) (by first|rfl|decide|exact .inl rfl|exact .inr rfl|(intros; rfl))) pa_nil (by first|rfl|decide|exact .inl rfl|exact .inr rfl|(intros; rfl))) (by first|rfl|decide|exact .inl rfl|exact .inr rfl|(intros; rfl)) (by first|rfl|decide|exact .inl rfl|exact .inr rfl|(intros; rfl)) (by first|rfl|decide|exact .inl rfl|exact .inr rfl|(intros; rfl)) (by first|rfl|decide|exact .inl rfl|exact .inr rfl|(intros; rfl)))) (by first|rfl|decide|exact .inl rfl|exact .inr rfl|(intros; rfl))) pa_nil (by first|rfl|decide|exact .inl rfl|exact .inr rfl|(intros; rfl))) (by first|rfl|decide|exact .inl rfl|exact .inr rfl|(intros; rfl)) (by first|rfl|decide|exact .inl rfl|exact .inr rfl|(intros; rfl)) (by first|rfl|decide|exact .inl rfl|exact .inr rfl|(intros; rfl)) (by first|rfl|decide|exact .inl rfl|exact .inr rfl|(intros; rfl))) (by first|rfl|decide|exact .inl rfl|exact .inr rfl|(intros; rfl)) (by first|rfl|decide|exact .inl rfl|exact .inr rfl|(intros; rfl))) (@pss_cons _ _ _ _ _ (@ps_set _ _ (7) _ _ _ _ (by exact S.nd) (by rfl) (by first | exact Or.inl rfl | exact Or.inr rfl) (@pe_lst _ _ _ _ (@pa_consN _ _ _ _ _ (@pe_callTy _ _ _ _ _ _ _ _ _ call_list_of (by rfl) (by exact T.z_list) (by exact bt_list) (@pa_consN _ _ _ _ _ (pv 1) pa_nil (by first|rfl|decide|exact .inl rfl|exact .inr rfl|(intros; rfl))) (by first|rfl|decide|exact .inl rfl|exact .inr rfl|(intros; rfl)) (by first|rfl|decide|exact .inl rfl|exact .inr rfl|(intros; rfl)) (by first|rfl|decide|exact .inl rfl|exact .inr rfl|(intros; rfl)) (by first|rfl|decide|exact .inl rfl|exact .inr rfl|(intros; rfl))) (@pa_consN _ _ _ _ _ (@pe_op _ _ _ _ _ _ _ _ op_catS (@pe_slice _ _ _ _ _ _ _ _ _ _ sl_tupS (pv 1) po_none (@po_some _ _ _ (pv 3))) (@pe_slice _ _ _ _ _ _ _ _ _ _ sl_tupS (pv 1) (@po_some _ _ _ (@pe_op _ _ _ _ _ _ _ _ op_add (pv 3) pe_int)) po_none)) (@pa_consN _ _ _ _ _ (@pe_op _ _ _ _ _ _ _ _ op_catS (pv 1) (@pe_tup _ _ _ _ _ (@pa_consN _ _ _ _ _ (pv 5) pa_nil (by first|rfl|decide|exact .inl rfl|exact .inr rfl|(intros; rfl))))) (@pa_consN _ _ _ _ _ (@pe_revT _ _ _ _ _ _ _ _ (pv 1)) (@pa_consN _ _ _ _ _ (pv 6) (@pa_consN _ _ _ _ _ (@pe_lst _ _ _ _ pa_nil) (@pa_consN _ _ _ _ _ (@pe_tup _ _ _ _ _ pa_nil) (@pa_consN _ _ _ _ _ pe_non (@pa_consN _ _ _ _ _ pe_str (@pa_consN _ _ _ _ _ pe_int pa_nil (by first|rfl|decide|exact .inl rfl|exact .inr rfl|(intros; rfl))) (by first|rfl|decide|exact .inl rfl|exact .inr rfl|(intros; rfl))) (by first|rfl|decide|exact .inl rfl|exact .inr rfl|(intros; rfl))) (by first|rfl|decide|exact .inl rfl|exact .inr rfl|(intros; rfl))) (by first|rfl|decide|exact .inl rfl|exact .inr rfl|(intros; rfl))) (by first|rfl|decide|exact .inl rfl|exact .inr rfl|(intros; rfl))) (by first|rfl|decide|exact .inl rfl|exact .inr rfl|(intros; rfl))) (by first|rfl|decide|exact .inl rfl|exact .inr rfl|(intros; rfl))) (by first|rfl|decide|exact .inl rfl|exact .inr rfl|(intros; rfl))) (by first|rfl|decide|exact .inl rfl|exact .inr rfl|(intros; rfl)))) (by first|rfl|decide|exact .inl rfl|exact .inr rfl|(intros; rfl)) (by first|rfl|decide|exact .inl rfl|exact .inr rfl|(intros; rfl))) (@pss_one _ _ _ (@ps_ret _ _ _ _ (@pe_ix _ _ _ _ _ _ _ ix_list (@pe_op _ _ _ _ _ _ _ _ op_cat (pv 7) (@pe_lst _ _ _ _ (@pa_consN _ _ _ _ _ (@pe_disp _ _ _ _ _ (@pps_cons _ _ _ _ _ _ _ _ _ pe_int (pv 1) pps_nil) (by rfl) (by rfl) (by simp) (by decide)) (@pa_consN _ _ _ _ _ (@pe_tup _ _ _ _ _ (@pa_consN _ _ _ _ _ (pv 1) pa_nil (by first|rfl|decide|exact .inl rfl|exact .inr rfl|(intros; rfl)))) (@pa_consN _ _ _ _ _ (@pe_op _ _ _ _ _ _ _ _ op_catS (@pe_slice _ _ _ _ _ _ _ _ _ _ sl_tupS (pv 1) (@po_some _ _ _ (pv 3)) po_none) (@pe_slice _ _ _ _ _ _ _ _ _ _ sl_tupS (pv 1) po_none (@po_some _ _ _ (pv 3)))) (@pa_consN _ _ _ _ _ pe_bl pa_nil (by first|rfl|decide|exact .inl rfl|exact .inr rfl|(intros; rfl))) (by first|rfl|decide|exact .inl rfl|exact .inr rfl|(intros; rfl))) (by first|rfl|decide|exact .inl rfl|exact .inr rfl|(intros; rfl))) (by first|rfl|decide|exact .inl rfl|exact .inr rfl|(intros; rfl))))) (@cc _ _ _ _ _ _ _ _ _ _ (by exact C_l_take) (by exact (hr.mono (by decide))) (@pa_consN _ _ _ _ _ (pv 0) (@pa_consN _ _ _ _ _ pe_int pa_nil (by first|rfl|decide|exact .inl rfl|exact .inr rfl|(intros; rfl))) (by first|rfl|decide|exact .inl rfl|exact .inr rfl|(intros; rfl))) (by first|rfl|decide|exact .inl rfl|exact .inr rfl|(intros; rfl)) (by first|rfl|decide|exact .inl rfl|exact .inr rfl|(intros; rfl)) (by first|rfl|decide|exact .inl rfl|exact .inr rfl|(intros; rfl)) (by first|rfl|decide|exact .inl rfl|exact .inr rfl|(intros; rfl))) (by exact (fun _ _ => rfl))))))))))))), ?_⟩
  refine ⟨_, rfl, p, _, _, rfl, pen, by omega, by decide, by decide, fun wy H1 w0 w1 pen1 x1 => ?_⟩
  refine ⟨_, rfl, _, rfl, t, _, rfl, .inr (SqT.of (pen.keepT x1 ht)), p, _, _, rfl, pen1, by omega, by omega, by omega, fun at' H2 a0 a1 pen2 x2 => ?_⟩
  have x02 := x1.trans x2
  refine ⟨_, rfl, _, rfl, t, _, rfl, .inr (SqT.of (pen.keepT x02 ht)), p, _, _, rfl, pen2, by omega, by omega, by omega, fun sp H3 s0 s1 pen3 x3 => ?_⟩
  have x03 := x02.trans x3
  obtain ⟨ia, rfl⟩ : ∃ ia : Nat, at' = (ia : Int) := ⟨at'.toNat, by omega⟩
  obtain ⟨is, rfl⟩ : ∃ is : Nat, sp = (is : Int) := ⟨sp.toNat, by omega⟩
  have tk3 : ∀ b ys, H b = some (.tup ys) → H3 b = some (.tup ys) := fun b ys e => pen.keepT x03 e
  have ht3 := tk3 _ _ ht
  have rows3 : Rows H3 xs M := Paired.mapP rows fun _ _ ⟨a, zs, e, h1, h2⟩ => ⟨a, zs, e, tk3 _ _ h1, Paired.mapP h2 fun _ _ ⟨b, e, hb⟩ => ⟨b, e, tk3 _ _ hb⟩⟩
  obtain ⟨x, hx⟩ : ∃ x, xs[ia]? = some x := ⟨_, List.getElem?_eq_getElem (by omega)⟩
  obtain ⟨r, hr', ra, zs, rfl, hra, sh⟩ := rows3.at hx
  have hrm := List.mem_of_getElem? hr'
  have rl := s4.row r hrm
  have lz' := sh.length
  obtain ⟨y, hy⟩ : ∃ y, zs[is]? = some y := ⟨_, List.getElem?_eq_getElem (by omega)⟩
  obtain ⟨q, hq, hyq⟩ := sh.at hy
  have bq := s4.rng r hrm q (List.mem_of_getElem? hq)
  refine ⟨_, rfl, _, rfl, t, _, _, _, rfl, rfl, SqT.of ht3, atI_nat hx, ?_⟩
  have pl3 : ∀ L, (∃ zs, H L = some (.lst zs)) → L ≠ p → PL K H3 p L (m + 3) := fun L hL ne => ⟨pen3.mono (by omega), let ⟨zs, e⟩ := hL; ⟨zs, x03.all _ _ e ne⟩, ne⟩
  have fin : ∀ (u : V) (H' : Hp), SameY p H3 H' → PenZ K H' p (m + 5) → (∀ L, (∃ zs, H L = some (.lst zs)) → L ≠ p → ∃ d, DX H' p L u d ∧ Ok4 70000 6 d) → Q u H' := fun u H' x' p' h => k u H' (x03.trans x') p' h
  -- less than 2
  refine ⟨_, rfl, _, _, rfl, rfl, _, rfl, ?_⟩
  refine ite2 (fun c => ?_) (fun c2 => ?_)
  · refine ⟨_, rfl, _, rfl, _, rfl, _, rfl, _, rfl, _, rfl, _, rfl, ra, _, _, _, rfl, rfl, SqT.of hra, atI_nat hy, p, y, q.num, q.den, _, rfl, hyq, bq.1, by have := bq.2; omega, pen3, by omega, fun u H4 x4 pen4 dx => ?_⟩
    refine ⟨ra, is, u, zs, rfl, pen3.keepT x4 hra, by omega, fun t1 H5 s5 h5 => ?_⟩
    refine ⟨t, ia, .ref t1, xs, rfl, s5 _ _ (pen3.keepT x4 ht3), by omega, fun t2 H6 s6 h6 => ?_⟩
    have y6 := x4.trans (Same.y (s5.trans s6))
    refine fin _ H6 y6 ((pen4.same (s5.trans s6)).mono (by omega)) fun L hL ne => ?_
    have pl := pl3 L hL ne
    obtain ⟨d, dd, okd⟩ := dx L (let ⟨zs, e⟩ := hL; ⟨zs, x03.all _ _ e ne⟩) ne
    have pl4 := pl.y x4 (pen4.mono (show m + 3 + 1 ≤ m + 5 by omega))
    have pl5 := pl4.same s5
    have pl6 := pl5.same s6
    have rz := ((rx_row (n := n) pl sh (s4.rng r hrm)).y x4).s s5
    have c1 := cutV_length zs none (some (is : Int))
    have c2 := cutV_length zs (some ((is : Int) + 1)) none
    have row' := ((rz.cut none (some (is : Int))).app (RwX.one (dd.s s5) okd)).app (rz.cut (some ((is : Int) + 1)) none)
    obtain ⟨d1, e1, o1⟩ := row'.tup pl5 h5 (by simp; omega) (M := 2600) (by simp only [List.length_append, List.length_cons, List.length_nil]; omega)
    have rx := (((rx_rows pl rows3 s4 n12).y x4).s (s5.trans s6))
    have c3 := cutV_length xs none (some (ia : Int))
    have c4 := cutV_length xs (some ((ia : Int) + 1)) none
    have rxm : RwX 2600 2 H6 p L xs := fun v hv => let ⟨d, h1, h2⟩ := rx v hv; ⟨d, h1, h2.mono (by decide) (by decide)⟩
    have all' := ((rxm.cut none (some (ia : Int))).app (RwX.one (e1.s s6) o1)).app (rxm.cut (some ((ia : Int) + 1)) none)
    obtain ⟨d2, e2, o2⟩ := all'.tup pl6 h6 (by simp; omega) (M := 70000) (by simp only [List.length_append, List.length_cons, List.length_nil]; omega)
    exact ⟨d2, e2, o2.mono (by decide) (by decide)⟩
  -- 2
  refine ⟨_, rfl, rfl, _, rfl, ?_⟩
  refine ite2 (fun c => ?_) (fun c3 => ?_)
  · refine ⟨_, rfl, ra, _, rfl, .inr (SqT.of hra), fun e1 he1 => ?_⟩
    have s_H4 := same_new he1 (.lst zs)
    have g_e1 : upd H3 e1 (.lst zs) e1 = some (.lst zs) := upd_same
    generalize upd H3 e1 (.lst zs) = H4 at s_H4 g_e1 ⊢
    have hra := (s_H4) _ _ hra
    have ht3 := (s_H4) _ _ ht3
    refine ⟨_, rfl, _, rfl, _, rfl, ra, zs, rfl, hra, fun e2 H5 s5 h2 => ?_⟩
    have hra := (s5) _ _ hra
    refine ⟨_, rfl, lz 2 rfl, fun z1 hz1 => ?_⟩
    have s_H6 := same_new hz1 (.tup [.int 0, .int 1])
    have g_z1 : upd H5 z1 (.tup [.int 0, .int 1]) z1 = some (.tup [.int 0, .int 1]) := upd_same
    generalize upd H5 z1 (.tup [.int 0, .int 1]) = H6 at s_H6 g_z1 ⊢
    refine ⟨lz 1 rfl, fun z2 hz2 => ?_⟩
    have s_H7 := same_new hz2 (.tup [.ref z1])
    have g_z2 : upd H6 z2 (.tup [.ref z1]) z2 = some (.tup [.ref z1]) := upd_same
    generalize upd H6 z2 (.tup [.ref z1]) = H7 at s_H7 g_z2 ⊢
    have hra := (s_H6.trans s_H7) _ _ hra
    have g_z1 := (s_H7) _ _ g_z1
    refine ⟨ra, z2, _, _, rfl, rfl, hra, g_z2, by simp; omega, fun e3 H8 s8 h3 => ?_⟩
    have hra := (s8) _ _ hra
    have g_z1 := (s8) _ _ g_z1
    refine ⟨_, rfl, ra, zs, rfl, hra, fun e4 he4 => ?_⟩
    have s_H9 := same_new he4 (.tup zs.reverse)
    have g_e4 : upd H8 e4 (.tup zs.reverse) e4 = some (.tup zs.reverse) := upd_same
    generalize upd H8 e4 (.tup zs.reverse) = H9 at s_H9 g_e4 ⊢
    have ht3 := (s5.trans (s_H6.trans (s_H7.trans (s8.trans s_H9)))) _ _ ht3
    have hra := (s_H9) _ _ hra
    obtain ⟨x2, hx2⟩ : ∃ x, xs[is]? = some x := ⟨_, List.getElem?_eq_getElem (by omega)⟩
    refine ⟨_, rfl, _, rfl, t, _, _, _, rfl, rfl, SqT.of ht3, atI_nat hx2, lz 0 rfl, fun e5 he5 => ?_⟩
    have s_H10 := same_new he5 (.tup [])
    have g_e5 : upd H9 e5 (.tup []) e5 = some (.tup []) := upd_same
    generalize upd H9 e5 (.tup []) = H10 at s_H10 g_e5 ⊢
    have hra := (s_H10) _ _ hra
    have ht3 := (s_H10) _ _ ht3
    refine ⟨_, rfl, _, rfl, ra, _, _, _, rfl, rfl, SqT.of hra, atI_nat hy, lz 8 rfl, fun l1 hl1 => ?_⟩
    have s_H11 := same_new hl1 (.lst [.ref e1, .ref e2, .ref e3, .ref e4, .non, x2, .ref e5, y])
    have g_l1 : upd H10 l1 (.lst [.ref e1, .ref e2, .ref e3, .ref e4, .non, x2, .ref e5, y]) l1 = some (.lst [.ref e1, .ref e2, .ref e3, .ref e4, .non, x2, .ref e5, y]) := upd_same
    generalize upd H10 l1 (.lst [.ref e1, .ref e2, .ref e3, .ref e4, .non, x2, .ref e5, y]) = H11 at s_H11 g_l1 ⊢
    have g_e1 := (s5.trans (s_H6.trans (s_H7.trans (s8.trans (s_H9.trans (s_H10.trans s_H11)))))) _ _ g_e1
    have g_e4 := (s_H10.trans s_H11) _ _ g_e4
    have g_e5 := (s_H11) _ _ g_e5
    have g_z1 := (s_H9.trans (s_H10.trans s_H11)) _ _ g_z1
    have ht3 := (s_H11) _ _ ht3
    have s511 : Same H5 H11 := s_H6.trans (s_H7.trans (s8.trans (s_H9.trans (s_H10.trans s_H11))))
    have s811 : Same H8 H11 := s_H9.trans (s_H10.trans s_H11)
    have sA : Same H3 H11 := s_H4.trans (s5.trans (s_H6.trans (s_H7.trans (s8.trans (s_H9.trans (s_H10.trans s_H11))))))
    have sB : Same H3 H10 := s_H4.trans (s5.trans (s_H6.trans (s_H7.trans (s8.trans (s_H9.trans s_H10)))))
    have pen11 := pen3.same sA
    have l1p : l1 ≠ p := pen3.ne (none_of sB hl1)
    have ne1 : H3 e1 = none := he1
    refine ⟨_, rfl, _, rfl, _, rfl, _, rfl, p, _, _, rfl, pen11, by omega, by decide, by decide, fun r8 H12 r80 r81 pen12 x12 => ?_⟩
    have hj : r8.toNat < ([.ref e1, .ref e2, .ref e3, .ref e4, .non, x2, .ref e5, y] : List V).length := by show r8.toNat < 8; omega
    have hat := atI_nat (List.getElem?_eq_getElem hj)
    rw [show ((r8.toNat : Nat) : Int) = r8 by omega] at hat
    have hmem := List.getElem_mem hj
    refine ⟨l1, _, _, _, rfl, rfl, SqL.of (x12.all _ _ g_l1 l1p), hat, ?_⟩
    generalize ([.ref e1, .ref e2, .ref e3, .ref e4, .non, x2, .ref e5, y] : List V)[r8.toNat] = u at hmem ⊢
    refine ⟨t, ia, u, xs, rfl, pen11.keepT x12 ht3, by omega, fun t2 H13 s13 h13 => ?_⟩
    have y13 : SameY p H3 H13 := (Same.y sA).trans (x12.trans (Same.y s13))
    refine fin _ H13 y13 ((pen12.same s13).mono (by omega)) fun L hL ne => ?_
    have pl := pl3 L hL ne
    have pl11 := pl.same sA
    have pl13 := (pl11.y x12 (pen12.mono (show m + 3 + 1 ≤ m + 5 by omega))).same s13
    have rz := (rx_row (n := n) pl sh (s4.rng r hrm)).s sA
    have rx := (rx_rows pl rows3 s4 n12).s sA
    have xx1 : XX p L e1 := pl.neN ne1
    have key : ∃ d, DX H11 p L u d ∧ Ok4 2600 2 d := by
      simp only [List.mem_cons, List.not_mem_nil, or_false] at hmem
      rcases hmem with rfl | rfl | rfl | rfl | rfl | rfl | rfl | rfl
      · exact rz.lst xx1 g_e1 (by omega)
      · have c1 := cutV_length zs none (some (-1))
        exact (rz.cut none (some (-1))).tup pl11 (s511 _ _ h2) (by omega) (by omega)
      · have o1 : RwX 100 1 H11 p L [.ref z1] := RwX.one (dx_tup pl11 g_z1 (.cons (.int _) (.cons (.int _) .nil))) (o_tup (n := 20) (e := 0) (by simpa using ⟨o_int (by decide), o_int (by decide)⟩) (by simp) (by simp))
        exact (rz.app o1).tup pl11 (s811 _ _ h3) (by simp; omega) (by simp; omega)
      · exact (rz.sub fun v hv => List.mem_reverse.mp hv).tup pl11 g_e4 (by simp; omega) (by simp; omega)
      · exact ⟨_, .non, o_none.mono (by decide) (by decide)⟩
      · obtain ⟨d, h1, h2⟩ := rx _ (List.mem_of_getElem? hx2)
        exact ⟨d, h1, h2.mono (by decide) (by decide)⟩
      · exact ⟨_, dx_tup pl11 g_e5 .nil, (o_tup (n := 20) (e := 0) (m := 100) (by simp) (by simp) (by simp)).mono (by decide) (by decide)⟩
      · obtain ⟨d, h1, h2⟩ := rz _ (List.mem_of_getElem? hy)
        exact ⟨d, h1, h2.mono (by decide) (by decide)⟩
    obtain ⟨d1, e1', o1⟩ := key
    have rxm : RwX 2600 2 H13 p L xs := fun v hv => let ⟨d, h1, h2⟩ := (rx.y x12).s s13 v hv; ⟨d, h1, h2.mono (by decide) (by decide)⟩
    have c3 := cutV_length xs none (some (ia : Int))
    have c4 := cutV_length xs (some ((ia : Int) + 1)) none
    have all' := ((rxm.cut none (some (ia : Int))).app (RwX.one ((e1'.y x12).s s13) o1)).app (rxm.cut (some ((ia : Int) + 1)) none)
    obtain ⟨d2, e2', o2⟩ := all'.tup pl13 h13 (by simp; omega) (M := 70000) (by simp only [List.length_append, List.length_cons, List.length_nil]; omega)
    exact ⟨d2, e2', o2.mono (by decide) (by decide)⟩
  -- the others
  refine ⟨_, rfl, t, _, rfl, .inr (SqT.of ht3), _, rfl, by omega, by omega, comp_Y (yields_rng (lo := 0) (n := ((xs.length : Nat) : Int).toNat)) (fun acc i ys σ' H' => (∃ o0, σ' = [o0, some (.ref t)]) ∧ Same H3 H' ∧ ys.length ≤ i ∧ ∀ y ∈ ys, ∃ a ws, y = .ref a ∧ H' a = some (.tup ws) ∧ ws.length ≤ 12 ∧ ∀ w ∈ ws, ∃ q, ShAt H3 w q ∧ q.num.natAbs ≤ 10000 ∧ q.den ≤ 10000) (by omega) ?_ (fun _ _ _ _ _ _ _ => trivial) ?_ ?_⟩
  · exact fun acc hacc => ⟨⟨_, rfl⟩, same_new hacc _, by simp, fun y hy => by simp at hy⟩
  · rintro acc i ys σ' X4 x4 H4 hacc hi hlen ⟨⟨o0, rfl⟩, s34, yl, hys⟩ hH4 ⟨rfl, rfl⟩ Q1 Q2 h1 h2
    refine gN_ (tT_ (iteT ?_))
    have ht4 := s34 _ _ ht3
    refine ⟨_, rfl, t, rfl, ⟨_, SqT.of ht4⟩, comp_Y (yields_tup (xs := xs)) (fun acc2 j ws σ' H' => (∃ o0, σ' = [o0, some (.int (0 + (i : Int)))]) ∧ Same H4 H' ∧ ws.length ≤ j ∧ ∀ w ∈ ws, ∃ q, ShAt H3 w q ∧ q.num.natAbs ≤ 10000 ∧ q.den ≤ 10000) (by omega) ?_ (fun _ _ _ _ _ _ h => h.2.1 _ _ ht4) ?_ ?_⟩
    · exact fun acc2 hacc2 => ⟨⟨_, rfl⟩, same_new hacc2 _, by simp, fun w hw => by simp at hw⟩
    · rintro acc2 j ws σ' X5 x5 H5 hacc2 hj hlen2 ⟨⟨o0, rfl⟩, s45, wl, hws⟩ hH5 ⟨rfl, hx5⟩ Q3 Q4 h3 h4
      obtain ⟨r5, hr5, a5, z5, rfl, ha5, sh5⟩ := rows3.at hx5
      have hrm5 := List.mem_of_getElem? hr5
      have rl5 := s4.row r5 hrm5
      have lz5 := sh5.length
      obtain ⟨y5, hy5⟩ : ∃ y, z5[i]? = some y := ⟨_, List.getElem?_eq_getElem (by omega)⟩
      obtain ⟨q5, hq5, hyq5⟩ := sh5.at hy5
      refine gN_ (tT_ (iteT ?_))
      refine ⟨_, rfl, _, rfl, a5, _, _, _, rfl, rfl, (s34.trans s45) _ _ ha5, (by show atI z5 (0 + (i : Int)) = _; rw [Int.zero_add]; exact atI_nat hy5), ?_⟩
      refine h3 _ _ H5 hH5 ⟨⟨_, rfl⟩, same_updN hacc2 s45 _, by simp; omega, fun w hw => ?_⟩
      rcases List.mem_append.mp hw with z | z
      · exact hws w z
      · rw [List.mem_singleton.mp z]
        exact ⟨q5, hyq5, s4.rng r5 hrm5 q5 (List.mem_of_getElem? hq5)⟩
    · rintro acc2 ws σ' H5 hacc2 ⟨⟨o0, rfl⟩, s45, wl, hws⟩ hH5 hlen2
      refine ⟨acc2, ws, rfl, .inl ⟨SqL.of hH5, fun tt htt => ?_⟩⟩
      have s5 := same_new htt (.tup ws)
      have htt5 : upd H5 tt (.tup ws) tt = some (.tup ws) := upd_same
      generalize upd H5 tt (.tup ws) = H6 at s5 htt5 ⊢
      have s46 := s45.trans s5
      have k6 : ∀ b us, H6 b = some (.tup us) → upd H6 acc (.lst (ys ++ [.ref tt])) b = some (.tup us) := fun b us e => by rw [upd_ne (ne_of e (s46 _ _ hH4) (by intro z; cases z))]; exact e
      refine h1 _ _ H6 (s46 _ _ hH4) ⟨⟨_, rfl⟩, same_updN hacc (s34.trans s46) _, by simp; omega, fun y hy => ?_⟩
      rcases List.mem_append.mp hy with z | z
      · obtain ⟨a, us, e, ha, h5, h6⟩ := hys y z
        exact ⟨a, us, e, k6 _ _ (s46 _ _ ha), h5, h6⟩
      · exact ⟨tt, ws, List.mem_singleton.mp z, k6 _ _ htt5, by omega, hws⟩
  rintro acc ys σ' H4 hacc ⟨_, s34, yl, hys⟩ hH4 hlen
  refine ⟨acc, ys, rfl, .inl ⟨SqL.of hH4, fun tu htu => ?_⟩⟩
  have s_H5 := same_new htu (.tup ys)
  have g_tu : upd H4 tu (.tup ys) tu = some (.tup ys) := upd_same
  generalize upd H4 tu (.tup ys) = H5 at s_H5 g_tu ⊢
  have ht3 := (s34.trans s_H5) _ _ ht3
  have hra := (s34.trans s_H5) _ _ hra
  refine ⟨_, rfl, t, _, rfl, .inr (SqT.of ht3), fun e1 he1 => ?_⟩
  have s_H6 := same_new he1 (.lst xs)
  have g_e1 : upd H5 e1 (.lst xs) e1 = some (.lst xs) := upd_same
  generalize upd H5 e1 (.lst xs) = H6 at s_H6 g_e1 ⊢
  have ht3 := (s_H6) _ _ ht3
  refine ⟨_, rfl, _, rfl, _, rfl, t, xs, rfl, ht3, fun c1 H7 s7 hc1 => ?_⟩
  have ht3 := (s7) _ _ ht3
  refine ⟨_, rfl, _, rfl, _, _, rfl, rfl, _, rfl, t, xs, rfl, ht3, fun c2' H8 s8 hc2 => ?_⟩
  have ht3 := (s8) _ _ ht3
  have hc1 := (s8) _ _ hc1
  have hra := (s_H6.trans (s7.trans s8)) _ _ hra
  have k1 := cutV_length xs none (some (ia : Int))
  have k2 := cutV_length xs (some ((ia : Int) + 1)) none
  refine ⟨c1, c2', _, _, rfl, rfl, hc1, hc2, by omega, fun e2 H9 s9 h2 => ?_⟩
  have ht3 := (s9) _ _ ht3
  have hra := (s9) _ _ hra
  refine ⟨_, rfl, _, rfl, lz 1 rfl, fun z1 hz1 => ?_⟩
  have s_H10 := same_new hz1 (.tup [.ref ra])
  have g_z1 : upd H9 z1 (.tup [.ref ra]) z1 = some (.tup [.ref ra]) := upd_same
  generalize upd H9 z1 (.tup [.ref ra]) = H10 at s_H10 g_z1 ⊢
  have ht3 := (s_H10) _ _ ht3
  refine ⟨t, z1, _, _, rfl, rfl, ht3, g_z1, by simp; omega, fun e3 H11 s11 h3 => ?_⟩
  have ht3 := (s11) _ _ ht3
  refine ⟨_, rfl, t, xs, rfl, ht3, fun e4 he4 => ?_⟩
  have s_H12 := same_new he4 (.tup xs.reverse)
  have g_e4 : upd H11 e4 (.tup xs.reverse) e4 = some (.tup xs.reverse) := upd_same
  generalize upd H11 e4 (.tup xs.reverse) = H12 at s_H12 g_e4 ⊢
  refine ⟨_, rfl, lz 0 rfl, fun e5 he5 => ?_⟩
  have s_H13 := same_new he5 (.lst [])
  have g_e5 : upd H12 e5 (.lst []) e5 = some (.lst []) := upd_same
  generalize upd H12 e5 (.lst []) = H13 at s_H13 g_e5 ⊢
  refine ⟨lz 0 rfl, fun e6 he6 => ?_⟩
  have s_H14 := same_new he6 (.tup [])
  have g_e6 : upd H13 e6 (.tup []) e6 = some (.tup []) := upd_same
  generalize upd H13 e6 (.tup []) = H14 at s_H14 g_e6 ⊢
  refine ⟨lz 10 rfl, fun l1 hl1 => ?_⟩
  have s_H15 := same_new hl1 (.lst [.ref e1, .ref e2, .ref e3, .ref e4, .ref tu, .ref e5, .ref e6, .non, .str "pairing", .int 7])
  have g_l1 : upd H14 l1 (.lst [.ref e1, .ref e2, .ref e3, .ref e4, .ref tu, .ref e5, .ref e6, .non, .str "pairing", .int 7]) l1 = some (.lst [.ref e1, .ref e2, .ref e3, .ref e4, .ref tu, .ref e5, .ref e6, .non, .str "pairing", .int 7]) := upd_same
  generalize upd H14 l1 (.lst [.ref e1, .ref e2, .ref e3, .ref e4, .ref tu, .ref e5, .ref e6, .non, .str "pairing", .int 7]) = H15 at s_H15 g_l1 ⊢
  refine ⟨_, rfl, fun e7 he7 => ⟨_, rfl, upd_same, [(.inl 0, .ref t)], rfl, by simp, ?_⟩⟩
  rw [show mergeK [] [((.inl 0 : Key), V.ref t)] = [((.inl 0 : Key), V.ref t)] from rfl, upd_upd]
  have s_H16 := same_new he7 (.dK [(.inl 0, .ref t)])
  have g_e7 : upd H15 e7 (.dK [(.inl 0, .ref t)]) e7 = some (.dK [(.inl 0, .ref t)]) := upd_same
  generalize upd H15 e7 (.dK [(.inl 0, .ref t)]) = H16 at s_H16 g_e7 ⊢
  refine ⟨_, rfl, lz 1 rfl, fun e8 he8 => ?_⟩
  have s_H17 := same_new he8 (.tup [.ref t])
  have g_e8 : upd H16 e8 (.tup [.ref t]) e8 = some (.tup [.ref t]) := upd_same
  generalize upd H16 e8 (.tup [.ref t]) = H17 at s_H17 g_e8 ⊢
  have ht3 := (s_H12.trans (s_H13.trans (s_H14.trans (s_H15.trans (s_H16.trans s_H17))))) _ _ ht3
  refine ⟨_, rfl, _, rfl, _, rfl, t, xs, rfl, ht3, fun c3' H18 s18 hc3 => ?_⟩
  have ht3 := (s18) _ _ ht3
  refine ⟨_, rfl, _, rfl, _, rfl, t, xs, rfl, ht3, fun c4' H19 s19 hc4 => ?_⟩
  have hc3 := (s19) _ _ hc3
  have k3 := cutV_length xs (some (ia : Int)) none
  refine ⟨c3', c4', _, _, rfl, rfl, hc3, hc4, by omega, fun e9 H20 s20 h9 => ?_⟩
  refine ⟨lz 4 rfl, fun l2 hl2 => ?_⟩
  have s_H21 := same_new hl2 (.lst [.ref e7, .ref e8, .ref e9, .bl true])
  have g_l2 : upd H20 l2 (.lst [.ref e7, .ref e8, .ref e9, .bl true]) l2 = some (.lst [.ref e7, .ref e8, .ref e9, .bl true]) := upd_same
  generalize upd H20 l2 (.lst [.ref e7, .ref e8, .ref e9, .bl true]) = H21 at s_H21 g_l2 ⊢
  have g_l1 := (s_H16.trans (s_H17.trans (s18.trans (s19.trans (s20.trans s_H21))))) _ _ g_l1
  refine ⟨l1, l2, _, _, rfl, rfl, g_l1, g_l2, lz 14 rfl, fun l3 hl3 => ?_⟩
  have s_H22 := same_new hl3 (.lst ([.ref e1, .ref e2, .ref e3, .ref e4, .ref tu, .ref e5, .ref e6, .non, .str "pairing", .int 7] ++ [.ref e7, .ref e8, .ref e9, .bl true]))
  have g_l3 : upd H21 l3 (.lst ([.ref e1, .ref e2, .ref e3, .ref e4, .ref tu, .ref e5, .ref e6, .non, .str "pairing", .int 7] ++ [.ref e7, .ref e8, .ref e9, .bl true])) l3 = some (.lst ([.ref e1, .ref e2, .ref e3, .ref e4, .ref tu, .ref e5, .ref e6, .non, .str "pairing", .int 7] ++ [.ref e7, .ref e8, .ref e9, .bl true])) := upd_same
  generalize upd H21 l3 (.lst ([.ref e1, .ref e2, .ref e3, .ref e4, .ref tu, .ref e5, .ref e6, .non, .str "pairing", .int 7] ++ [.ref e7, .ref e8, .ref e9, .bl true])) = H22 at s_H22 g_l3 ⊢
  have g_tu := (s_H6.trans (s7.trans (s8.trans (s9.trans (s_H10.trans (s11.trans (s_H12.trans (s_H13.trans (s_H14.trans (s_H15.trans (s_H16.trans (s_H17.trans (s18.trans (s19.trans (s20.trans (s_H21.trans s_H22)))))))))))))))) _ _ g_tu
  have g_e1 := (s7.trans (s8.trans (s9.trans (s_H10.trans (s11.trans (s_H12.trans (s_H13.trans (s_H14.trans (s_H15.trans (s_H16.trans (s_H17.trans (s18.trans (s19.trans (s20.trans (s_H21.trans s_H22))))))))))))))) _ _ g_e1
  have g_z1 := (s11.trans (s_H12.trans (s_H13.trans (s_H14.trans (s_H15.trans (s_H16.trans (s_H17.trans (s18.trans (s19.trans (s20.trans (s_H21.trans s_H22))))))))))) _ _ g_z1
  have g_e4 := (s_H13.trans (s_H14.trans (s_H15.trans (s_H16.trans (s_H17.trans (s18.trans (s19.trans (s20.trans (s_H21.trans s_H22))))))))) _ _ g_e4
  have g_e5 := (s_H14.trans (s_H15.trans (s_H16.trans (s_H17.trans (s18.trans (s19.trans (s20.trans (s_H21.trans s_H22)))))))) _ _ g_e5
  have g_e6 := (s_H15.trans (s_H16.trans (s_H17.trans (s18.trans (s19.trans (s20.trans (s_H21.trans s_H22))))))) _ _ g_e6
  have g_e7 := (s_H17.trans (s18.trans (s19.trans (s20.trans (s_H21.trans s_H22))))) _ _ g_e7
  have g_e8 := (s18.trans (s19.trans (s20.trans (s_H21.trans s_H22)))) _ _ g_e8
  have ht3 := (s19.trans (s20.trans (s_H21.trans s_H22))) _ _ ht3
  have hra := (s_H10.trans (s11.trans (s_H12.trans (s_H13.trans (s_H14.trans (s_H15.trans (s_H16.trans (s_H17.trans (s18.trans (s19.trans (s20.trans (s_H21.trans s_H22)))))))))))) _ _ hra
  have h2 := (s_H10.trans (s11.trans (s_H12.trans (s_H13.trans (s_H14.trans (s_H15.trans (s_H16.trans (s_H17.trans (s18.trans (s19.trans (s20.trans (s_H21.trans s_H22)))))))))))) _ _ h2
  have h3 := (s_H12.trans (s_H13.trans (s_H14.trans (s_H15.trans (s_H16.trans (s_H17.trans (s18.trans (s19.trans (s20.trans (s_H21.trans s_H22)))))))))) _ _ h3
  have h9 := (s_H21.trans s_H22) _ _ h9
  have sA : Same H3 H22 := s34.trans (s_H5.trans (s_H6.trans (s7.trans (s8.trans (s9.trans (s_H10.trans (s11.trans (s_H12.trans (s_H13.trans (s_H14.trans (s_H15.trans (s_H16.trans (s_H17.trans (s18.trans (s19.trans (s20.trans (s_H21.trans s_H22)))))))))))))))))
  have sB : Same H3 H21 := s34.trans (s_H5.trans (s_H6.trans (s7.trans (s8.trans (s9.trans (s_H10.trans (s11.trans (s_H12.trans (s_H13.trans (s_H14.trans (s_H15.trans (s_H16.trans (s_H17.trans (s18.trans (s19.trans (s20.trans s_H21))))))))))))))))
  have s422 : Same H4 H22 := s_H5.trans (s_H6.trans (s7.trans (s8.trans (s9.trans (s_H10.trans (s11.trans (s_H12.trans (s_H13.trans (s_H14.trans (s_H15.trans (s_H16.trans (s_H17.trans (s18.trans (s19.trans (s20.trans (s_H21.trans s_H22))))))))))))))))
  have sC : Same H3 H5 := s34.trans s_H5
  have sD : Same H3 H12 := s34.trans (s_H5.trans (s_H6.trans (s7.trans (s8.trans (s9.trans (s_H10.trans (s11.trans s_H12)))))))
  have sF : Same H3 H15 := s34.trans (s_H5.trans (s_H6.trans (s7.trans (s8.trans (s9.trans (s_H10.trans (s11.trans (s_H12.trans (s_H13.trans (s_H14.trans s_H15))))))))))
  have pen22 := pen3.same sA
  have l3p : l3 ≠ p := pen3.ne (none_of sB hl3)
  refine ⟨_, rfl, p, _, _, rfl, pen22, by omega, by decide, by decide, fun r9 H23 r90 r91 pen23 x23 => ?_⟩
  have hj : r9.toNat < ([.ref e1, .ref e2, .ref e3, .ref e4, .ref tu, .ref e5, .ref e6, .non, .str "pairing", .int 7] ++ [.ref e7, .ref e8, .ref e9, .bl true] : List V).length := by show r9.toNat < 14; omega
  have hat := atI_nat (List.getElem?_eq_getElem hj)
  rw [show ((r9.toNat : Nat) : Int) = r9 by omega] at hat
  have hmem := List.getElem_mem hj
  refine ⟨l3, _, _, _, rfl, rfl, SqL.of (x23.all _ _ g_l3 l3p), hat, ?_⟩
  generalize ([.ref e1, .ref e2, .ref e3, .ref e4, .ref tu, .ref e5, .ref e6, .non, .str "pairing", .int 7] ++ [.ref e7, .ref e8, .ref e9, .bl true] : List V)[r9.toNat] = u at hmem ⊢
  refine fin _ H23 ((Same.y sA).trans x23) (pen23.mono (by omega)) fun L hL ne => ?_
  have pl := pl3 L hL ne
  have pl22 := pl.same sA
  have rz := (rx_row (n := n) pl sh (s4.rng r hrm)).s sA
  have rx := (rx_rows pl rows3 s4 n12).s sA
  have n1' : H3 e1 = none := none_of sC he1
  have n5' : H3 e5 = none := none_of sD he5
  have n7' : H3 e7 = none := none_of sF he7
  have big : ∀ {d : PyData}, Ok4 30000 3 d → Ok4 70000 6 d := fun h => h.mono (by decide) (by decide)
  have thing : ∃ d, DX H22 p L (.ref t) d ∧ Ok4 30000 3 d := rx.tup pl22 ht3 (by omega) (by omega)
  have key : ∃ d, DX H22 p L u d ∧ Ok4 70000 6 d := by
    simp only [List.cons_append, List.nil_append, List.mem_cons, List.not_mem_nil, or_false] at hmem
    rcases hmem with rfl | rfl | rfl | rfl | rfl | rfl | rfl | rfl | rfl | rfl | rfl | rfl | rfl | rfl
    · obtain ⟨d, h1, h2⟩ := rx.lst (M := 30000) (pl.neN n1') g_e1 (by omega)
      exact ⟨d, h1, big h2⟩
    · obtain ⟨d, h1, h2⟩ := ((rx.cut none (some (ia : Int))).app (rx.cut (some ((ia : Int) + 1)) none)).tup (M := 70000) pl22 h2 (by simp; omega) (by simp; omega)
      exact ⟨d, h1, h2.mono (by decide) (by decide)⟩
    · have o1 : RwX 2000 2 H22 p L [.ref ra] := by
        obtain ⟨d, h1, h2⟩ := rz.tup (M := 2000) pl22 hra (by omega) (by omega)
        exact RwX.one h1 h2
      obtain ⟨d, h1, h2⟩ := (rx.app o1).tup (M := 30000) pl22 h3 (by simp; omega) (by simp; omega)
      exact ⟨d, h1, big h2⟩
    · obtain ⟨d, h1, h2⟩ := (rx.sub fun v hv => List.mem_reverse.mp hv).tup (M := 30000) pl22 g_e4 (by simp; omega) (by simp; omega)
      exact ⟨d, h1, big h2⟩
    · have ru : RwX 2000 2 H22 p L ys := fun v hv => by
        obtain ⟨a, ws, e, ha, h5, h6⟩ := hys v hv
        rw [e]
        have rw' : RwX 100 1 H22 p L ws := fun w hw => by
          obtain ⟨q, hs, b1, b2⟩ := h6 w hw
          exact ⟨_, dx_sh pl22 (hs.same sA), o_dsh ⟨b1, b2⟩⟩
        exact rw'.tup pl22 (s422 _ _ ha) (by omega) (by omega)
      obtain ⟨d, h1, h2⟩ := ru.tup (M := 30000) pl22 g_tu (by omega) (by omega)
      exact ⟨d, h1, big h2⟩
    · exact ⟨_, dx_lst (pl.neN n5') g_e5 .nil, (o_list (n := 20) (e := 0) (m := 100) (by simp) (by simp)).mono (by decide) (by decide)⟩
    · exact ⟨_, dx_tup pl22 g_e6 .nil, (o_tup (n := 20) (e := 0) (m := 100) (by simp) (by simp) (by simp)).mono (by decide) (by decide)⟩
    · exact ⟨_, .non, o_none.mono (by decide) (by decide)⟩
    · exact ⟨_, .str _, (o_str (x := "pairing") (by decide)).mono (by decide) (by decide)⟩
    · exact ⟨_, .int _, (o_int (by decide)).mono (by decide) (by decide)⟩
    · obtain ⟨d, h1, h2⟩ := thing
      refine ⟨.dict [(.int 0, d)], .dict (kvs := [(.inl 0, .ref t)]) (ps := [(.int 0, d)]) (by rw [res_pos (S := XX p L) (a := e7) (pl.neN n7')]; exact g_e7) (.cons (.int _) .nil) (.cons h1 .nil), (o_dict (n := 30000) (e := 3) (m := 70000) (fun q hq => ?_) (by simp)).mono (by decide) (by decide)⟩
      rw [List.mem_singleton.mp hq]
      exact ⟨(o_int (by decide)).kx.mono (by decide) (by decide), h2.kx⟩
    · obtain ⟨d, h1, h2⟩ := thing
      exact ⟨_, dx_tup pl22 g_e8 (.cons h1 .nil), (o_tup (n := 30000) (e := 3) (m := 40000) (by simpa using h2) (by simp) (by simp)).mono (by decide) (by decide)⟩
    · obtain ⟨d, h1, h2⟩ := ((rx.cut (some (ia : Int)) none).app (rx.cut none (some (ia : Int)))).tup (M := 70000) pl22 h9 (by simp; omega) (by simp; omega)
      exact ⟨d, h1, h2.mono (by decide) (by decide)⟩
    · exact ⟨_, .bl _, (o_bool _).mono (by decide) (by decide)⟩
  obtain ⟨d, h1, h2⟩ := key
  exact ⟨d, h1.y x23, h2⟩
end
end My

set_option Elab.async false
set_option linter.all false
set_option maxRecDepth 100000
set_option maxHeartbeats 1000000
namespace My
open PySem L2 MA Srt PySem.Spec
section
variable {P : Program} {w : World} {K : PySem.W.Frag} {mg : Str → Option Value} {base : Heap}
def spTold : Sp := fun vs H Q _ => ∃ (a b v : V) (qs rs : List Rat) (d : PyData), vs = [a, b, v] ∧ RuAt H a qs ∧ RuAt H b rs ∧ qs.length ≤ 12 ∧ DataV H v d ∧ Bd d ∧ (qs.length ≠ rs.length → ∀ H', Same H H' → Q (.str "unlike") H') ∧
  (qs.length = rs.length → ∀ (t : Bool) (H' : Hp), (t = true ↔ PairOk qs rs d) → Same H H' → Q (.bl t) H')
theorem ok_told {er : Errs} (T : Txt2 mg) (N : Err1N mg er) (z : Err1 K er) (C_lets_pairing : Cal1 P w K mg base "lets_pairing" ["one", "other", "thing"] 4 (spLetsP er.c2)) (F : FunAt K mg "_law_told" ["_law_one", "_law_other", "_law_thing"] s_l_told) : Cal P w K mg base "_law_told" ["_law_one", "_law_other", "_law_thing"] 5 spTold := by
  have S := sc_l_told
  refine F.cal sc_l_told (fun vs H Q E h => ?_) (fun f cdv A outer s H vs Q E hr h => ?_)
  · obtain ⟨a, b, v, qs, rs, d, rfl, _⟩ := h; rfl
  obtain ⟨a, b, v, qs, rs, d, rfl, ra, rb, n12, hd, bd, kE, k⟩ := h
  refine ⟨_, (@pss_cons _ _ _ _ _ (@ps_set _ _ (3) _ _ _ _ (by exact S.nd) (by rfl) (by first | exact Or.inl rfl | exact Or.inr rfl) pe_non (by first|rfl|decide|exact .inl rfl|exact .inr rfl|(intros; rfl)) (by first|rfl|decide|exact .inl rfl|exact .inr rfl|(intros; rfl))) (@pss_cons _ _ _ _ _ (@ps_set _ _ (4) _ _ _ _ (by exact S.nd) (by rfl) (by first | exact Or.inl rfl | exact Or.inr rfl) pe_non (by first|rfl|decide|exact .inl rfl|exact .inr rfl|(intros; rfl)) (by first|rfl|decide|exact .inl rfl|exact .inr rfl|(intros; rfl))) (@pss_cons _ _ _ _ _ (@ps_tryAs _ _ _ _ _ _ _ _ _ _ (5) _ _ (by exact body_nox) (by exact S.nd) (by rfl) (by rfl) (by rfl) (by exact N.ball) (@psx_set _ (3) _ _ _ _ _ (by exact S.nd) (by rfl) (by first | exact Or.inl rfl | exact Or.inr rfl) (@pex_call _ _ _ _ _ _ _ _ _ _ (by exact C_lets_pairing) (by exact (hr.mono (by decide))) (@pa_consN _ _ _ _ _ (pv 0) (@pa_consN _ _ _ _ _ (pv 1) (@pa_consN _ _ _ _ _ (pv 2) pa_nil (by first|rfl|decide|exact .inl rfl|exact .inr rfl|(intros; rfl))) (by first|rfl|decide|exact .inl rfl|exact .inr rfl|(intros; rfl))) (by first|rfl|decide|exact .inl rfl|exact .inr rfl|(intros; rfl))) (by first|rfl|decide|exact .inl rfl|exact .inr rfl|(intros; rfl)) (by first|rfl|decide|exact .inl rfl|exact .inr rfl|(intros; rfl)) (by first|rfl|decide|exact .inl rfl|exact .inr rfl|(intros; rfl)) (by first|rfl|decide|exact .inl rfl|exact .inr rfl|(intros; rfl))) (by first|rfl|decide|exact .inl rfl|exact .inr rfl|(intros; rfl)) (by first|rfl|decide|exact .inl rfl|exact .inr rfl|(intros; rfl))) (fun _ => (@pss_one _ _ _ (@ps_set _ _ (4) _ _ _ _ (by exact S.nd) (by rfl) (by first | exact Or.inl rfl | exact Or.inr rfl) (pv 5) (by first|rfl|decide|exact .inl rfl|exact .inr rfl|(intros; rfl)) (by first|rfl|decide|exact .inl rfl|exact .inr rfl|(intros; rfl))))) (by first|rfl|decide|exact .inl rfl|exact .inr rfl|(intros; rfl))) (@pss_cons _ _ _ _ _ (@ps_if _ _ _ _ _ _ _ _ (@pt_cmpR _ _ _ _ _ _ _ _ op_isN (pv 4) pe_non (by exact (nomark _))) (@pss_one _ _ _ (@ps_ret _ _ _ _ (pv 3))) pss_nil) (@pss_one _ _ _ (@ps_ret _ _ _ _ (@pe_ix _ _ _ _ _ _ _ ix_list (@pe_lst _ _ _ _ (@pa_consN _ _ _ _ _ pe_str (@pa_consN _ _ _ _ _ pe_str pa_nil (by first|rfl|decide|exact .inl rfl|exact .inr rfl|(intros; rfl))) (by first|rfl|decide|exact .inl rfl|exact .inr rfl|(intros; rfl)))) (@pe_callTy _ _ _ _ _ _ _ _ _ call_int1 (by rfl) (by exact T.z_int) (by exact bt_int) (@pa_consN _ _ _ _ _ (@pe_callB _ _ _ _ _ _ _ _ _ call_isiE (by rfl) (by exact T.z_isinstance) (by exact bt_isinstance) (@pa_consN _ _ _ _ _ (pv 4) (@pa_consN _ _ _ _ _ (@pe_glob _ _ (.ref er.c2) _ _ (by rfl) (by exact N.m2) (by rfl) (by first|rfl|decide|exact .inl rfl|exact .inr rfl|(intros; rfl))) pa_nil (by first|rfl|decide|exact .inl rfl|exact .inr rfl|(intros; rfl))) (by first|rfl|decide|exact .inl rfl|exact .inr rfl|(intros; rfl))) (by first|rfl|decide|exact .inl rfl|exact .inr rfl|(intros; rfl)) (by first|rfl|decide|exact .inl rfl|exact .inr rfl|(intros; rfl)) (by first|rfl|decide|exact .inl rfl|exact .inr rfl|(intros; rfl)) (by first|rfl|decide|exact .inl rfl|exact .inr rfl|(intros; rfl))) pa_nil (by first|rfl|decide|exact .inl rfl|exact .inr rfl|(intros; rfl))) (by first|rfl|decide|exact .inl rfl|exact .inr rfl|(intros; rfl)) (by first|rfl|decide|exact .inl rfl|exact .inr rfl|(intros; rfl)) (by first|rfl|decide|exact .inl rfl|exact .inr rfl|(intros; rfl)) (by first|rfl|decide|exact .inl rfl|exact .inr rfl|(intros; rfl))) (by exact (fun _ _ => rfl))))))))), ?_⟩
  refine ⟨_, rfl, _, rfl, _, rfl, a, b, v, qs, rs, d, rfl, ra, rb, n12, hd, bd, fun ne => ?_, fun eq t H' ht s' => ?_⟩
  · refine ⟨er.c2, rfl, z.ball, fun p hp => ?_⟩
    have he : (upd H p (excO p er.c2)) p = some (excO p er.c2) := upd_same
    have s0 : Same H (upd H p (excO p er.c2)) := same_new hp _
    refine ⟨_, rfl, ?_⟩
    generalize upd H p (excO p er.c2) = H2 at he s0
    refine ⟨_, rfl, rfl, _, rfl, iteF ?_⟩
    refine ⟨lz 2 rfl, fun l hl => ?_⟩
    have s_H3 := same_new hl (.lst [.str "other", .str "unlike"])
    have g_l : upd H2 l (.lst [.str "other", .str "unlike"]) l = some (.lst [.str "other", .str "unlike"]) := upd_same
    generalize upd H2 l (.lst [.str "other", .str "unlike"]) = H3 at s_H3 g_l ⊢
    refine ⟨_, rfl, p, er.c2, _, _, _, rfl, rfl, s_H3 _ _ he, z.ek, z.i2, .inr ⟨_, rfl, l, _, _, _, rfl, rfl, SqL.of g_l, rfl, ?_⟩⟩
    exact kE ne H3 (s0.trans s_H3)
  · exact ⟨_, rfl, rfl, _, rfl, iteT ⟨_, rfl, k eq t H' ht s'⟩⟩
theorem div_add (a b W : Int) : Rat.divInt a W + Rat.divInt b W = Rat.divInt (a + b) W := by
  rw [Rat.divInt_eq_div, Rat.divInt_eq_div, Rat.divInt_eq_div]
  grind
theorem psum_div (W : Int) : ∀ (r : List Int), psum (r.map fun x => Rat.divInt x W) = Rat.divInt r.sum W := by
  have key : ∀ (r : List Int) (a : Int), (r.map fun x => Rat.divInt x W).foldl (· + ·) (Rat.divInt a W) = Rat.divInt (a + r.sum) W := by
    intro r
    induction r with
    | nil => intro a; simp
    | cons x r ih =>
      intro a
      rw [List.map_cons, List.foldl_cons, div_add, ih, List.sum_cons, Int.add_assoc]
  intro r
  have := key r 0
  rw [Int.zero_add, Rat.zero_divInt] at this
  exact this
def oneF (T : List (List Int)) (W : Int) : List Rat := T.map fun r => Rat.divInt r.sum W
def colI (T : List (List Int)) (j : Nat) : Int := (T.map fun r => r.getD j 0).sum
def othF (T : List (List Int)) (W : Int) (n : Nat) : List Rat := (List.range n).map fun j => Rat.divInt (colI T j) W
theorem matT_getD (T : List (List Int)) (W : Int) (i : Nat) : (matT T W).getD i [] = (T.getD i []).map fun x => Rat.divInt x W := by
  unfold matT
  rw [List.getD_eq_getElem?_getD, List.getElem?_map, List.getD_eq_getElem?_getD]
  cases T[i]? <;> simp
theorem map_getD (r : List Int) (W : Int) (j : Nat) : (r.map fun x => Rat.divInt x W).getD j 0 = Rat.divInt (r.getD j 0) W := by
  rw [List.getD_eq_getElem?_getD, List.getElem?_map, List.getD_eq_getElem?_getD]
  cases r[j]? <;> simp
theorem div_nn {x W : Int} (h : 0 ≤ x) (hW : 0 < W) : 0 ≤ Rat.divInt x W := Rat.num_nonneg.mp (by rw [← (share_pos (t := x) hW).1]; exact Int.ediv_nonneg h (gI_nonneg _ _))
theorem good_pair {n : Nat} {T : List (List Int)} {B W : Int} (tb : Tb n B T) (nn : Nn T) (low : Low T) (hW : 0 < W) : PairOk (oneF T W) (othF T W n) (matD (matT T W)) := by
  have l1 : (oneF T W).length = n := by simp [oneF, tb.len]
  refine ⟨matT T W, rfl, by simp [matT, tb.len, l1], fun r hr => ?_, fun i j h1 h2 => ?_, ?_, ?_⟩
  · obtain ⟨r', hr', rfl⟩ := List.mem_map.mp hr
    refine ⟨by rw [List.length_map, tb.row r' hr', l1], fun q hq => ?_⟩
    obtain ⟨x, hx, rfl⟩ := List.mem_map.mp hq
    exact div_nn (nn r' hr' x hx) hW
  · rw [matT_getD, map_getD, low i j h1, Rat.zero_divInt]
  · unfold matT oneF
    rw [List.map_map]
    exact List.map_congr_left fun r _ => psum_div W r
  · rw [l1]
    unfold othF
    refine List.map_congr_left fun j _ => ?_
    show psum ((matT T W).map fun r => r.getD j 0) = _
    have e : (matT T W).map (fun r => r.getD j 0) = (T.map fun r => r.getD j 0).map fun x => Rat.divInt x W := by
      unfold matT
      rw [List.map_map, List.map_map]
      exact List.map_congr_left fun r _ => map_getD r W j
    rw [e, psum_div]
    rfl
theorem sq_matT {n : Nat} {T : List (List Int)} {W : Int} (tb : Tb n 1000 T) (hW : 0 < W) (hW2 : W ≤ 5000) : Sq4 n (matT T W) := by
  refine ⟨by simp [matT, tb.len], fun r hr => ?_, fun r hr q hq => ?_⟩
  · obtain ⟨r', hr', rfl⟩ := List.mem_map.mp hr
    rw [List.length_map, tb.row r' hr']
  · obtain ⟨r', hr', rfl⟩ := List.mem_map.mp hr
    obtain ⟨x, hx, rfl⟩ := List.mem_map.mp hq
    have bx := tb.rng r' hr' x hx
    have e := share_pos (t := x) hW
    have g := gI_pos_right (a := x) (b := W) (by omega)
    have h2 : W / gI x W ≤ W := Int.ediv_le_self _ (by omega)
    have h1 : (x / gI x W).natAbs ≤ x.natAbs := Int.natAbs_ediv_le_natAbs _ _
    rw [e.1] at h1
    rw [e.2] at h2
    exact ⟨by omega, by omega⟩
end
end My

set_option Elab.async false
set_option linter.all false
set_option maxRecDepth 100000
set_option maxHeartbeats 1000000
namespace My
open PySem L2 MA Srt PySem.Spec
def wdF (n : Nat) : List Rat := 1 :: List.replicate (n % 12) 0
theorem wd_ne {n : Nat} (h1 : 1 ≤ n) (h2 : n ≤ 12) : (wdF n).length ≠ n := by
  unfold wdF
  rw [List.length_cons, List.length_replicate]
  omega
theorem shs_rep {H : Hp} {v : V} {q : Rat} (h : ShAt H v q) : ∀ k, Shs H (List.replicate k v) (List.replicate k q)
  | 0 => .nil
  | k + 1 => by rw [List.replicate_succ, List.replicate_succ]; exact .cons h (shs_rep h k)
/-- all stays but the pen and the list L -/
def Sx (p L : Addr) (H H' : Hp) : Prop := ∀ b o, b ≠ p → b ≠ L → H b = some o → H' b = some o
theorem Sx.y {p L : Addr} {H H1 H' : Hp} (a : Sx p L H H1) (b : SameY p H1 H') : Sx p L H H' := fun c o h1 h2 e => b.all _ _ (a c o h1 h2 e) h1
theorem Sx.u {p L : Addr} {H H1 : Hp} {o : HO} (a : Sx p L H H1) : Sx p L H (upd H1 L o) := fun c u h1 h2 e => by rw [upd_ne h2]; exact a c u h1 h2 e
theorem ru_k {H H' : Hp} (k : ∀ b ys, H b = some (.tup ys) → H' b = some (.tup ys)) {v : V} {qs : List Rat} (h : RuAt H v qs) : RuAt H' v qs := let ⟨a, zs, e, h1, h2⟩ := h; ⟨a, zs, e, k _ _ h1, Paired.mapP h2 fun _ _ ⟨b, e, hb⟩ => ⟨b, e, k _ _ hb⟩⟩
theorem mat_k {H H' : Hp} (k : ∀ b ys, H b = some (.tup ys) → H' b = some (.tup ys)) {v : V} {M : List (List Rat)} (h : MatAt H v M) : MatAt H' v M := let ⟨a, zs, e, h1, h2⟩ := h; ⟨a, zs, e, k _ _ h1, Paired.mapP h2 fun _ _ r => ru_k k r⟩
theorem mat_ok {K : PySem.W.Frag} {H : Hp} {p L : Addr} {m n : Nat} {v : V} {M : List (List Rat)} (pl : PL K H p L m) (h : MatAt H v M) (s4 : Sq4 n M) (n12 : n ≤ 12) : ∃ d, DX H p L v d ∧ Ok4 70000 6 d := by
  obtain ⟨t, xs, rfl, ht, rows⟩ := h
  have lx := rows.length
  have ml := s4.len
  obtain ⟨d, h1, h2⟩ := (rx_rows pl rows s4 n12).tup (M := 30000) pl ht (by omega) (by omega)
  exact ⟨d, h1, h2.mono (by decide) (by decide)⟩
theorem mat_data {H : Hp} {v : V} {M : List (List Rat)} (h : MatAt H v M) : DataV H v (matD M) := by
  obtain ⟨t, xs, rfl, ht, rows⟩ := h
  have : ∀ {xs : List V} {M : List (List Rat)}, Rows H xs M → DataL H xs (M.map fun r => .tuple (r.map dsh)) := by
    intro xs M h
    induction h with
    | nil => exact .nil
    | cons r _ ih =>
      obtain ⟨a, zs, rfl, ha, sh⟩ := r
      exact .cons (.tup ha (shs_data sh)) ih
  exact .tup ht (this rows)
theorem bd_mat {n : Nat} {M : List (List Rat)} (s4 : Sq4 n M) (n12 : n ≤ 12) : Bd (matD M) := by
  refine ⟨fun N e r hr q hq => ?_, fun ds e => ?_⟩
  · have := mat_inj e
    subst this
    have := s4.rng r hr q hq
    exact ⟨bt30 (by omega), bt30 (by omega)⟩
  · unfold matD at e
    injection e with e
    rw [← e, List.length_map, s4.len]
    omega
section
variable {P : Program} {w : World} {K : PySem.W.Frag} {mg : Str → Option Value} {base : Heap}
theorem ok_law (T : Txt2 mg) (C_l_pen : Cal P w K mg base "_law_pen" ["_law_script"] 1 (spPenZ K)) (C_l_take : Cal P w K mg base "_law_take" ["_law_pen_here", "_law_many"] 1 (spTakeZ K)) (C_l_table : Cal P w K mg base "_law_table" ["_law_pen_here", "_law_boxes"] 2 (spTable K))
    (C_l_share : Cal P w K mg base "_law_share" ["_law_top", "_law_bottom"] 1 spShareN) (C_l_shares : Cal P w K mg base "_law_shares" ["_law_table_here", "_law_whole"] 2 spShares) (C_l_shifted : Cal P w K mg base "_law_shifted" ["_law_pen_here", "_law_table_here", "_law_spoil"] 2 (spShifted K))
    (C_l_odd : Cal P w K mg base "_law_odd" ["_law_pen_here", "_law_thing"] 3 (spOdd K)) (C_l_told : Cal P w K mg base "_law_told" ["_law_one", "_law_other", "_law_thing"] 5 spTold) (C_l_is_pairing : Cal P w K mg base "_law_is_pairing" ["_law_one", "_law_other", "_law_thing"] 3 spIsPairD)
    {f : Addr} {fd : FuncData} (F : Fun K "law" "law" s_law f fd) : FnOk P w K mg base CX0 6 f fd ["_law_script"] (spLaw K) := by
  have S := sc_law
  refine F.ok sc_law (fun vs H Q E h => ?_) (fun cdv A outer s H vs Q E hr h => ?_)
  · obtain ⟨a, ns, rfl, _⟩ := h; rfl
  obtain ⟨a, ns, rfl, hS, h63, k⟩ := h
  refine ⟨_, (@pss_cons _ _ _ _ _ (@ps_set _ _ (1) _ _ _ _ (by exact S.nd) (by rfl) (by first | exact Or.inl rfl | exact Or.inr rfl) (@cc _ _ _ _ _ _ _ _ _ _ (by exact C_l_pen) (by exact (hr.mono (by decide))) (@pa_consN _ _ _ _ _ (pv 0) pa_nil (by first|rfl|decide|exact .inl rfl|exact .inr rfl|(intros; rfl))) (by first|rfl|decide|exact .inl rfl|exact .inr rfl|(intros; rfl)) (by first|rfl|decide|exact .inl rfl|exact .inr rfl|(intros; rfl)) (by first|rfl|decide|exact .inl rfl|exact .inr rfl|(intros; rfl)) (by first|rfl|decide|exact .inl rfl|exact .inr rfl|(intros; rfl))) (by first|rfl|decide|exact .inl rfl|exact .inr rfl|(intros; rfl)) (by first|rfl|decide|exact .inl rfl|exact .inr rfl|(intros; rfl))) (@pss_cons _ _ _ _ _ (@ps_for _ _ _ _ _ _ _ _ (by exact PassesOwn.never) (by rfl) (@pi_range1 _ _ _ _ _ _ (by rfl) (by exact T.z_range) (@pa_consN _ _ _ _ _ pe_int pa_nil (by first|rfl|decide|exact .inl rfl|exact .inr rfl|(intros; rfl))) (by first|rfl|decide|exact .inl rfl|exact .inr rfl|(intros; rfl))) (@pg_name _ _ (2) _ (by exact S.nd) (by rfl) (by first | exact Or.inl rfl | exact Or.inr rfl) (by first|rfl|decide|exact .inl rfl|exact .inr rfl|(intros; rfl))) (@pss_cons _ _ _ _ _ (@ps_set _ _ (3) _ _ _ _ (by exact S.nd) (by rfl) (by first | exact Or.inl rfl | exact Or.inr rfl) (@pe_op _ _ _ _ _ _ _ _ op_add pe_int (@cc _ _ _ _ _ _ _ _ _ _ (by exact C_l_take) (by exact (hr.mono (by decide))) (@pa_consN _ _ _ _ _ (pv 1) (@pa_consN _ _ _ _ _ (@pe_ix _ _ _ _ _ _ _ ix_tup (@pe_tup _ _ _ _ _ (@pa_consN _ _ _ _ _ pe_int (@pa_consN _ _ _ _ _ pe_int pa_nil (by first|rfl|decide|exact .inl rfl|exact .inr rfl|(intros; rfl))) (by first|rfl|decide|exact .inl rfl|exact .inr rfl|(intros; rfl)))) (@cc _ _ _ _ _ _ _ _ _ _ (by exact C_l_take) (by exact (hr.mono (by decide))) (@pa_consN _ _ _ _ _ (pv 1) (@pa_consN _ _ _ _ _ pe_int pa_nil (by first|rfl|decide|exact .inl rfl|exact .inr rfl|(intros; rfl))) (by first|rfl|decide|exact .inl rfl|exact .inr rfl|(intros; rfl))) (by first|rfl|decide|exact .inl rfl|exact .inr rfl|(intros; rfl)) (by first|rfl|decide|exact .inl rfl|exact .inr rfl|(intros; rfl)) (by first|rfl|decide|exact .inl rfl|exact .inr rfl|(intros; rfl)) (by first|rfl|decide|exact .inl rfl|exact .inr rfl|(intros; rfl))) (by exact (fun _ _ => rfl))) pa_nil (by first|rfl|decide|exact .inl rfl|exact .inr rfl|(intros; rfl))) (by first|rfl|decide|exact .inl rfl|exact .inr rfl|(intros; rfl))) (by first|rfl|decide|exact .inl rfl|exact .inr rfl|(intros; rfl)) (by first|rfl|decide|exact .inl rfl|exact .inr rfl|(intros; rfl)) (by first|rfl|decide|exact .inl rfl|exact .inr rfl|(intros; rfl)) (by first|rfl|decide|exact .inl rfl|exact .inr rfl|(intros; rfl)))) (by first|rfl|decide|exact .inl rfl|exact .inr rfl|(intros; rfl)) (by first|rfl|decide|exact .inl rfl|exact .inr rfl|(intros; rfl))) (@pss_cons _ _ _ _ _ (@ps_set _ _ (4) _ _ _ _ (by exact S.nd) (by rfl) (by first | exact Or.inl rfl | exact Or.inr rfl) (@cc _ _ _ _ _ _ _ _ _ _ (by exact C_l_table) (by exact (hr.mono (by decide))) (@pa_consN _ _ _ _ _ (pv 1) (@pa_consN _ _ _ _ _ (pv 3) pa_nil (by first|rfl|decide|exact .inl rfl|exact .inr rfl|(intros; rfl))) (by first|rfl|decide|exact .inl rfl|exact .inr rfl|(intros; rfl))) (by first|rfl|decide|exact .inl rfl|exact .inr rfl|(intros; rfl)) (by first|rfl|decide|exact .inl rfl|exact .inr rfl|(intros; rfl)) (by first|rfl|decide|exact .inl rfl|exact .inr rfl|(intros; rfl)) (by first|rfl|decide|exact .inl rfl|exact .inr rfl|(intros; rfl))) (by first|rfl|decide|exact .inl rfl|exact .inr rfl|(intros; rfl)) (by first|rfl|decide|exact .inl rfl|exact .inr rfl|(intros; rfl))) (@pss_cons _ _ _ _ _ (@ps_set _ _ (5) _ _ _ _ (by exact S.nd) (by rfl) (by first | exact Or.inl rfl | exact Or.inr rfl) (@pe_callB _ _ _ _ _ _ _ _ _ (call_sum0 (by rfl)) (by rfl) (by exact T.z_sum) (by exact bt_sum) (@pa_consN _ _ _ _ _ (@pe_comp0 _ _ _ _ _ _ _ _ _ _ _ (["_law_line"]) (fun _ => [none]) (by rfl) (by exact (fun _ _ h => h)) (by decide +kernel) (by rfl) (by decide +kernel) (by decide +kernel) (by exact Sees.none1) (@pi_list_K _ _ _ _ K (by rfl) (pv 4)) (fun _ _ _ _ _ => @pg_name _ _ (0) _ (by exact (show (["_law_line"] : List Str).Nodup by decide +kernel)) (by rfl) (by first | exact Or.inl rfl | exact Or.inr rfl) (by first|rfl|decide|exact .inl rfl|exact .inr rfl|(intros; rfl))) (fun _ _ _ _ _ => pts_nil) (fun _ _ _ _ _ => (@pe_callB _ _ _ _ _ _ _ _ _ (call_sum0 (by rfl)) (by rfl) (by exact T.z_sum) (by exact bt_sum) (@pa_consN _ _ _ _ _ (pv 0) pa_nil (by first|rfl|decide|exact .inl rfl|exact .inr rfl|(intros; rfl))) (by first|rfl|decide|exact .inl rfl|exact .inr rfl|(intros; rfl)) (by first|rfl|decide|exact .inl rfl|exact .inr rfl|(intros; rfl)) (by first|rfl|decide|exact .inl rfl|exact .inr rfl|(intros; rfl)) (by first|rfl|decide|exact .inl rfl|exact .inr rfl|(intros; rfl)))) (by first|rfl|decide|exact .inl rfl|exact .inr rfl|(intros; rfl))) pa_nil (by first|rfl|decide|exact .inl rfl|exact .inr rfl|(intros; rfl))) (by first|rfl|decide|exact .inl rfl|exact .inr rfl|(intros; rfl)) (by first|rfl|decide|exact .inl rfl|exact .inr rfl|(intros; rfl)) (by first|rfl|decide|exact .inl rfl|exact .inr rfl|(intros; rfl)) (by first|rfl|decide|exact .inl rfl|exact .inr rfl|(intros; rfl))) (by first|rfl|decide|exact .inl rfl|exact .inr rfl|(intros; rfl)) (by first|rfl|decide|exact .inl rfl|exact .inr rfl|(intros; rfl))) (@pss_cons _ _ _ _ _ (@ps_set _ _ (6) _ _ _ _ (by exact S.nd) (by rfl) (by first | exact Or.inl rfl | exact Or.inr rfl) (@pe_callTy _ _ _ _ _ _ _ _ _ call_tuple_of (by rfl) (by exact T.z_tuple) (by exact bt_tuple) (@pa_consN _ _ _ _ _ (@pe_comp _ _ _ _ _ _ _ _ _ _ _ _ _ (by rfl) (by exact (fun _ _ h => h)) (by decide +kernel) (by rfl) (by decide +kernel) (by exact hfr_of rfl) (by exact Sees.frees ["_law_line"] [("_law_whole", 5)] (fr_cons ⟨rfl, rfl⟩ fr_nil)) (@pi_list_K _ _ _ _ K (by rfl) (pv 4)) (fun _ _ _ _ _ => @pg_name _ _ (0) _ (by exact (show (["_law_line", "_law_whole"] : List Str).Nodup by decide +kernel)) (by rfl) (by first | exact Or.inl rfl | exact Or.inr rfl) (by first|rfl|decide|exact .inl rfl|exact .inr rfl|(intros; rfl))) (fun _ _ _ _ _ => pts_nil) (fun _ _ _ _ _ => (@cc _ _ _ _ _ _ _ _ _ _ (by exact C_l_share) (by exact (hr.mono (by decide))) (@pa_consN _ _ _ _ _ (@pe_callB _ _ _ _ _ _ _ _ _ (call_sum0 (by rfl)) (by rfl) (by exact T.z_sum) (by exact bt_sum) (@pa_consN _ _ _ _ _ (pv 0) pa_nil (by first|rfl|decide|exact .inl rfl|exact .inr rfl|(intros; rfl))) (by first|rfl|decide|exact .inl rfl|exact .inr rfl|(intros; rfl)) (by first|rfl|decide|exact .inl rfl|exact .inr rfl|(intros; rfl)) (by first|rfl|decide|exact .inl rfl|exact .inr rfl|(intros; rfl)) (by first|rfl|decide|exact .inl rfl|exact .inr rfl|(intros; rfl))) (@pa_consN _ _ _ _ _ (pv 1) pa_nil (by first|rfl|decide|exact .inl rfl|exact .inr rfl|(intros; rfl))) (by first|rfl|decide|exact .inl rfl|exact .inr rfl|(intros; rfl))) (by first|rfl|decide|exact .inl rfl|exact .inr rfl|(intros; rfl)) (by first|rfl|decide|exact .inl rfl|exact .inr rfl|(intros; rfl)) (by first|rfl|decide|exact .inl rfl|exact .inr rfl|(intros; rfl)) (by first|rfl|decide|exact .inl rfl|exact .inr rfl|(intros; rfl)))) (by first|rfl|decide|exact .inl rfl|exact .inr rfl|(intros; rfl))) pa_nil (by first|rfl|decide|exact .inl rfl|exact .inr rfl|(intros; rfl))) (by first|rfl|decide|exact .inl rfl|exact .inr rfl|(intros; rfl)) (by first|rfl|decide|exact .inl rfl|exact .inr rfl|(intros; rfl)) (by first|rfl|decide|exact .inl rfl|exact .inr rfl|(intros; rfl)) (by first|rfl|decide|exact .inl rfl|exact .inr rfl|(intros; rfl))) (by first|rfl|decide|exact .inl rfl|exact .inr rfl|(intros; rfl)) (by first|rfl|decide|exact .inl rfl|exact .inr rfl|(intros; rfl))) (@pss_cons _ _ _ _ _ (@ps_set _ _ (7) _ _ _ _ (by exact S.nd) (by rfl) (by first | exact Or.inl rfl | exact Or.inr rfl) (@pe_callTy _ _ _ _ _ _ _ _ _ call_tuple_of (by rfl) (by exact T.z_tuple) (by exact bt_tuple) (@pa_consN _ _ _ _ _ (@pe_compC _ _ _ _ _ _ _ _ _ _ _ _ _ (by rfl) (by exact (fun _ _ h => h)) (by decide +kernel) (by rfl) (by decide +kernel) (by exact hfr_of rfl) (by exact Sees.frees ["_law_k"] [("_law_table_here", 4), ("_law_whole", 5)] (fr_cons ⟨rfl, rfl⟩ (fr_cons ⟨rfl, rfl⟩ fr_nil))) (@pi_range1 _ _ _ _ _ _ (by rfl) (by exact T.z_range) (@pa_consN _ _ _ _ _ (pv 3) pa_nil (by first|rfl|decide|exact .inl rfl|exact .inr rfl|(intros; rfl))) (by first|rfl|decide|exact .inl rfl|exact .inr rfl|(intros; rfl))) (fun _ _ _ _ _ => @pg_name _ _ (0) _ (by exact (show (["_law_k", "_law_table_here", "_law_whole"] : List Str).Nodup by decide +kernel)) (by rfl) (by first | exact Or.inl rfl | exact Or.inr rfl) (by first|rfl|decide|exact .inl rfl|exact .inr rfl|(intros; rfl))) (fun _ _ _ _ _ => pts_nil) (fun _ _ _ _ _ => (@cc _ _ _ _ _ _ _ _ _ _ (by exact C_l_share) (by exact (hr.mono (by decide))) (@pa_consN _ _ _ _ _ (@pe_callB _ _ _ _ _ _ _ _ _ (call_sum0 (by rfl)) (by rfl) (by exact T.z_sum) (by exact bt_sum) (@pa_consN _ _ _ _ _ (@pe_comp _ _ _ _ _ _ _ _ _ _ _ _ _ (by rfl) (by exact (fun _ _ h => h)) (by decide +kernel) (by rfl) (by decide +kernel) (by exact hfr_of rfl) (by exact Sees.frees ["_law_line"] [("_law_k", 0)] (fr_cons ⟨rfl, rfl⟩ fr_nil)) (@pi_list_K _ _ _ _ K (by rfl) (pv 1)) (fun _ _ _ _ _ => @pg_name _ _ (0) _ (by exact (show (["_law_line", "_law_k"] : List Str).Nodup by decide +kernel)) (by rfl) (by first | exact Or.inl rfl | exact Or.inr rfl) (by first|rfl|decide|exact .inl rfl|exact .inr rfl|(intros; rfl))) (fun _ _ _ _ _ => pts_nil) (fun _ _ _ _ _ => (@pe_ix _ _ _ _ _ _ _ ix_list0 (pv 0) (pv 1) (by exact (fun _ _ => rfl)))) (by first|rfl|decide|exact .inl rfl|exact .inr rfl|(intros; rfl))) pa_nil (by first|rfl|decide|exact .inl rfl|exact .inr rfl|(intros; rfl))) (by first|rfl|decide|exact .inl rfl|exact .inr rfl|(intros; rfl)) (by first|rfl|decide|exact .inl rfl|exact .inr rfl|(intros; rfl)) (by first|rfl|decide|exact .inl rfl|exact .inr rfl|(intros; rfl)) (by first|rfl|decide|exact .inl rfl|exact .inr rfl|(intros; rfl))) (@pa_consN _ _ _ _ _ (pv 2) pa_nil (by first|rfl|decide|exact .inl rfl|exact .inr rfl|(intros; rfl))) (by first|rfl|decide|exact .inl rfl|exact .inr rfl|(intros; rfl))) (by first|rfl|decide|exact .inl rfl|exact .inr rfl|(intros; rfl)) (by first|rfl|decide|exact .inl rfl|exact .inr rfl|(intros; rfl)) (by first|rfl|decide|exact .inl rfl|exact .inr rfl|(intros; rfl)) (by first|rfl|decide|exact .inl rfl|exact .inr rfl|(intros; rfl)))) (by first|rfl|decide|exact .inl rfl|exact .inr rfl|(intros; rfl))) pa_nil (by first|rfl|decide|exact .inl rfl|exact .inr rfl|(intros; rfl))) (by first|rfl|decide|exact .inl rfl|exact .inr rfl|(intros; rfl)) (by first|rfl|decide|exact .inl rfl|exact .inr rfl|(intros; rfl)) (by first|rfl|decide|exact .inl rfl|exact .inr rfl|(intros; rfl)) (by first|rfl|decide|exact .inl rfl|exact .inr rfl|(intros; rfl))) (by first|rfl|decide|exact .inl rfl|exact .inr rfl|(intros; rfl)) (by first|rfl|decide|exact .inl rfl|exact .inr rfl|(intros; rfl))) (@pss_cons _ _ _ _ _ (@ps_set _ _ (8) _ _ _ _ (by exact S.nd) (by rfl) (by first | exact Or.inl rfl | exact Or.inr rfl) (@cc _ _ _ _ _ _ _ _ _ _ (by exact C_l_shares) (by exact (hr.mono (by decide))) (@pa_consN _ _ _ _ _ (pv 4) (@pa_consN _ _ _ _ _ (pv 5) pa_nil (by first|rfl|decide|exact .inl rfl|exact .inr rfl|(intros; rfl))) (by first|rfl|decide|exact .inl rfl|exact .inr rfl|(intros; rfl))) (by first|rfl|decide|exact .inl rfl|exact .inr rfl|(intros; rfl)) (by first|rfl|decide|exact .inl rfl|exact .inr rfl|(intros; rfl)) (by first|rfl|decide|exact .inl rfl|exact .inr rfl|(intros; rfl)) (by first|rfl|decide|exact .inl rfl|exact .inr rfl|(intros; rfl))) (by first|rfl|decide|exact .inl rfl|exact .inr rfl|(intros; rfl)) (by first|rfl|decide|exact .inl rfl|exact .inr rfl|(intros; rfl))) (@pss_cons _ _ _ _ _ (@ps_set _ _ (9) _ _ _ _ (by exact S.nd) (by rfl) (by first | exact Or.inl rfl | exact Or.inr rfl) (@pe_lst _ _ _ _ (@pa_consN _ _ _ _ _ (pv 8) pa_nil (by first|rfl|decide|exact .inl rfl|exact .inr rfl|(intros; rfl)))) (by first|rfl|decide|exact .inl rfl|exact .inr rfl|(intros; rfl)) (by first|rfl|decide|exact .inl rfl|exact .inr rfl|(intros; rfl))) (@pss_cons _ _ _ _ _ (@ps_for _ _ _ _ _ _ _ _ (by exact PassesOwn.never) (by rfl) (@pi_range1 _ _ _ _ _ _ (by rfl) (by exact T.z_range) (@pa_consN _ _ _ _ _ pe_int pa_nil (by first|rfl|decide|exact .inl rfl|exact .inr rfl|(intros; rfl))) (by first|rfl|decide|exact .inl rfl|exact .inr rfl|(intros; rfl))) (@pg_name _ _ (10) _ (by exact S.nd) (by rfl) (by first | exact Or.inl rfl | exact Or.inr rfl) (by first|rfl|decide|exact .inl rfl|exact .inr rfl|(intros; rfl))) (@pss_cons _ _ _ _ _ (@ps_set _ _ (13) _ _ _ _ (by exact S.nd) (by rfl) (by first | exact Or.inl rfl | exact Or.inr rfl) (@cc _ _ _ _ _ _ _ _ _ _ (by exact C_l_take) (by exact (hr.mono (by decide))) (@pa_consN _ _ _ _ _ (pv 1) (@pa_consN _ _ _ _ _ pe_int pa_nil (by first|rfl|decide|exact .inl rfl|exact .inr rfl|(intros; rfl))) (by first|rfl|decide|exact .inl rfl|exact .inr rfl|(intros; rfl))) (by first|rfl|decide|exact .inl rfl|exact .inr rfl|(intros; rfl)) (by first|rfl|decide|exact .inl rfl|exact .inr rfl|(intros; rfl)) (by first|rfl|decide|exact .inl rfl|exact .inr rfl|(intros; rfl)) (by first|rfl|decide|exact .inl rfl|exact .inr rfl|(intros; rfl))) (by first|rfl|decide|exact .inl rfl|exact .inr rfl|(intros; rfl)) (by first|rfl|decide|exact .inl rfl|exact .inr rfl|(intros; rfl))) (@pss_one _ _ _ (@ps_if _ _ _ _ _ _ _ _ (@pt_cmpR _ _ _ _ _ _ _ _ op_lt (pv 13) pe_int (by exact (nomark _))) (@pss_one _ _ _ (@ps_expr _ _ _ _ (@pe_bm _ _ _ _ _ _ _ _ _ _ _ _ (by exact PySem.F.plainAttrs_list) (by exact PySem.F.slot_list_append) (by exact PySem.F.type_list_append) mt_append (pv 9) (@pa_consN _ _ _ _ _ (@cc _ _ _ _ _ _ _ _ _ _ (by exact C_l_shares) (by exact (hr.mono (by decide))) (@pa_consN _ _ _ _ _ (@cc _ _ _ _ _ _ _ _ _ _ (by exact C_l_shifted) (by exact (hr.mono (by decide))) (@pa_consN _ _ _ _ _ (pv 1) (@pa_consN _ _ _ _ _ (pv 4) (@pa_consN _ _ _ _ _ (pv 13) pa_nil (by first|rfl|decide|exact .inl rfl|exact .inr rfl|(intros; rfl))) (by first|rfl|decide|exact .inl rfl|exact .inr rfl|(intros; rfl))) (by first|rfl|decide|exact .inl rfl|exact .inr rfl|(intros; rfl))) (by first|rfl|decide|exact .inl rfl|exact .inr rfl|(intros; rfl)) (by first|rfl|decide|exact .inl rfl|exact .inr rfl|(intros; rfl)) (by first|rfl|decide|exact .inl rfl|exact .inr rfl|(intros; rfl)) (by first|rfl|decide|exact .inl rfl|exact .inr rfl|(intros; rfl))) (@pa_consN _ _ _ _ _ (pv 5) pa_nil (by first|rfl|decide|exact .inl rfl|exact .inr rfl|(intros; rfl))) (by first|rfl|decide|exact .inl rfl|exact .inr rfl|(intros; rfl))) (by first|rfl|decide|exact .inl rfl|exact .inr rfl|(intros; rfl)) (by first|rfl|decide|exact .inl rfl|exact .inr rfl|(intros; rfl)) (by first|rfl|decide|exact .inl rfl|exact .inr rfl|(intros; rfl)) (by first|rfl|decide|exact .inl rfl|exact .inr rfl|(intros; rfl))) pa_nil (by first|rfl|decide|exact .inl rfl|exact .inr rfl|(intros; rfl))) (by first|rfl|decide|exact .inl rfl|exact .inr rfl|(intros; rfl)) (by first|rfl|decide|exact .inl rfl|exact .inr rfl|(intros; rfl)) (by first|rfl|decide|exact .inl rfl|exact .inr rfl|(intros; rfl)) (by first|rfl|decide|exact .inl rfl|exact .inr rfl|(intros; rfl)) (by first|rfl|decide|exact .inl rfl|exact .inr rfl|(intros; rfl))) (by first|rfl|decide|exact .inl rfl|exact .inr rfl|(intros; rfl)))) (@pss_one _ _ _ (@ps_expr _ _ _ _ (@pe_bm _ _ _ _ _ _ _ _ _ _ _ _ (by exact PySem.F.plainAttrs_list) (by exact PySem.F.slot_list_append) (by exact PySem.F.type_list_append) mt_append (pv 9) (@pa_consN _ _ _ _ _ (@cc _ _ _ _ _ _ _ _ _ _ (by exact C_l_odd) (by exact (hr.mono (by decide))) (@pa_consN _ _ _ _ _ (pv 1) (@pa_consN _ _ _ _ _ (pv 8) pa_nil (by first|rfl|decide|exact .inl rfl|exact .inr rfl|(intros; rfl))) (by first|rfl|decide|exact .inl rfl|exact .inr rfl|(intros; rfl))) (by first|rfl|decide|exact .inl rfl|exact .inr rfl|(intros; rfl)) (by first|rfl|decide|exact .inl rfl|exact .inr rfl|(intros; rfl)) (by first|rfl|decide|exact .inl rfl|exact .inr rfl|(intros; rfl)) (by first|rfl|decide|exact .inl rfl|exact .inr rfl|(intros; rfl))) pa_nil (by first|rfl|decide|exact .inl rfl|exact .inr rfl|(intros; rfl))) (by first|rfl|decide|exact .inl rfl|exact .inr rfl|(intros; rfl)) (by first|rfl|decide|exact .inl rfl|exact .inr rfl|(intros; rfl)) (by first|rfl|decide|exact .inl rfl|exact .inr rfl|(intros; rfl)) (by first|rfl|decide|exact .inl rfl|exact .inr rfl|(intros; rfl)) (by first|rfl|decide|exact .inl rfl|exact .inr rfl|(intros; rfl))) (by first|rfl|decide|exact .inl rfl|exact .inr rfl|(intros; rfl))))))) (by first|rfl|decide|exact .inl rfl|exact .inr rfl|(intros; rfl))) (@pss_cons _ _ _ _ _ (@ps_for _ _ _ _ _ _ _ _ (by exact PassesOwn.never) (by rfl) (@pi_list_K _ _ _ _ K (by rfl) (@pe_op _ _ _ _ _ _ _ _ op_cat (pv 9) (@pe_lst _ _ _ _ (@pa_consN _ _ _ _ _ (pv 8) pa_nil (by first|rfl|decide|exact .inl rfl|exact .inr rfl|(intros; rfl)))))) (@pg_name _ _ (11) _ (by exact S.nd) (by rfl) (by first | exact Or.inl rfl | exact Or.inr rfl) (by first|rfl|decide|exact .inl rfl|exact .inr rfl|(intros; rfl))) (@pss_cons _ _ _ _ _ (@ps_set _ _ (14) _ _ _ _ (by exact S.nd) (by rfl) (by first | exact Or.inl rfl | exact Or.inr rfl) (@pe_callB _ _ _ _ _ _ _ _ _ (call_reprD hr) (by rfl) (by exact T.z_repr) (by exact bt_repr) (@pa_consN _ _ _ _ _ (pv 11) pa_nil (by first|rfl|decide|exact .inl rfl|exact .inr rfl|(intros; rfl))) (by first|rfl|decide|exact .inl rfl|exact .inr rfl|(intros; rfl)) (by first|rfl|decide|exact .inl rfl|exact .inr rfl|(intros; rfl)) (by first|rfl|decide|exact .inl rfl|exact .inr rfl|(intros; rfl)) (by first|rfl|decide|exact .inl rfl|exact .inr rfl|(intros; rfl))) (by first|rfl|decide|exact .inl rfl|exact .inr rfl|(intros; rfl)) (by first|rfl|decide|exact .inl rfl|exact .inr rfl|(intros; rfl))) (@pss_cons _ _ _ _ _ (@ps_set _ _ (15) _ _ _ _ (by exact S.nd) (by rfl) (by first | exact Or.inl rfl | exact Or.inr rfl) (@cc _ _ _ _ _ _ _ _ _ _ (by exact C_l_told) (by exact (hr.mono (by decide))) (@pa_consN _ _ _ _ _ (pv 6) (@pa_consN _ _ _ _ _ (pv 7) (@pa_consN _ _ _ _ _ (pv 11) pa_nil (by first|rfl|decide|exact .inl rfl|exact .inr rfl|(intros; rfl))) (by first|rfl|decide|exact .inl rfl|exact .inr rfl|(intros; rfl))) (by first|rfl|decide|exact .inl rfl|exact .inr rfl|(intros; rfl))) (by first|rfl|decide|exact .inl rfl|exact .inr rfl|(intros; rfl)) (by first|rfl|decide|exact .inl rfl|exact .inr rfl|(intros; rfl)) (by first|rfl|decide|exact .inl rfl|exact .inr rfl|(intros; rfl)) (by first|rfl|decide|exact .inl rfl|exact .inr rfl|(intros; rfl))) (by first|rfl|decide|exact .inl rfl|exact .inr rfl|(intros; rfl)) (by first|rfl|decide|exact .inl rfl|exact .inr rfl|(intros; rfl))) (@pss_one _ _ _ (@ps_if _ _ _ _ _ _ _ _ (@PW.pt _ _ _ (@pw_or _ _ _ _ _ _ _ (@pt_not _ _ _ _ (@pt_val _ _ _ (@pe_callB _ _ _ _ _ _ _ _ _ call_isi (by rfl) (by exact T.z_isinstance) (by exact bt_isinstance) (@pa_consN _ _ _ _ _ (pv 15) (@pa_consN _ _ _ _ _ (@pe_bltn _ _ (.ty "bool") _ _ (by rfl) (by exact T.z_bool) (by exact bt_bool) (by rfl) (by first|rfl|decide|exact .inl rfl|exact .inr rfl|(intros; rfl)) (by first|rfl|decide|exact .inl rfl|exact .inr rfl|(intros; rfl))) pa_nil (by first|rfl|decide|exact .inl rfl|exact .inr rfl|(intros; rfl))) (by first|rfl|decide|exact .inl rfl|exact .inr rfl|(intros; rfl))) (by first|rfl|decide|exact .inl rfl|exact .inr rfl|(intros; rfl)) (by first|rfl|decide|exact .inl rfl|exact .inr rfl|(intros; rfl)) (by first|rfl|decide|exact .inl rfl|exact .inr rfl|(intros; rfl)) (by first|rfl|decide|exact .inl rfl|exact .inr rfl|(intros; rfl))) (by first|rfl|decide|exact .inl rfl|exact .inr rfl|(intros; rfl)))) (@pw_or _ _ _ _ _ _ _ (@pt_cmpR _ _ _ _ _ _ _ _ op_ne (pv 15) (@cc _ _ _ _ _ _ _ _ _ _ (by exact C_l_is_pairing) (by exact (hr.mono (by decide))) (@pa_consN _ _ _ _ _ (pv 6) (@pa_consN _ _ _ _ _ (pv 7) (@pa_consN _ _ _ _ _ (pv 11) pa_nil (by first|rfl|decide|exact .inl rfl|exact .inr rfl|(intros; rfl))) (by first|rfl|decide|exact .inl rfl|exact .inr rfl|(intros; rfl))) (by first|rfl|decide|exact .inl rfl|exact .inr rfl|(intros; rfl))) (by first|rfl|decide|exact .inl rfl|exact .inr rfl|(intros; rfl)) (by first|rfl|decide|exact .inl rfl|exact .inr rfl|(intros; rfl)) (by first|rfl|decide|exact .inl rfl|exact .inr rfl|(intros; rfl)) (by first|rfl|decide|exact .inl rfl|exact .inr rfl|(intros; rfl))) (by exact (nomark _))) (@pw_or1 _ _ _ _ (@pt_cmpR _ _ _ _ _ _ _ _ op_ne (@pe_callB _ _ _ _ _ _ _ _ _ (call_reprD hr) (by rfl) (by exact T.z_repr) (by exact bt_repr) (@pa_consN _ _ _ _ _ (pv 11) pa_nil (by first|rfl|decide|exact .inl rfl|exact .inr rfl|(intros; rfl))) (by first|rfl|decide|exact .inl rfl|exact .inr rfl|(intros; rfl)) (by first|rfl|decide|exact .inl rfl|exact .inr rfl|(intros; rfl)) (by first|rfl|decide|exact .inl rfl|exact .inr rfl|(intros; rfl)) (by first|rfl|decide|exact .inl rfl|exact .inr rfl|(intros; rfl))) (pv 14) (by exact (nomark _))))))) (@pss_one _ _ _ (@ps_ret _ _ _ _ pe_bl)) pss_nil)))) (by first|rfl|decide|exact .inl rfl|exact .inr rfl|(intros; rfl))) (@pss_cons _ _ _ _ _ (@ps_set _ _ (12) _ _ _ _ (by exact S.nd) (by rfl) (by first | exact Or.inl rfl | exact Or.inr rfl) (@pe_op _ _ _ _ _ _ _ _ op_catT' (@pe_tup _ _ _ _ _ (@pa_consN _ _ _ _ _ (@pe_tup _ _ _ _ _ (@pa_consN _ _ _ _ _ pe_int (@pa_consN _ _ _ _ _ pe_int pa_nil (by first|rfl|decide|exact .inl rfl|exact .inr rfl|(intros; rfl))) (by first|rfl|decide|exact .inl rfl|exact .inr rfl|(intros; rfl)))) pa_nil (by first|rfl|decide|exact .inl rfl|exact .inr rfl|(intros; rfl)))) (@pe_op _ _ _ _ _ _ _ _ op_repT (@pe_tup _ _ _ _ _ (@pa_consN _ _ _ _ _ (@pe_tup _ _ _ _ _ (@pa_consN _ _ _ _ _ pe_int (@pa_consN _ _ _ _ _ pe_int pa_nil (by first|rfl|decide|exact .inl rfl|exact .inr rfl|(intros; rfl))) (by first|rfl|decide|exact .inl rfl|exact .inr rfl|(intros; rfl)))) pa_nil (by first|rfl|decide|exact .inl rfl|exact .inr rfl|(intros; rfl)))) (@pe_op _ _ _ _ _ _ _ _ op_mod (pv 3) pe_int))) (by first|rfl|decide|exact .inl rfl|exact .inr rfl|(intros; rfl)) (by first|rfl|decide|exact .inl rfl|exact .inr rfl|(intros; rfl))) (@pss_one _ _ _ (@ps_for _ _ _ _ _ _ _ _ (by exact PassesOwn.never) (by rfl) (@pi_list_K _ _ _ _ K (by rfl) (@pe_lst _ _ _ _ (@pa_consN _ _ _ _ _ (pv 8) (@pa_consN _ _ _ _ _ pe_non (@pa_consN _ _ _ _ _ (@pe_ix _ _ _ _ _ _ _ ix_list (pv 9) pe_int (by exact (fun _ _ => rfl))) pa_nil (by first|rfl|decide|exact .inl rfl|exact .inr rfl|(intros; rfl))) (by first|rfl|decide|exact .inl rfl|exact .inr rfl|(intros; rfl))) (by first|rfl|decide|exact .inl rfl|exact .inr rfl|(intros; rfl))))) (@pg_name _ _ (11) _ (by exact S.nd) (by rfl) (by first | exact Or.inl rfl | exact Or.inr rfl) (by first|rfl|decide|exact .inl rfl|exact .inr rfl|(intros; rfl))) (@pss_one _ _ _ (@ps_if _ _ _ _ _ _ _ _ (@PW.pt _ _ _ (@pw_or _ _ _ _ _ _ _ (@pt_cmpR _ _ _ _ _ _ _ _ op_ne (@cc _ _ _ _ _ _ _ _ _ _ (by exact C_l_told) (by exact (hr.mono (by decide))) (@pa_consN _ _ _ _ _ (pv 12) (@pa_consN _ _ _ _ _ (pv 7) (@pa_consN _ _ _ _ _ (pv 11) pa_nil (by first|rfl|decide|exact .inl rfl|exact .inr rfl|(intros; rfl))) (by first|rfl|decide|exact .inl rfl|exact .inr rfl|(intros; rfl))) (by first|rfl|decide|exact .inl rfl|exact .inr rfl|(intros; rfl))) (by first|rfl|decide|exact .inl rfl|exact .inr rfl|(intros; rfl)) (by first|rfl|decide|exact .inl rfl|exact .inr rfl|(intros; rfl)) (by first|rfl|decide|exact .inl rfl|exact .inr rfl|(intros; rfl)) (by first|rfl|decide|exact .inl rfl|exact .inr rfl|(intros; rfl))) pe_str (by exact (nomark _))) (@pw_or1 _ _ _ _ (@pt_cmpR _ _ _ _ _ _ _ _ op_ne (@cc _ _ _ _ _ _ _ _ _ _ (by exact C_l_told) (by exact (hr.mono (by decide))) (@pa_consN _ _ _ _ _ (pv 6) (@pa_consN _ _ _ _ _ (pv 12) (@pa_consN _ _ _ _ _ (pv 11) pa_nil (by first|rfl|decide|exact .inl rfl|exact .inr rfl|(intros; rfl))) (by first|rfl|decide|exact .inl rfl|exact .inr rfl|(intros; rfl))) (by first|rfl|decide|exact .inl rfl|exact .inr rfl|(intros; rfl))) (by first|rfl|decide|exact .inl rfl|exact .inr rfl|(intros; rfl)) (by first|rfl|decide|exact .inl rfl|exact .inr rfl|(intros; rfl)) (by first|rfl|decide|exact .inl rfl|exact .inr rfl|(intros; rfl)) (by first|rfl|decide|exact .inl rfl|exact .inr rfl|(intros; rfl))) pe_str (by exact (nomark _)))))) (@pss_one _ _ _ (@ps_ret _ _ _ _ pe_bl)) pss_nil)) (by first|rfl|decide|exact .inl rfl|exact .inr rfl|(intros; rfl)))))))))))))) (by first|rfl|decide|exact .inl rfl|exact .inr rfl|(intros; rfl))) (@pss_one _ _ _ (@ps_ret _ _ _ _ (@pe_cmpR _ _ _ _ _ _ _ _ op_isB (@cc _ _ _ _ _ _ _ _ _ _ (by exact C_l_told) (by exact (hr.mono (by decide))) (@pa_consN _ _ _ _ _ (pv 6) (@pa_consN _ _ _ _ _ (pv 7) (@pa_consN _ _ _ _ _ (pv 8) pa_nil (by first|rfl|decide|exact .inl rfl|exact .inr rfl|(intros; rfl))) (by first|rfl|decide|exact .inl rfl|exact .inr rfl|(intros; rfl))) (by first|rfl|decide|exact .inl rfl|exact .inr rfl|(intros; rfl))) (by first|rfl|decide|exact .inl rfl|exact .inr rfl|(intros; rfl)) (by first|rfl|decide|exact .inl rfl|exact .inr rfl|(intros; rfl)) (by first|rfl|decide|exact .inl rfl|exact .inr rfl|(intros; rfl)) (by first|rfl|decide|exact .inl rfl|exact .inr rfl|(intros; rfl))) pe_bl (by exact (nomark _))))))), ?_⟩
  refine ⟨_, rfl, a, ns, rfl, hS, fun p H0 s0 pen0 => ?_⟩
  refine ⟨2, rfl, by decide, by decide, for_range (n := 2) (fun i σ H2 => (∃ o2 o3 o4 o5 o6 o7 o8 o9 o10 o11 o12 o13 o14 o15, σ = [some (.ref a), some (.ref p), o2, o3, o4, o5, o6, o7, o8, o9, o10, o11, o12, o13, o14, o15] ∧ (1 ≤ i → ∃ v1 v2 v3 qs rs d, o6 = some v1 ∧ o7 = some v2 ∧ o8 = some v3 ∧ RuAt H2 v1 qs ∧ RuAt H2 v2 rs ∧ DataV H2 v3 d ∧ qs.length ≤ 12 ∧ qs.length = rs.length ∧ Bd d ∧ PairOk qs rs d)) ∧ PenZ K H2 p (300 * i)) ⟨⟨_, _, _, _, _, _, _, _, _, _, _, _, _, _, rfl, fun z => by omega⟩, pen0⟩ ?_ ?_⟩
  · rintro i σ H2 hi ⟨⟨o2, o3, o4, o5, o6, o7, o8, o9, o10, o11, o12, o13, o14, o15, rfl, _⟩, pen⟩
    refine ⟨_, rfl, lz 2 rfl, fun t1 ht1 => ?_⟩
    have s_H3 := same_new ht1 (.tup [.int 6, .int 12])
    have g_t1 : upd H2 t1 (.tup [.int 6, .int 12]) t1 = some (.tup [.int 6, .int 12]) := upd_same
    generalize upd H2 t1 (.tup [.int 6, .int 12]) = H3 at s_H3 g_t1 ⊢
    have pen3 := pen.same s_H3
    refine ⟨_, rfl, p, _, _, rfl, pen3, by omega, by decide, by decide, fun r H4 r0 r1 pen4 x4 => ?_⟩
    obtain ⟨mo, hmo, mo1, mo2⟩ : ∃ mo : Int, atI ([.int 6, .int 12] : List V) r = some (.int mo) ∧ 6 ≤ mo ∧ mo ≤ 12 := by
      rcases (show r = 0 ∨ r = 1 by omega) with rfl | rfl
      · exact ⟨6, rfl, by decide, by decide⟩
      · exact ⟨12, rfl, by decide, by decide⟩
    refine ⟨t1, _, _, _, rfl, rfl, SqT.of (pen3.keepT x4 g_t1), hmo, p, _, _, rfl, pen4, by omega, by omega, by omega, fun d H5 d0 d1 pen5 x5 => ⟨_, _, rfl, rfl, ?_⟩⟩
    dsimp only
    obtain ⟨n, hn⟩ : ∃ n : Nat, 1 + d = (n : Int) := ⟨(1 + d).toNat, by omega⟩
    rw [hn]
    have n1 : 1 ≤ n := by omega
    have n12 : n ≤ 12 := by omega
    refine ⟨_, rfl, _, rfl, p, n, _, rfl, pen5, by omega, n1, n12, fun l T' H6 nl ⟨xs, hl, rws⟩ tb nn low tot pen6 x6 => ?_⟩
    have lx := rws.len
    have tl := tb.len
    obtain ⟨W, hW⟩ : ∃ W, W = totT T' := ⟨_, rfl⟩
    have W0 : 0 < W := by omega
    have W1 : W ≤ 4320 := by rw [hW]; exact tot_le tb n12
    have lp : l ≠ p := pen5.ne nl
    have np6 : ∀ x ∈ xs, ∃ b, x = .ref b := rws.refs
    have bW : Bt 8000 W := (bt30 (x := W) (by omega)).mono (by decide)
    -- whole
    refine ⟨_, rfl, l, rfl, ⟨_, SqL.of hl⟩, comp_lst (a := l) (xs := xs) (fs := []) (fun acc i ys H' => Same H6 H' ∧ ys = iv ((T'.take i).map List.sum)) (by omega) ?_ ?_ ?_ ?_⟩
    · exact fun acc hacc => ⟨same_new hacc _, rfl⟩
    · exact fun acc i ys H' hacc ⟨s', _⟩ => s' _ _ hl
    · rintro acc i ys H' x hacc hx hlen ⟨s', rfl⟩ hacc' Q' hQ
      obtain ⟨r, hr', ra, rfl, hra⟩ := rws.at hx
      refine ⟨_, rfl, ra, r, rfl, s' _ _ hra, hQ _ H' hacc' ⟨same_upd s' hacc, ?_⟩⟩
      rw [List.take_add_one, hr']; simp
    rintro acc ys H7 hacc ⟨s67, rfl⟩ hacc' hlen
    rw [lx, List.take_length] at hacc'
    refine ⟨acc, T'.map List.sum, rfl, hacc', ?_⟩
    rw [show (T'.map List.sum).sum = W from hW.symm]
    -- one
    have hl7 := s67 _ _ hl
    refine ⟨_, rfl, l, rfl, ⟨_, SqL.of hl7⟩, comp_lst (a := l) (xs := xs) (fs := [some (.int W)]) (fun acc i ys H' => Same H7 H' ∧ Shs H' ys (oneF (T'.take i) W)) (by omega) ?_ ?_ ?_ ?_⟩
    · exact fun acc hacc => ⟨same_new hacc _, .nil⟩
    · exact fun acc i ys H' hacc ⟨s', _⟩ => s' _ _ hl7
    · rintro acc i ys H' x hacc hx hlen ⟨s', sh⟩ hacc' Q' hQ
      obtain ⟨r, hr', ra, rfl, hra⟩ := rws.at hx
      refine ⟨_, rfl, ra, r, rfl, (s67.trans s') _ _ hra, _, rfl, r.sum, W, rfl, W0, bW, fun v H8 s8 h8 => ?_⟩
      refine hQ _ H8 (s8 _ _ hacc') ⟨same_upd (s'.trans s8) hacc, ?_⟩
      have e : oneF (T'.take (i + 1)) W = oneF (T'.take i) W ++ [Rat.divInt r.sum W] := by unfold oneF; rw [List.take_add_one, hr', List.map_append]; rfl
      rw [e]
      exact Shs.snoc (shUpdL (s8 _ _ hacc') h8) (Shs.updL (s8 _ _ hacc') (sh.same s8))
    rintro acc1 ys1 H8 hacc1 ⟨s78, sh1⟩ hacc1' hlen1
    rw [lx, List.take_length] at sh1
    refine ⟨acc1, ys1, rfl, .inl ⟨SqL.of hacc1', fun on hon => ?_⟩⟩
    have s_H9 := same_new hon (.tup ys1)
    have g_on : upd H8 on (.tup ys1) on = some (.tup ys1) := upd_same
    generalize upd H8 on (.tup ys1) = H9 at s_H9 g_on ⊢
    have hl := (s67.trans (s78.trans s_H9)) _ _ hl
    have s69 : Same H6 H9 := s67.trans (s78.trans s_H9)
    have rws9 := rws.same s69
    have r1 : RuAt H9 (.ref on) (oneF T' W) := ⟨on, ys1, rfl, g_on, sh1.same s_H9⟩
    -- other
    refine ⟨_, rfl, _, rfl, by omega, by omega, comp_Y (yields_rng (lo := 0) (n := (n : Int).toNat)) (fun acc i ys σ' H' => (∃ o0, σ' = [o0, some (.ref l), some (.int W)]) ∧ Same H9 H' ∧ Shs H' ys (othF T' W i)) (by omega) ?_ (fun _ _ _ _ _ _ _ => trivial) ?_ ?_⟩
    · exact fun acc hacc => ⟨⟨_, rfl⟩, same_new hacc _, .nil⟩
    · rintro acc i ys σ' X10 x H10 hacc hi hlen ⟨⟨o0, rfl⟩, s910, sh⟩ hH10 ⟨rfl, rfl⟩ Q1 Q2 h1 h2
      have hin : i < n := by omega
      refine gN_ (tT_ (iteT ?_))
      have hl10 := s910 _ _ hl
      refine ⟨_, rfl, l, rfl, ⟨_, SqL.of hl10⟩, comp_Y (yields_lst (xs := xs)) (fun acc2 j ws σ' H' => (∃ o0, σ' = [o0, some (.int (0 + (i : Int)))]) ∧ Same H10 H' ∧ ws = iv ((T'.take j).map fun r => r.getD i 0)) (by omega) ?_ (fun _ _ _ _ _ _ h => h.2.1 _ _ hl10) ?_ ?_⟩
      · exact fun acc2 hacc2 => ⟨⟨_, rfl⟩, same_new hacc2 _, rfl⟩
      · rintro acc2 j ws σ' X11 x2 H11 hacc2 hj hlen2 ⟨⟨o0, rfl⟩, s11, rfl⟩ hH11 ⟨rfl, hx2⟩ Q3 Q4 h3 h4
        obtain ⟨r, hr', ra, rfl, hra⟩ := rws9.at hx2
        have rl := tb.row r (List.mem_of_getElem? hr')
        refine gN_ (tT_ (iteT ?_))
        refine ⟨_, rfl, _, rfl, ra, _, _, _, rfl, rfl, (s910.trans s11) _ _ hra, (by show atI (iv r) (0 + (i : Int)) = _; rw [Int.zero_add]; exact iv_atI (i := i) (by omega)), ?_⟩
        refine h3 _ _ H11 hH11 ⟨⟨_, rfl⟩, same_updN hacc2 s11 _, ?_⟩
        rw [List.take_add_one, hr']; simp
      · rintro acc2 ws σ' H11 hacc2 ⟨⟨o0, rfl⟩, s11, rfl⟩ hH11 hlen2
        rw [lx, List.take_length] at hH11
        refine ⟨acc2, _, rfl, hH11, _, rfl, _, W, rfl, W0, bW, fun v H12 s12 h12 => ?_⟩
        have s1012 := s11.trans s12
        refine h1 _ _ H12 (s1012 _ _ hH10) ⟨⟨_, rfl⟩, same_updN hacc (s910.trans s1012) _, ?_⟩
        unfold othF
        rw [map_range_succ]
        exact Shs.snoc (shUpdL (s1012 _ _ hH10) h12) (Shs.updL (s1012 _ _ hH10) (sh.same s1012))
    rintro acc2 ys2 σ' H10 hacc2 ⟨_, s910, sh2⟩ hacc2' hlen2
    rw [Int.toNat_natCast] at sh2
    refine ⟨acc2, ys2, rfl, .inl ⟨SqL.of hacc2', fun ot hot => ?_⟩⟩
    have s_H11 := same_new hot (.tup ys2)
    have g_ot : upd H10 ot (.tup ys2) ot = some (.tup ys2) := upd_same
    generalize upd H10 ot (.tup ys2) = H11 at s_H11 g_ot ⊢
    have hl := (s910.trans s_H11) _ _ hl
    have s611 : Same H6 H11 := s67.trans (s78.trans (s_H9.trans (s910.trans s_H11)))
    have s911 : Same H9 H11 := s910.trans s_H11
    have r2 : RuAt H11 (.ref ot) (othF T' W n) := ⟨ot, ys2, rfl, g_ot, sh2.same s_H11⟩
    have tb1000 : Tb n 1000 T' := tb.mono (by decide)
    refine ⟨_, rfl, _, rfl, l, T', W, n, rfl, ⟨xs, hl, rws.same s611⟩, tb1000, n12, W0, by omega, fun gd H12 s12 hgd => ?_⟩
    have s4 := sq_matT tb1000 W0 (show W ≤ 5000 by omega)
    have pok := good_pair tb nn low W0
    have l1 : (oneF T' W).length = n := by simp [oneF, tl]
    have l2 : (othF T' W n).length = n := by simp [othF]
    refine ⟨_, rfl, lz 1 rfl, fun L hL => ?_⟩
    have s_G := same_new hL (.lst [gd])
    have g_L : upd H12 L (.lst [gd]) L = some (.lst [gd]) := upd_same
    generalize upd H12 L (.lst [gd]) = G at s_G g_L ⊢
    have hl := (s12.trans s_G) _ _ hl
    have s6G : Same H6 G := s67.trans (s78.trans (s_H9.trans (s910.trans (s_H11.trans (s12.trans s_G)))))
    have s9G : Same H9 G := s910.trans (s_H11.trans (s12.trans s_G))
    have s11G : Same H11 G := s12.trans s_G
    have penG := pen6.same s6G
    have Lp : L ≠ p := fun z => by
      obtain ⟨_, _, _, _, e, _⟩ := pen6.same (s611.trans s12)
      rw [z, e] at hL; cases hL
    have lL : l ≠ L := fun z => by
      have := (s611.trans s12) _ _ (show H6 l = some (.lst xs) by assumption)
      rw [z, hL] at this; cases this
    have rwG := rws.same s6G
    have r1G := r1.same s9G
    have r2G := r2.same s11G
    have hgG := hgd.same s_G
    have plG : PL K G p L _ := ⟨penG, ⟨_, g_L⟩, Lp⟩
    have tkx : ∀ {H' : Hp}, Sx p L G H' → ∀ b us, G b = some (.tup us) → H' b = some (.tup us) := fun {H'} sx b us e => sx b _ (plG.neT e).1 (plG.neT e).2 e
    have gdL : ∀ y ∈ [gd], ∃ b, y = .ref b := fun y hy => by
      obtain ⟨t, _, e, _⟩ := hgd
      exact ⟨t, by rw [List.mem_singleton.mp hy, e]⟩
    have rne : ∀ r ∈ T', r ≠ [] := fun r hr z => by have := tb.row r hr; rw [z] at this; simp at this; omega
    have tabx : ∀ {H' : Hp}, Sx p L G H' → TabAt H' l T' := fun {H'} sx => by
      refine ⟨xs, sx l _ lp lL hl, ?_⟩
      have go : ∀ {xs : List V} {T : List (List Int)}, Rws G xs T → (∀ r ∈ T, r ≠ []) → Rws H' xs T := by
        intro xs T h
        induction h with
        | nil => exact fun _ => .nil
        | @cons x r xs T h _ ih =>
          intro hne
          obtain ⟨b, e, hb⟩ := h
          exact .cons ⟨b, e, sx b _ (penG.neL hb) (ls_ne hb g_L (hne r List.mem_cons_self) gdL) hb⟩ (ih fun r hr => hne r (List.mem_cons_of_mem _ hr))
      exact go rwG rne
    refine ⟨8, rfl, by decide, by decide, for_range (n := 8) (fun j σ H' => (∃ o10 o11 o12 o13 o14 o15, σ = [some (.ref a), some (.ref p), some (.int (0 + (i : Int))), some (.int (n : Int)), some (.ref l), some (.int W), some (.ref on), some (.ref ot), some gd, some (.ref L), o10, o11, o12, o13, o14, o15]) ∧ Sx p L G H' ∧ PenZ K H' p (300 * i + 170 + 10 * j) ∧ ∃ vs, H' L = some (.lst vs) ∧ (vs.length = j + 1 ∧ vs[0]? = some gd) ∧ RwX 70000 6 H' p L vs) ⟨⟨_, _, _, _, _, _, rfl⟩, fun _ _ _ _ e => e, penG.mono (by omega), [gd], g_L, ⟨rfl, rfl⟩, ?_⟩ ?_ ?_⟩
    · obtain ⟨d, h1, h2⟩ := mat_ok plG hgG s4 n12
      exact RwX.one h1 h2
    · rintro j σ H1 hj ⟨⟨o10, o11, o12, o13, o14, o15, rfl⟩, sx, penj, vs, hL1, ⟨vl, v0⟩, rv⟩
      refine ⟨_, rfl, p, _, _, rfl, penj, by omega, by decide, by decide, fun sp H2' sp0 sp1 pen2' x2 => ?_⟩
      have sx2 := sx.y x2
      have hL2 := x2.all _ _ hL1 Lp
      have rv2 := rv.y x2
      have fin : ∀ (u : V) (H' : Hp), SameY p H2' H' → PenZ K H' p (300 * i + 170 + 10 * (j + 1)) → (∃ d, DX H' p L u d ∧ Ok4 70000 6 d) → H' L = some (.lst vs) ∧ (Sx p L G (upd H' L (.lst (vs ++ [u]))) ∧ PenZ K (upd H' L (.lst (vs ++ [u]))) p (300 * i + 170 + 10 * (j + 1)) ∧ ∃ vs', upd H' L (.lst (vs ++ [u])) L = some (.lst vs') ∧ (vs'.length = j + 1 + 1 ∧ vs'[0]? = some gd) ∧ RwX 70000 6 (upd H' L (.lst (vs ++ [u]))) p L vs') := fun u H' x' p' ⟨d, h1, h2⟩ => by
        have hL' := x'.all _ _ hL2 Lp
        refine ⟨hL', (sx2.y x').u, ?_, vs ++ [u], upd_same, ⟨by simp [vl], by rw [List.getElem?_append_left (by omega)]; exact v0⟩, ?_⟩
        · obtain ⟨c, ms, b1, b2, e1, e2, e3, e4⟩ := p'
          refine ⟨c, ms, b1, b2, by rw [upd_ne (Ne.symm Lp)]; exact e1, ?_, e3, e4⟩
          rcases e2 with (e2 | ⟨ob, e2⟩) | e2
          · by_cases cL : c = L
            · exfalso
              subst cL
              rw [hL'] at e2
              have e5 := HO.lst.inj (Option.some.inj e2)
              cases ms with
              | nil => simp at e5; rw [e5] at vl; simp at vl
              | cons z ms =>
                rw [e5] at v0
                obtain ⟨t, _, e6, _⟩ := hgd
                rw [e6] at v0
                simp at v0
            · exact .inl (.inl (by rw [upd_ne cL]; exact e2))
          · exact .inl (.inr ⟨ob, by rw [upd_ne (fun z => by rw [z, hL'] at e2; cases e2)]; exact e2⟩)
          · exact .inr e2
        · intro v hv
          rcases List.mem_append.mp hv with z | z
          · obtain ⟨d', h3, h4⟩ := rv2 v z
            exact ⟨d', (h3.y x').u, h4⟩
          · rw [List.mem_singleton.mp z]
            exact ⟨d, h1.u, h2⟩
      have pl2 : PL K H2' p L _ := ⟨pen2', ⟨_, hL2⟩, Lp⟩
      refine ⟨_, rfl, _, _, rfl, rfl, _, rfl, ?_⟩
      refine ite2 (fun c => ?_) (fun c => ?_)
      · refine ⟨_, rfl, .inl ⟨rfl, _, SqL.of hL2⟩, _, rfl, _, rfl, _, rfl, p, l, n, _, T', sp, rfl, pen2', by omega, lp, tabx sx2, tb, n1, n12, sp0, fun l' T2 H3' nl2 tab2 tb2 pen3' x3' => ?_⟩
        refine ⟨_, rfl, l', T2, W, n, rfl, tab2, tb2.mono (by decide), n12, W0, by omega, fun v H4' s4' hm4 => ?_⟩
        have y24 := x3'.trans (Same.y s4')
        have pl4 : PL K H4' p L _ := pl2.y y24 (pen3'.same s4')
        obtain ⟨q1, q2, q3, q4⟩ := fin v H4' y24 ((pen3'.same s4').mono (by omega)) (mat_ok pl4 hm4 (sq_matT (tb2.mono (by decide)) W0 (by omega)) n12)
        exact ⟨L, vs, _, rfl, rfl, q1, by rw [sizeLine_eq]; omega, ⟨_, _, _, _, _, _, rfl⟩, q2, q3, q4⟩
      · refine ⟨_, rfl, .inl ⟨rfl, _, SqL.of hL2⟩, _, rfl, _, rfl, p, gd, matT T' W, n, _, rfl, mat_k (tkx sx2) hgG, s4, n1, n12, pen2', by omega, fun u H3' x3' pen3' dx => ?_⟩
        obtain ⟨q1, q2, q3, q4⟩ := fin u H3' x3' (pen3'.mono (by omega)) (dx L ⟨_, hL2⟩ Lp)
        exact ⟨L, vs, _, rfl, rfl, q1, by rw [sizeLine_eq]; omega, ⟨_, _, _, _, _, _, rfl⟩, q2, q3, q4⟩
    · rintro σ I0 ⟨⟨o10, o11, o12, o13, o14, o15, rfl⟩, sx, penI, vs, hLI, ⟨vl, _⟩, rv⟩
      have rA : RuAt I0 (.ref on) (oneF T' W) := ru_k (tkx sx) r1G
      have rB : RuAt I0 (.ref ot) (othF T' W n) := ru_k (tkx sx) r2G
      have hgI := mat_k (tkx sx) hgG
      have plI : PL K I0 p L _ := ⟨penI, ⟨_, hLI⟩, Lp⟩
      refine ⟨_, rfl, _, rfl, lz 1 rfl, fun m1 hm1 => ?_⟩
      have s_I1 := same_new hm1 (.lst [gd])
      have g_m1 : upd I0 m1 (.lst [gd]) m1 = some (.lst [gd]) := upd_same
      generalize upd I0 m1 (.lst [gd]) = I1 at s_I1 g_m1 ⊢
      refine ⟨L, m1, _, _, rfl, rfl, s_I1 _ _ hLI, g_m1, lzz (by simp; omega), fun m2 hm2 => ?_⟩
      have s_I2 := same_new hm2 (.lst (vs ++ [gd]))
      have g_m2 : upd I1 m2 (.lst (vs ++ [gd])) m2 = some (.lst (vs ++ [gd])) := upd_same
      generalize upd I1 m2 (.lst (vs ++ [gd])) = I2 at s_I2 g_m2 ⊢
      have s02 : Same I0 I2 := s_I1.trans s_I2
      have all : ∀ v ∈ vs ++ [gd], ∃ d, DataV I0 v d ∧ Ok4 70000 6 d := fun v hv => by
        rcases List.mem_append.mp hv with z | z
        · obtain ⟨d, h1, h2⟩ := rv v z
          exact ⟨d, h1.data, h2⟩
        · rw [List.mem_singleton.mp z]
          obtain ⟨d, h1, h2⟩ := mat_ok plI hgI s4 n12
          exact ⟨d, h1.data, h2⟩
      refine ⟨m2, rfl, ⟨_, SqL.of g_m2⟩, for_Y (yields_lst (xs := vs ++ [gd])) (fun j σ H' => (∃ o11 o12 o14 o15, σ = [some (.ref a), some (.ref p), some (.int (0 + (i : Int))), some (.int (n : Int)), some (.ref l), some (.int W), some (.ref on), some (.ref ot), some gd, some (.ref L), o10, o11, o12, o13, o14, o15]) ∧ Same I2 H') ⟨⟨_, _, _, _, rfl⟩, Same.refl _⟩ (fun _ _ _ h => h.2 _ _ g_m2) ?_ ?_⟩
      · rintro j v σ X3 I3 hj ⟨⟨o11, o12, o14, o15, rfl⟩, s23⟩ ⟨rfl, hv⟩
        obtain ⟨d, hd0, ok⟩ := all v (List.mem_of_getElem? hv)
        have s03 := s02.trans s23
        have hd := hd0.same s03
        have kx : d.showable = true ∧ d.depth ≤ 20 ∧ d.shown.length ≤ sizeLine := ⟨ok.kx.sh, Nat.le_trans ok.kx.dp (by decide), ok.kx.ln (by decide)⟩
        obtain ⟨tx, etx⟩ : ∃ x, x = d.shown := ⟨_, rfl⟩
        rw [← etx] at kx
        refine gN_ ?_
        refine ⟨_, rfl, v, d, rfl, hd, kx.1, kx.2.1, etx ▸ kx.2.2, ?_⟩
        rw [← etx]
        refine ⟨_, rfl, _, rfl, _, rfl, .ref on, .ref ot, v, _, _, d, rfl, rA.same s03, rB.same s03, by omega, hd, ok.ai.bdi.bd, fun ne => absurd (by rw [l1, l2]) ne, fun _ t I4 ht s34 => ?_⟩
        refine ⟨_, rfl, _, _, _, _, rfl, .bl t, rfl, _, rfl, iteF ?_⟩
        have s04 := s03.trans s34
        refine ⟨_, rfl, _, rfl, _, rfl, _, rfl, .ref on, .ref ot, v, _, _, d, rfl, rA.same s04, rB.same s04, by rw [l1, l2], by omega, hd.same s34, ok.ai.bdi, fun t2 I5 ht2 s45 => ?_⟩
        have et : t = t2 := by
          cases t <;> cases t2 <;> simp_all
        subst et
        refine ⟨rfl, _, rfl, iteNS rfl ?_⟩
        have s35 := s34.trans s45
        refine ⟨_, rfl, v, d, rfl, hd.same s35, kx.1, kx.2.1, etx ▸ kx.2.2, ?_⟩
        rw [← etx]
        exact ⟨_, rfl, rfl, _, rfl, iteNS rfl ⟨⟨_, _, _, _, rfl⟩, s23.trans s35⟩⟩
      · rintro σ J0 ⟨⟨o11, o12, o14, o15, rfl⟩, s2J⟩
        have s0J := s02.trans s2J
        apply joinA (C := fun z H' => RuAt H' (.ref z) (wdF n) ∧ Same J0 H')
        case main =>
          intro key
          refine ⟨lz 2 rfl, fun u1 hu1 => ⟨lz 1 rfl, fun w1 hw1 => ⟨lz 2 rfl, fun u0 hu0 => ⟨lz 1 rfl, fun w0 hw0 => ?_⟩⟩⟩⟩
          have c1 := same_new hu1 (.tup [.int 1, .int 1])
          have c2 := same_new hw1 (.tup [.ref u1])
          have c3 := same_new hu0 (.tup [.int 0, .int 1])
          have c4 := same_new hw0 (.tup [.ref u0])
          have e1 : (upd J0 u1 (.tup [.int 1, .int 1])) u1 = some (.tup [.int 1, .int 1]) := upd_same
          have e2 : (upd (upd J0 u1 (.tup [.int 1, .int 1])) w1 (.tup [.ref u1])) w1 = some (.tup [.ref u1]) := upd_same
          have e3 : (upd (upd (upd J0 u1 (.tup [.int 1, .int 1])) w1 (.tup [.ref u1])) u0 (.tup [.int 0, .int 1])) u0 = some (.tup [.int 0, .int 1]) := upd_same
          have e4 : (upd (upd (upd (upd J0 u1 (.tup [.int 1, .int 1])) w1 (.tup [.ref u1])) u0 (.tup [.int 0, .int 1])) w0 (.tup [.ref u0])) w0 = some (.tup [.ref u0]) := upd_same
          have cc' := c1.trans (c2.trans (c3.trans c4))
          replace e1 := (c2.trans (c3.trans c4)) _ _ e1
          replace e2 := (c3.trans c4) _ _ e2
          replace e3 := c4 _ _ e3
          generalize upd (upd (upd (upd J0 u1 (.tup [.int 1, .int 1])) w1 (.tup [.ref u1])) u0 (.tup [.int 0, .int 1])) w0 (.tup [.ref u0]) = J4 at e1 e2 e3 e4 cc'
          have one : ∀ {H' : Hp}, Same J4 H' → ShAt H' (.ref u1) 1 := fun h => ⟨u1, rfl, h _ _ e1⟩
          have zer : ∀ {H' : Hp}, Same J4 H' → ShAt H' (.ref u0) 0 := fun h => ⟨u0, rfl, h _ _ e3⟩
          have em : ((n : Int) % 12) = ((n % 12 : Nat) : Int) := by omega
          refine ⟨_, rfl, _, _, rfl, rfl, (by show (0 : Int) < 12; decide), ?_⟩
          refine ⟨w0, _, [.ref u0], rfl, rfl, e4, by simp, (by rw [em]; omega), (by rw [em]; omega), by simp, fun k1 => ?_, fun k1 p1 hp1 => ?_⟩
          · have kn : n % 12 = 1 := by omega
            refine ⟨w1, w0, [.ref u1], [.ref u0], rfl, rfl, SqT.of e2, SqT.of e4, lz 2 rfl, fun z => by simp at z, fun _ z => by simp at z, fun _ _ p2 hp2 => ?_⟩
            have d1 := same_new hp2 (.tup ([.ref u1] ++ [.ref u0]))
            refine key p2 _ ⟨⟨p2, _, rfl, upd_same, ?_⟩, cc'.trans d1⟩
            unfold wdF
            rw [kn]
            exact .cons (one d1) (.cons (zer d1) .nil)
          · have d1 := same_new hp1 (.tup (List.replicate ((n : Int) % 12).toNat [V.ref u0]).flatten)
            have ef : (List.replicate ((n : Int) % 12).toNat [V.ref u0]).flatten = List.replicate (n % 12) (.ref u0) := by
              rw [em, Int.toNat_natCast]
              simp
            refine ⟨w1, p1, [.ref u1], _, rfl, rfl, SqT.of (d1 _ _ e2), SqT.of upd_same, (by rw [ef, sizeLine_eq]; simp; omega), fun z => by simp at z, fun _ z => ?_, fun _ _ p2 hp2 => ?_⟩
            · rw [ef] at z
              have kn : n % 12 = 0 := by simpa using z
              refine key w1 _ ⟨⟨w1, _, rfl, d1 _ _ e2, ?_⟩, cc'.trans d1⟩
              unfold wdF
              rw [kn]
              exact .cons (one d1) .nil
            · have d2 := same_new hp2 (.tup ([.ref u1] ++ (List.replicate ((n : Int) % 12).toNat [V.ref u0]).flatten))
              refine key p2 _ ⟨⟨p2, _, rfl, upd_same, ?_⟩, cc'.trans (d1.trans d2)⟩
              have hz := shs_rep (zer (d1.trans d2)) (n % 12)
              rw [← ef] at hz
              exact .cons (one (d1.trans d2)) hz
        rintro z J1 ⟨rz, sJ1⟩
        have s01 := s0J.trans sJ1
        obtain ⟨v1, hv1⟩ : ∃ v, vs[1]? = some v := ⟨_, List.getElem?_eq_getElem (by omega)⟩
        refine ⟨_, rfl, _, rfl, L, _, _, _, rfl, rfl, SqL.of (s01 _ _ hLI), atI_nat hv1, lz 3 rfl, fun m3 hm3 => ?_⟩
        have s_J2 := same_new hm3 (.lst [gd, .non, v1])
        have g_m3 : upd J1 m3 (.lst [gd, .non, v1]) m3 = some (.lst [gd, .non, v1]) := upd_same
        generalize upd J1 m3 (.lst [gd, .non, v1]) = J2 at s_J2 g_m3 ⊢
        have sJ2 := sJ1.trans s_J2
        have s0J2 := s0J.trans sJ2
        have all3 : ∀ v ∈ ([gd, .non, v1] : List V), ∃ d, DataV J2 v d ∧ Bd d := fun v hv => by
          simp only [List.mem_cons, List.not_mem_nil, or_false] at hv
          rcases hv with rfl | rfl | rfl
          · obtain ⟨d, h1, h2⟩ := all v (by simp)
            exact ⟨d, h1.same s0J2, h2.ai.bdi.bd⟩
          · exact ⟨_, .non, AI.none.bdi.bd⟩
          · obtain ⟨d, h1, h2⟩ := all v (List.mem_append_left _ (List.mem_of_getElem? hv1))
            exact ⟨d, h1.same s0J2, h2.ai.bdi.bd⟩
        have ne := wd_ne n1 n12
        have wl : (wdF n).length ≤ 12 := by unfold wdF; rw [List.length_cons, List.length_replicate]; omega
        refine ⟨m3, rfl, ⟨_, SqL.of g_m3⟩, for_Y (yields_lst (xs := [gd, .non, v1])) (fun j σ H' => (∃ o11 o14 o15, σ = [some (.ref a), some (.ref p), some (.int (0 + (i : Int))), some (.int (n : Int)), some (.ref l), some (.int W), some (.ref on), some (.ref ot), some gd, some (.ref L), o10, o11, some (.ref z), o13, o14, o15]) ∧ Same J2 H') ⟨⟨_, _, _, rfl⟩, Same.refl _⟩ (fun _ _ _ h => h.2 _ _ g_m3) ?_ ?_⟩
        · rintro j v σ X3 J3 hj ⟨⟨o11, o14, o15, rfl⟩, s23⟩ ⟨rfl, hv⟩
          obtain ⟨d, hd0, bd⟩ := all3 v (List.mem_of_getElem? hv)
          have hd := hd0.same s23
          have s03 := s0J2.trans s23
          have rz3 := rz.same (s_J2.trans s23)
          refine gN_ ?_
          refine ⟨_, rfl, _, rfl, _, rfl, .ref z, .ref ot, v, _, _, d, rfl, rz3, rB.same s03, wl, hd, bd, fun _ J4 s34 => ?_, fun e => absurd (by rw [e, l2]) ne⟩
          refine ⟨rfl, _, rfl, iteNS rfl ?_⟩
          refine ⟨_, rfl, _, rfl, _, rfl, .ref on, .ref z, v, _, _, d, rfl, rA.same (s03.trans s34), rz3.same s34, by omega, hd.same s34, bd, fun _ J5 s45 => ?_, fun e => absurd (by rw [← e, l1]) ne⟩
          exact ⟨rfl, _, rfl, iteNS rfl ⟨⟨_, _, _, rfl⟩, s23.trans (s34.trans s45)⟩⟩
        · rintro σ J3 ⟨⟨o11, o14, o15, rfl⟩, s23⟩
          have s03 := s0J2.trans s23
          refine ⟨⟨_, _, _, _, _, _, _, _, _, _, _, _, _, _, rfl, fun _ => ⟨_, _, _, _, _, _, rfl, rfl, rfl, rA.same s03, rB.same s03, mat_data (hgI.same s03), by omega, by rw [l1, l2], bd_mat s4 n12, pok⟩⟩, (penI.same s03).mono (by omega)⟩
  · rintro σ H2 ⟨⟨o2, o3, o4, o5, o6, o7, o8, o9, o10, o11, o12, o13, o14, o15, rfl, fin⟩, pen⟩
    obtain ⟨v1, v2, v3, qs, rs, d, rfl, rfl, rfl, r1, r2, hd, l12, lqr, bd, pok⟩ := fin (by decide)
    refine ⟨_, rfl, _, rfl, _, rfl, v1, v2, v3, qs, rs, d, rfl, r1, r2, l12, hd, bd, fun ne => absurd lqr ne, fun _ t H' ht s' => ?_⟩
    have : t = true := ht.mpr pok
    subst this
    exact ⟨_, _, rfl, rfl, k _⟩
end
end My

set_option Elab.async false
set_option linter.all false
set_option maxRecDepth 100000
set_option maxHeartbeats 4000000
namespace My
open PySem L2 MA
structure Funs (K : PySem.W.Frag) (mg : Str → Option Value) : Prop where
  f_is_whole : FunAt K mg "is_whole" ["thing"] s_is_whole
  f_measure : FunAt K mg "measure" ["a", "b"] s_measure
  f_is_share : FunAt K mg "is_share" ["thing"] s_is_share
  f_plus : FunAt K mg "plus" ["a", "b"] s_plus
  f_total : FunAt K mg "total" ["some"] s_total
  f_ask_as_many : FunAt K mg "ask_as_many" ["one", "other"] s_ask_as_many
  f_is_square : FunAt K mg "is_square" ["thing", "n"] s_is_square
  f_lets_pairing : FunAt K mg "lets_pairing" ["one", "other", "thing"] s_lets_pairing
  f_l_pen : FunAt K mg "_law_pen" ["_law_script"] s_l_pen
  f_l_take : FunAt K mg "_law_take" ["_law_pen_here", "_law_many"] s_l_take
  f_l_share : FunAt K mg "_law_share" ["_law_top", "_law_bottom"] s_l_share
  f_l_sum : FunAt K mg "_law_sum" ["_law_some"] s_l_sum
  f_l_table : FunAt K mg "_law_table" ["_law_pen_here", "_law_boxes"] s_l_table
  f_l_shares : FunAt K mg "_law_shares" ["_law_table_here", "_law_whole"] s_l_shares
  f_l_is_share : FunAt K mg "_law_is_share" ["_law_thing"] s_l_is_share
  f_l_is_pairing : FunAt K mg "_law_is_pairing" ["_law_one", "_law_other", "_law_thing"] s_l_is_pairing
  f_l_shifted : FunAt K mg "_law_shifted" ["_law_pen_here", "_law_table_here", "_law_spoil"] s_l_shifted
  f_l_put : FunAt K mg "_law_put" ["_law_some", "_law_at", "_law_thing"] s_l_put
  f_l_odd_share : FunAt K mg "_law_odd_share" ["_law_pen_here", "_law_part"] s_l_odd_share
  f_l_odd : FunAt K mg "_law_odd" ["_law_pen_here", "_law_thing"] s_l_odd
  f_l_told : FunAt K mg "_law_told" ["_law_one", "_law_other", "_law_thing"] s_l_told
theorem all_mk {l : PySem.W.OpenLaw} {w : World} {K : PySem.W.Frag} {h : Heap} {mg : Str → Option Value} {fa f3 : Addr} (X : K.In h) (G : h.Ns mainGlobals mg) (hfa : mg "law" = some (.ref fa))
    {od3 an3 : Option Addr} {sl3 : Array (Option Value)} {oc3 kV3 dc3 pm3 cd3 ct3 : Value} {er : Errs} (T : Txt2 mg) (N : Err1N mg er) (q2 : err1Ok K er = true) (FA : Funs K mg)
    (a3 : PySem.W.nsIn K mainGlobals "law" = some (some (.ref f3))) (l3 : K.lookup f3 = some ⟨oc3, od3, .func (PySem.W.fnOf "law" "law" (defArgs s_law) (defBody s_law) (defScope s_law) .none kV3 dc3 pm3 an3 cd3 ct3), sl3⟩) (c3 : PySem.W.codeIn K cd3 "law" = true) (k3 : PySem.W.keepIn K (.ref f3) = true) :
    ∃ fd : FuncData, (∀ (s : Shared) (v : Value), BindsTo s fd ⟨[v], []⟩ [("_law_script", v)]) ∧ ∀ base : Heap, K.In base → base.Ns mainGlobals mg → FnOk l.prog w K mg base CX0 6 fa fd ["_law_script"] (spLaw K) := by
  have e := hfa.symm.trans (PySem.W.mg_of X G a3)
  cases e
  have F3 := fun_mk (st := s_law) l3 c3 k3
  refine ⟨PySem.W.fnOf "law" "law" (defArgs s_law) (defBody s_law) (defScope s_law) .none kV3 dc3 pm3 an3 cd3 ct3, fun s v => .of_eq rfl, fun base _ _ => ?_⟩
  obtain ⟨e2, z2⟩ := err1Ok_of q2
  have c_measure := ok_measure (P := l.prog) (w := w) (base := base) T.toTxt FA.f_measure
  have c_plus := ok_plus c_measure FA.f_plus
  have c_total := ok_total c_plus FA.f_total
  have c_whole := ok_wholeV (P := l.prog) (w := w) (base := base) T FA.f_is_whole
  have c_isshare := ok_isshareV T c_whole c_measure FA.f_is_share
  have c_ask := ok_ask (P := l.prog) (w := w) (base := base) T N z2 FA.f_ask_as_many
  have c_square := ok_squareD T c_isshare FA.f_is_square
  have c_lets := ok_letsP T c_ask c_square c_total FA.f_lets_pairing
  have c_pen := ok_penZ (P := l.prog) (w := w) (base := base) FA.f_l_pen
  have c_take := ok_take (P := l.prog) (w := w) (base := base) T.toTxt FA.f_l_take
  have c_shareL := ok_shareL (P := l.prog) (w := w) (base := base) T FA.f_l_share
  have c_share := ok_shareN (P := l.prog) (w := w) (base := base) T FA.f_l_share
  have c_sum := ok_sumG T c_shareL FA.f_l_sum
  have c_table := ok_table T c_take FA.f_l_table
  have c_shares := ok_shares T c_share FA.f_l_shares
  have c_lsh := ok_lshD T c_shareL FA.f_l_is_share
  have c_isp := ok_ispairD T c_lsh c_sum FA.f_l_is_pairing
  have c_shifted := ok_shifted T c_take FA.f_l_shifted
  have c_put := ok_put (P := l.prog) (w := w) (base := base) T FA.f_l_put
  have c_oddS := ok_oddS T c_take FA.f_l_odd_share
  have c_odd := ok_odd T c_take c_put c_oddS FA.f_l_odd
  have c_told := ok_told T N e2 c_lets FA.f_l_told
  exact ok_law T c_pen c_take c_table c_share c_shares c_shifted c_odd c_told c_isp F3
theorem walk {l : PySem.W.OpenLaw} {q : Program} {loose : List Str} {XP : (Str → Option Value) → Heap → Prop} {YP : World → Heap → Prop} {d : DefRec} {K : Params → PySem.W.Frag} (hn : l.most = some 63) (hdf : d.params.defaults = [])
    (hY : ∀ (w : World) (h : Heap), YP w h → (K w.params).In h)
    (F : ∀ (w : World) (mg : Str → Option Value) (fa : Addr) (h : Heap), (K w.params).In h → h.Ns mainGlobals mg → mg d.name = some (.ref fa) →
      ∃ fd : FuncData, (∀ (s : Shared) (u : Value), BindsTo s fd ⟨[u], []⟩ [("_law_script", u)]) ∧ ∀ base : Heap, (K w.params).In base → base.Ns mainGlobals mg → FnOk l.prog w (K w.params) mg base CX0 6 fa fd ["_law_script"] (spLaw (K w.params))) :
    PySem.W.WalkO q loose XP YP l.row.toRowW d [] (fun f vs => PySem.call f vs) :=
  L2.walk_of (n := 63) (k := 6) (x := "_law_script") (CX := fun _ => CX0) (sp := fun w => spLaw (K w.params)) hn (by decide) hdf ⟨rfl, by decide, by decide, rfl⟩ hY F (fun _ _ a ns hl _ hS => ⟨a, ns, rfl, hS, hl, fun _ => rfl⟩) fun _ _ _ _ _ z => z
theorem txt_mk {K : PySem.W.Frag} {h : Heap} {mg : Str → Option Value} (X : K.In h) (G : h.Ns mainGlobals mg)
    (z_abs : PySem.W.nsIn K mainGlobals "abs" = some none)
    (z_len : PySem.W.nsIn K mainGlobals "len" = some none)
    (z_isinstance : PySem.W.nsIn K mainGlobals "isinstance" = some none)
    (z_range : PySem.W.nsIn K mainGlobals "range" = some none)
    (z_int : PySem.W.nsIn K mainGlobals "int" = some none)
    (z_bool : PySem.W.nsIn K mainGlobals "bool" = some none)
    (z_tuple : PySem.W.nsIn K mainGlobals "tuple" = some none)
    (z_list : PySem.W.nsIn K mainGlobals "list" = some none)
    (z_all : PySem.W.nsIn K mainGlobals "all" = some none)
    (z_str : PySem.W.nsIn K mainGlobals "str" = some none)
    (z_repr : PySem.W.nsIn K mainGlobals "repr" = some none)
    (z_dict : PySem.W.nsIn K mainGlobals "dict" = some none)
    (z_sum : PySem.W.nsIn K mainGlobals "sum" = some none)
    (z_sorted : PySem.W.nsIn K mainGlobals "sorted" = some none)
    (z_max : PySem.W.nsIn K mainGlobals "max" = some none)
    (z_min : PySem.W.nsIn K mainGlobals "min" = some none)
    (z_any : PySem.W.nsIn K mainGlobals "any" = some none)
    (z_enumerate : PySem.W.nsIn K mainGlobals "enumerate" = some none)
    (z_zip : PySem.W.nsIn K mainGlobals "zip" = some none)
    (z_set : PySem.W.nsIn K mainGlobals "set" = some none)
    (z_reversed : PySem.W.nsIn K mainGlobals "reversed" = some none)
    (z_ValueError : PySem.W.nsIn K mainGlobals "ValueError" = some none)
    : Txt2 mg := ⟨⟨PySem.W.mg_none_of X G z_abs, PySem.W.mg_none_of X G z_len, PySem.W.mg_none_of X G z_isinstance, PySem.W.mg_none_of X G z_range, PySem.W.mg_none_of X G z_int, PySem.W.mg_none_of X G z_bool, PySem.W.mg_none_of X G z_tuple, PySem.W.mg_none_of X G z_list, PySem.W.mg_none_of X G z_all⟩, PySem.W.mg_none_of X G z_str, PySem.W.mg_none_of X G z_repr, PySem.W.mg_none_of X G z_dict, PySem.W.mg_none_of X G z_sum, PySem.W.mg_none_of X G z_sorted, PySem.W.mg_none_of X G z_max, PySem.W.mg_none_of X G z_min, PySem.W.mg_none_of X G z_any, PySem.W.mg_none_of X G z_enumerate, PySem.W.mg_none_of X G z_zip, PySem.W.mg_none_of X G z_set, PySem.W.mg_none_of X G z_reversed, PySem.W.mg_none_of X G z_ValueError⟩
end My
open PySem PySem.W PyProof.Rows
set_option maxRecDepth 100000 in
set_option maxHeartbeats 0 in
theorem PySem.Challenge.cw_emptierbox_k26_pairings_known_holds : PySem.Challenge.rw_emptierbox_k26_pairings_known.Holds := by
  w_on; o_law; k_head; (case hw => w_witness2)
  k_fill
  refine My.walk (l := PySem.Challenge.rw_emptierbox_k26_pairings_known) rfl rfl (fun w h Y => PySem.W.kIn_of Y) ?F
  case F =>
    intro w mg fa h KX G hmg
    have T : My.Txt2 mg := by
      refine' My.txt_mk KX G ?z0 ?z1 ?z2 ?z3 ?z4 ?z5 ?z6 ?z7 ?z8 ?z9 ?z10 ?z11 ?z12 ?z13 ?z14 ?z15 ?z16 ?z17 ?z18 ?z19 ?z20 ?z21
      (case z0 => k_is)
      (case z1 => k_is)
      (case z2 => k_is)
      (case z3 => k_is)
      (case z4 => k_is)
      (case z5 => k_is)
      (case z6 => k_is)
      (case z7 => k_is)
      (case z8 => k_is)
      (case z9 => k_is)
      (case z10 => k_is)
      (case z11 => k_is)
      (case z12 => k_is)
      (case z13 => k_is)
      (case z14 => k_is)
      (case z15 => k_is)
      (case z16 => k_is)
      (case z17 => k_is)
      (case z18 => k_is)
      (case z19 => k_is)
      (case z20 => k_is)
      (case z21 => k_is)
    have f_is_whole : L2.FunAt (L2.KOf KX) mg "is_whole" ["thing"] My.s_is_whole := by
      dsimp only [L2.KOf]
      refine' L2.funAt_mk KX G (fun _ _ _ _ _ _ us hl => match us, hl with | [_], _ => rfl) ?a ?l ?c ?k
      (case a => k_is); (case l => k_is); (case c => k_is); (case k => k_is)
    have f_measure : L2.FunAt (L2.KOf KX) mg "measure" ["a", "b"] My.s_measure := by
      dsimp only [L2.KOf]
      refine' L2.funAt_mk KX G (fun _ _ _ _ _ _ us hl => match us, hl with | [_, _], _ => rfl) ?a ?l ?c ?k
      (case a => k_is); (case l => k_is); (case c => k_is); (case k => k_is)
    have f_is_share : L2.FunAt (L2.KOf KX) mg "is_share" ["thing"] My.s_is_share := by
      dsimp only [L2.KOf]
      refine' L2.funAt_mk KX G (fun _ _ _ _ _ _ us hl => match us, hl with | [_], _ => rfl) ?a ?l ?c ?k
      (case a => k_is); (case l => k_is); (case c => k_is); (case k => k_is)
    have f_plus : L2.FunAt (L2.KOf KX) mg "plus" ["a", "b"] My.s_plus := by
      dsimp only [L2.KOf]
      refine' L2.funAt_mk KX G (fun _ _ _ _ _ _ us hl => match us, hl with | [_, _], _ => rfl) ?a ?l ?c ?k
      (case a => k_is); (case l => k_is); (case c => k_is); (case k => k_is)
    have f_total : L2.FunAt (L2.KOf KX) mg "total" ["some"] My.s_total := by
      dsimp only [L2.KOf]
      refine' L2.funAt_mk KX G (fun _ _ _ _ _ _ us hl => match us, hl with | [_], _ => rfl) ?a ?l ?c ?k
      (case a => k_is); (case l => k_is); (case c => k_is); (case k => k_is)
    have f_ask_as_many : L2.FunAt (L2.KOf KX) mg "ask_as_many" ["one", "other"] My.s_ask_as_many := by
      dsimp only [L2.KOf]
      refine' L2.funAt_mk KX G (fun _ _ _ _ _ _ us hl => match us, hl with | [_, _], _ => rfl) ?a ?l ?c ?k
      (case a => k_is); (case l => k_is); (case c => k_is); (case k => k_is)
    have f_is_square : L2.FunAt (L2.KOf KX) mg "is_square" ["thing", "n"] My.s_is_square := by
      dsimp only [L2.KOf]
      refine' L2.funAt_mk KX G (fun _ _ _ _ _ _ us hl => match us, hl with | [_, _], _ => rfl) ?a ?l ?c ?k
      (case a => k_is); (case l => k_is); (case c => k_is); (case k => k_is)
    have f_lets_pairing : L2.FunAt (L2.KOf KX) mg "lets_pairing" ["one", "other", "thing"] My.s_lets_pairing := by
      dsimp only [L2.KOf]
      refine' L2.funAt_mk KX G (fun _ _ _ _ _ _ us hl => match us, hl with | [_, _, _], _ => rfl) ?a ?l ?c ?k
      (case a => k_is); (case l => k_is); (case c => k_is); (case k => k_is)
    have f_l_pen : L2.FunAt (L2.KOf KX) mg "_law_pen" ["_law_script"] My.s_l_pen := by
      dsimp only [L2.KOf]
      refine' L2.funAt_mk KX G (fun _ _ _ _ _ _ us hl => match us, hl with | [_], _ => rfl) ?a ?l ?c ?k
      (case a => k_is); (case l => k_is); (case c => k_is); (case k => k_is)
    have f_l_take : L2.FunAt (L2.KOf KX) mg "_law_take" ["_law_pen_here", "_law_many"] My.s_l_take := by
      dsimp only [L2.KOf]
      refine' L2.funAt_mk KX G (fun _ _ _ _ _ _ us hl => match us, hl with | [_, _], _ => rfl) ?a ?l ?c ?k
      (case a => k_is); (case l => k_is); (case c => k_is); (case k => k_is)
    have f_l_share : L2.FunAt (L2.KOf KX) mg "_law_share" ["_law_top", "_law_bottom"] My.s_l_share := by
      dsimp only [L2.KOf]
      refine' L2.funAt_mk KX G (fun _ _ _ _ _ _ us hl => match us, hl with | [_, _], _ => rfl) ?a ?l ?c ?k
      (case a => k_is); (case l => k_is); (case c => k_is); (case k => k_is)
    have f_l_sum : L2.FunAt (L2.KOf KX) mg "_law_sum" ["_law_some"] My.s_l_sum := by
      dsimp only [L2.KOf]
      refine' L2.funAt_mk KX G (fun _ _ _ _ _ _ us hl => match us, hl with | [_], _ => rfl) ?a ?l ?c ?k
      (case a => k_is); (case l => k_is); (case c => k_is); (case k => k_is)
    have f_l_table : L2.FunAt (L2.KOf KX) mg "_law_table" ["_law_pen_here", "_law_boxes"] My.s_l_table := by
      dsimp only [L2.KOf]
      refine' L2.funAt_mk KX G (fun _ _ _ _ _ _ us hl => match us, hl with | [_, _], _ => rfl) ?a ?l ?c ?k
      (case a => k_is); (case l => k_is); (case c => k_is); (case k => k_is)
    have f_l_shares : L2.FunAt (L2.KOf KX) mg "_law_shares" ["_law_table_here", "_law_whole"] My.s_l_shares := by
      dsimp only [L2.KOf]
      refine' L2.funAt_mk KX G (fun _ _ _ _ _ _ us hl => match us, hl with | [_, _], _ => rfl) ?a ?l ?c ?k
      (case a => k_is); (case l => k_is); (case c => k_is); (case k => k_is)
    have f_l_is_share : L2.FunAt (L2.KOf KX) mg "_law_is_share" ["_law_thing"] My.s_l_is_share := by
      dsimp only [L2.KOf]
      refine' L2.funAt_mk KX G (fun _ _ _ _ _ _ us hl => match us, hl with | [_], _ => rfl) ?a ?l ?c ?k
      (case a => k_is); (case l => k_is); (case c => k_is); (case k => k_is)
    have f_l_is_pairing : L2.FunAt (L2.KOf KX) mg "_law_is_pairing" ["_law_one", "_law_other", "_law_thing"] My.s_l_is_pairing := by
      dsimp only [L2.KOf]
      refine' L2.funAt_mk KX G (fun _ _ _ _ _ _ us hl => match us, hl with | [_, _, _], _ => rfl) ?a ?l ?c ?k
      (case a => k_is); (case l => k_is); (case c => k_is); (case k => k_is)
    have f_l_shifted : L2.FunAt (L2.KOf KX) mg "_law_shifted" ["_law_pen_here", "_law_table_here", "_law_spoil"] My.s_l_shifted := by
      dsimp only [L2.KOf]
      refine' L2.funAt_mk KX G (fun _ _ _ _ _ _ us hl => match us, hl with | [_, _, _], _ => rfl) ?a ?l ?c ?k
      (case a => k_is); (case l => k_is); (case c => k_is); (case k => k_is)
    have f_l_put : L2.FunAt (L2.KOf KX) mg "_law_put" ["_law_some", "_law_at", "_law_thing"] My.s_l_put := by
      dsimp only [L2.KOf]
      refine' L2.funAt_mk KX G (fun _ _ _ _ _ _ us hl => match us, hl with | [_, _, _], _ => rfl) ?a ?l ?c ?k
      (case a => k_is); (case l => k_is); (case c => k_is); (case k => k_is)
    have f_l_odd_share : L2.FunAt (L2.KOf KX) mg "_law_odd_share" ["_law_pen_here", "_law_part"] My.s_l_odd_share := by
      dsimp only [L2.KOf]
      refine' L2.funAt_mk KX G (fun _ _ _ _ _ _ us hl => match us, hl with | [_, _], _ => rfl) ?a ?l ?c ?k
      (case a => k_is); (case l => k_is); (case c => k_is); (case k => k_is)
    have f_l_odd : L2.FunAt (L2.KOf KX) mg "_law_odd" ["_law_pen_here", "_law_thing"] My.s_l_odd := by
      dsimp only [L2.KOf]
      refine' L2.funAt_mk KX G (fun _ _ _ _ _ _ us hl => match us, hl with | [_, _], _ => rfl) ?a ?l ?c ?k
      (case a => k_is); (case l => k_is); (case c => k_is); (case k => k_is)
    have f_l_told : L2.FunAt (L2.KOf KX) mg "_law_told" ["_law_one", "_law_other", "_law_thing"] My.s_l_told := by
      dsimp only [L2.KOf]
      refine' L2.funAt_mk KX G (fun _ _ _ _ _ _ us hl => match us, hl with | [_, _, _], _ => rfl) ?a ?l ?c ?k
      (case a => k_is); (case l => k_is); (case c => k_is); (case k => k_is)
    refine' My.all_mk KX G hmg T (My.err1N_mk KX G ?n ?n2) ?q2 ⟨f_is_whole, f_measure, f_is_share, f_plus, f_total, f_ask_as_many, f_is_square, f_lets_pairing, f_l_pen, f_l_take, f_l_share, f_l_sum, f_l_table, f_l_shares, f_l_is_share, f_l_is_pairing, f_l_shifted, f_l_put, f_l_odd_share, f_l_odd, f_l_told⟩ ?a3 ?l3 ?c3 ?k3
    (case n => k_is); (case n2 => k_is)
    (case q2 => kernel_rfl)
    (case a3 => k_is); (case l3 => k_is); (case c3 => k_is); (case k3 => k_is)

