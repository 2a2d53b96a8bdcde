import PyProof.Rows.All
import KE.KRevIter
import PyProof.FactsAll.range_2
import Wide.All
import OpenK.AllK
import Wide.FinOn
import PyProof.EqAt
import PyProof.EqKinds
import PyProof.NeKinds
import PyProof.TupleCall
import PyProof.CompFree
import PyProof.CompMap
import PyProof.ReprRoads
import PyProof.CallFns
import PyProof.ReprBulk
import PyProof.CompUse
import KE.KRevSl
import PyProof.Rows.SetFrom
import PyProof.AttrMissSeq
import KE.KDictOf
import PyProof.DictUpdate
import PyProof.ListRange
import PyProof.Rows.SumAny
import PyProof.Rows.SortRev
import PyProof.Rows.CallKwBuiltin
import PyProof.ListMulAny
import PyProof.TupleOps
import PyProof.ZipIter
import PyProof.Draws
import PyProof.TupleIter
import PyProof.EnumMake
import PyProof.DictCompW
import PyProof.DictItems
import PyProof.DictItemsLoops
import PyProof.ExcAttrAll.ValueError
import KE.KTryMore
import KE.KLam
import KE.KTupSum
import KE.KMinKey
import PyProof.FactsAll.tuple_0
import PyProof.FactsAll.tuple_2
import PyProof.FactsAll.tuple_3
import PySem.Challenge.RW_emptierbox_k23_rules_held_beside
set_option Elab.async false
set_option linter.all false
set_option maxRecDepth 100000
set_option maxHeartbeats 4000000
namespace MA
/-- the greatest common measure, as an int -/
def gI (a b : Int) : Int := (Int.gcd a b : Int)
theorem gI_nonneg (a b : Int) : 0 ≤ gI a b := Int.natCast_nonneg _
theorem gI_abs (a b : Int) : gI (if a < 0 then -a else a) (if b < 0 then -b else b) = gI a b := by
  unfold gI Int.gcd
  congr 2 <;> (split <;> omega)
theorem gI_step {a b : Int} (ha : 0 ≤ a) : gI b (a % b) = gI a b := by
  unfold gI
  congr 1
  rw [Int.gcd_comm a b]
  unfold Int.gcd
  have e : (a % b).natAbs = a.natAbs % b.natAbs := by
    rw [Int.natAbs_emod_of_nonneg ha]
  rw [e, Nat.gcd_comm b.natAbs (a.natAbs % b.natAbs), ← Nat.gcd_rec]
theorem gI_zero {a : Int} (ha : 0 ≤ a) : gI a 0 = a := by
  unfold gI
  rw [Int.gcd_zero_right]
  omega
theorem gI_pos_right {a b : Int} (hb : b ≠ 0) : 0 < gI a b := by
  have h : Int.gcd a b ≠ 0 := fun h => hb (Int.gcd_eq_zero_iff.mp h).2
  unfold gI; omega
theorem gI_pos_left {a b : Int} (hb : a ≠ 0) : 0 < gI a b := by
  have h : Int.gcd a b ≠ 0 := fun h => hb (Int.gcd_eq_zero_iff.mp h).1
  unfold gI; omega
theorem gI_dvd_left (a b : Int) : gI a b ∣ a := Int.gcd_dvd_left ..
theorem gI_comm (a b : Int) : gI a b = gI b a := by unfold gI; rw [Int.gcd_comm]
/-- share's answer -/
theorem share_pos {t b : Int} (hb : 0 < b) : t / gI t b = (Rat.divInt t b).num ∧ b / gI t b = ((Rat.divInt t b).den : Int) := by
  rw [Rat.num_divInt, Rat.den_divInt, if_neg (by omega), Int.sign_eq_one_of_pos hb, Int.one_mul, Int.gcd_comm b t]
  refine ⟨rfl, ?_⟩
  unfold gI
  rw [Int.natCast_ediv]
  congr 1
  omega
theorem plus_ok (q r : Rat) (c top rest : Int) (hc : c = gI q.den r.den) (ht : top = q.num * ((r.den : Int) / c) + r.num * ((q.den : Int) / c)) (hr : rest = gI top c) :
    top / rest = (q + r).num ∧ ((q.den : Int) / c) * ((r.den : Int) / rest) = ((q + r).den : Int) := by
  have hd : 0 < q.den := Nat.pos_of_ne_zero q.den_nz
  have he : 0 < r.den := Nat.pos_of_ne_zero r.den_nz
  have cg : c = ((q.den.gcd r.den : Nat) : Int) := by rw [hc]; rfl
  have rg : rest = ((top.natAbs.gcd (q.den.gcd r.den) : Nat) : Int) := by
    rw [hr, cg]; rfl
  have tt : top = q.num * ((r.den / q.den.gcd r.den : Nat) : Int) + r.num * ((q.den / q.den.gcd r.den : Nat) : Int) := by
    rw [ht, cg, Int.natCast_ediv, Int.natCast_ediv]
  have key : (q + r).num = top / ((top.natAbs.gcd (q.den.gcd r.den) : Nat) : Int) ∧ (q + r).den = (q.den / q.den.gcd r.den) * r.den / top.natAbs.gcd (q.den.gcd r.den) := by
    rw [tt]
    have e : (q + r) = Rat.add q r := rfl
    rw [e]
    delta Rat.add
    dsimp only
    split
    · rename_i h
      rw [h]
      simp
    · simp only [Rat.maybeNormalize_eq, Int.divExact_eq_ediv, and_self]
  rw [key.1, key.2, rg]
  refine ⟨rfl, ?_⟩
  have d1 : top.natAbs.gcd (q.den.gcd r.den) ∣ r.den := Nat.dvd_trans (Nat.gcd_dvd_right ..) (Nat.gcd_dvd_right ..)
  rw [Nat.mul_div_assoc _ d1, Int.natCast_mul, Int.natCast_ediv, Int.natCast_ediv, cg]
theorem times_ok (q r : Rat) : Rat.divInt (q.num * r.num) (q.den * r.den) = q * r := by
  rw [Rat.mul_def', ← Int.natCast_mul, Rat.divInt_ofNat]
theorem den_pos (q : Rat) : (0 : Int) < q.den := by have := Nat.pos_of_ne_zero q.den_nz; omega
theorem timesX_ok (q r : Rat) : q.num / gI q.num r.den * (r.num / gI r.num q.den) = (q * r).num ∧ (q.den : Int) / gI r.num q.den * ((r.den : Int) / gI q.num r.den) = ((q * r).den : Int) := by
  have e : (q * r) = Rat.mul q r := rfl
  have e1 : gI q.num r.den = ((q.num.natAbs.gcd r.den : Nat) : Int) := rfl
  have e2 : gI r.num q.den = ((r.num.natAbs.gcd q.den : Nat) : Int) := rfl
  rw [e, e1, e2]
  delta Rat.mul
  dsimp only
  simp only [Int.divExact_eq_ediv, Nat.divExact_eq_div, Int.natCast_mul, Int.natCast_ediv, and_self]
end MA

set_option Elab.async false
set_option linter.all false
set_option maxRecDepth 100000
set_option maxHeartbeats 4000000
/-! THE HAND LAYER, for ints, bools, texts, own classes, LISTS and tuples (index, slices, in, append, pop ..), calls, loops. Paste it whole ahead of your own text; what your proof does not reach may be deleted. -/
namespace L2
open PySem PySem.Spec PyProof.Rows

/-- a key: an int or a str -/
abbrev Key := Sum Int Str
def keyIs : Key → Value → Bool
  | .inl k, v => Value.isInt k v
  | .inr x, v => Value.isStrOf x v
def keyH (w : World) : Key → Int
  | .inl k => hashInt k
  | .inr x => hashStr w x
theorem keyIs_shape : ∀ {k : Key} {v : Value}, keyIs k v = true → (∃ i t, k = Sum.inl i ∧ v = Value.int i t) ∨ (∃ x t, k = Sum.inr x ∧ v = Value.str x t)
  | .inl i, v, h => by
    obtain ⟨t, e⟩ := Value.isInt_shape (k := i) (v := v) h
    exact .inl ⟨i, t, rfl, e⟩
  | .inr x, v, h => by
    obtain ⟨t, e⟩ := Value.isStrOf_shape (x := x) (v := v) h
    exact .inr ⟨x, t, rfl, e⟩
theorem key_ll (a b : Int) : decide ((Sum.inl a : Key) = Sum.inl b) = (a == b) := by
  by_cases e : a = b
  · subst e; simp
  · have h : ¬ (Sum.inl a : Key) = Sum.inl b := fun q => e (Sum.inl.inj q)
    rw [decide_eq_false h]
    exact (beq_eq_false_iff_ne.mpr e).symm
theorem key_rr (a b : Str) : decide ((Sum.inr a : Key) = Sum.inr b) = decide (a = b) := by
  by_cases e : a = b
  · subst e; simp
  · have h : ¬ (Sum.inr a : Key) = Sum.inr b := fun q => e (Sum.inr.inj q)
    rw [decide_eq_false h, decide_eq_false e]
theorem key_lr (a : Int) (b : Str) : decide ((Sum.inl a : Key) = Sum.inr b) = false := decide_eq_false (fun q => nomatch q)
theorem key_rl (a : Str) (b : Int) : decide ((Sum.inr a : Key) = Sum.inl b) = false := decide_eq_false (fun q => nomatch q)

def mixKind (prog : Program) (w : World) : PySem.KeyKind prog w Key where
  is := keyIs
  hash := keyH w
  inj := fun v a b ha hb => by
    rcases keyIs_shape ha with ⟨i, t, rfl, rfl⟩ | ⟨x, t, rfl, rfl⟩
    · rcases keyIs_shape hb with ⟨j, u, rfl, e⟩ | ⟨y, u, rfl, e⟩
      · injection e with e1 _; rw [e1]
      · exact nomatch e
    · rcases keyIs_shape hb with ⟨j, u, rfl, e⟩ | ⟨y, u, rfl, e⟩
      · exact nomatch e
      · injection e with e1 _; rw [e1]
  byValue := fun k v h => by
    rcases keyIs_shape h with ⟨i, t, rfl, rfl⟩ | ⟨x, t, rfl, rfl⟩ <;> rfl
  pyHash := fun hv h => by
    rcases keyIs_shape hv with ⟨i, t, rfl, rfl⟩ | ⟨x, t, rfl, rfl⟩
    · exact wpAny_pyHash_int h
    · exact wpAny_pyHash_str h
  eqBool := fun hu hv h => by
    rcases keyIs_shape hu with ⟨i, t, rfl, rfl⟩ | ⟨x, t, rfl, rfl⟩
    · rcases keyIs_shape hv with ⟨j, u, rfl, rfl⟩ | ⟨y, u, rfl, rfl⟩
      · rw [key_ll] at h; exact wpAny_eqBool_int h
      · rw [key_lr] at h; exact SeqAt.EqAt.int_str i t y u _ _ _ _ h
    · rcases keyIs_shape hv with ⟨j, u, rfl, rfl⟩ | ⟨y, u, rfl, rfl⟩
      · rw [key_rl] at h; exact SeqAt.EqAt.str_int x t j u _ _ _ _ h
      · rw [key_rr] at h; exact wpAny_eqBool_str h
  «strs» := fun k x t v h => by
    rcases keyIs_shape h with ⟨i, u, rfl, e⟩ | ⟨y, u, rfl, e⟩
    · exact nomatch e
    · injection e with e1 _
      subst e1
      cases v <;> rfl

end L2

namespace L2
open PySem PySem.Spec PyProof.Rows

/-- a value, without the heap -/
inductive V where
  | non | bl (b : Bool) | int (i : Int) | str (x : Str) | byt (b : Array UInt8) | flt (b : UInt64) | ref (a : Addr) | ty (n : String)
  deriving DecidableEq

def RelV : V → Value → Prop
  | .non, u => u = Value.none
  | .bl b, u => u = Value.bool b
  | .int i, u => ∃ t, u = Value.int i t
  | .str x, u => ∃ t, u = Value.str x t
  | .byt b, u => ∃ t, u = Value.bytes b t
  | .flt b, u => ∃ t, u = Value.float b t
  | .ref a, u => u = Value.ref a
  | .ty n, u => u = Value.type n

abbrev Vals : List V → List Value → Prop := Paired RelV
theorem Vals.length {xs : List V} {us : List Value} (r : Vals xs us) : xs.length = us.length := Paired.length r
theorem Vals.get : ∀ {xs : List V} {us : List Value} {i : Nat} {x : V}, Vals xs us → xs[i]? = some x → ∃ u, us[i]? = some u ∧ RelV x u
  | _, _, _, _, .nil, e => by simp at e
  | _, _, 0, _, .cons r _, e => by simp at e; subst e; exact ⟨_, rfl, r⟩
  | _, _, i + 1, x, .cons _ t, e => by
    obtain ⟨u, h1, h2⟩ := Vals.get (i := i) (x := x) t (by simpa using e)
    exact ⟨u, by simpa using h1, h2⟩
theorem Vals.set {x : V} {u : Value} (r : RelV x u) : ∀ {xs : List V} {us : List Value} (i : Nat), Vals xs us → Vals (xs.set i x) (us.set i u)
  | _, _, _, .nil => .nil
  | _, _, 0, .cons _ t => .cons r t
  | _, _, i + 1, .cons q t => .cons q (Vals.set r i t)
theorem Vals.append : ∀ {xs ys : List V} {us ws : List Value}, Vals xs us → Vals ys ws → Vals (xs ++ ys) (us ++ ws)
  | _, _, _, _, .nil, s => s
  | _, _, _, _, .cons r t, s => .cons r (Vals.append t s)
theorem Vals.take : ∀ {xs : List V} {us : List Value} (n : Nat), Vals xs us → Vals (xs.take n) (us.take n)
  | _, _, 0, _ => .nil
  | _, _, _ + 1, .nil => .nil
  | _, _, n + 1, .cons r t => .cons r (Vals.take n t)
theorem Vals.drop : ∀ {xs : List V} {us : List Value} (n : Nat), Vals xs us → Vals (xs.drop n) (us.drop n)
  | _, _, 0, r => r
  | _, _, _ + 1, .nil => .nil
  | _, _, n + 1, .cons _ t => Vals.drop n t
def RelO : Option V → Option Value → Prop
  | some v, some u => RelV v u
  | none, none => True
  | _, _ => False
def KV {κ : Type} : List (κ × V) → List (κ × Value) → Prop := Paired fun (p : κ × V) (q : κ × Value) => p.1 = q.1 ∧ RelV p.2 q.2

/-- a key of a dict (00_mix): an int or a text -/
def kV : Key → V
  | .inl i => .int i
  | .inr x => .str x

/-- what stands at a tracked address -/
inductive HO where
  /-- a list -/
  | lst (xs : List V)
  /-- a tuple (never changes) -/
  | tup (xs : List V)
  /-- a dict whose keys are ints and texts; one whose keys are tuples of ints and texts (the empty one is both) -/
  | dK (kvs : List (Key × V)) | dT (kvs : List (List Key × V))
  /-- a set of ints: its members, its size -/
  | set (S : Int → Bool) (n : Nat)
  /-- an instance of the class at C, its dict at dx, its attributes -/
  | ins (C dx : Addr) (fs : List (Str × V))
  /-- the dict of the instance at x -/
  | own (x : Addr)
  /-- the dict of an exception -/
  | xd (fs : List (Str × V))
  /-- a bound method, f of x -/
  | met (f x : Addr)
  /-- a range object lo, lo + 1, .. below hi -/
  | rng (lo hi : Int)
  /-- a thing that is known to the object (the script; a dict while a loop walks it): read, never written while it is so -/
  | frz (o : Obj) (u : HO)
  /-- a code object's table -/
  | tbl (ps : Array Value)
  /-- the table of the lambdas of a def, whose qualname is q -/
  | tab (q : Str)
  /-- any other thing, by what is true of its one object (a def of one's own: SetO a S n := HO.ext fun h => ..) -/
  | ext (φ : Heap → Prop)

abbrev Hp := Addr → Option HO
def upd (H : Hp) (a : Addr) (o : HO) : Hp := fun b => if b = a then some o else H b
theorem upd_same {H : Hp} {a : Addr} {o : HO} : upd H a o a = some o := by unfold upd; rw [if_pos rfl]
theorem upd_ne {H : Hp} {a b : Addr} {o : HO} (h : b ≠ a) : upd H a o b = H b := by unfold upd; rw [if_neg h]
/-- two objects of different content stand apart -/
theorem ne_of {H : Hp} {a b : Addr} {o u : HO} (h : H a = some o) (h' : H b = some u) (d : o ≠ u) : a ≠ b := by
  intro e; subst e; rw [h] at h'; exact d (Option.some.inj h')
theorem ne_of_none {H : Hp} {a b : Addr} {o : HO} (h : H a = some o) (h' : H b = none) : a ≠ b := by
  intro e; subst e; rw [h] at h'; cases h'

/-- a tuple, with no dict of its own -/
def IsTupN (h : Heap) (a : Addr) (items : Array Value) : Prop := ∃ o, h.get? a = some o ∧ o.cls = .type "tuple" ∧ ∃ n, o.data = .seq items n ∧ o.dict = none
theorem IsTupN.tup {h : Heap} {a : Addr} {items : Array Value} (x : IsTupN h a items) : PyProof.Rows.IsTup h a items := let ⟨o, e, c, n, d, _⟩ := x; ⟨o, e, c, n, d⟩
theorem IsTupN.new (h : Heap) (items : Array Value) : IsTupN (h.push { cls := .type "tuple", data := .seq items }) h.objs.size items := ⟨_, Heap.get?_push_size _ rfl, rfl, _, rfl, rfl⟩
theorem IsTupN.lt {h : Heap} {a : Addr} {items : Array Value} (x : IsTupN h a items) : a < h.objs.size := let ⟨_, e, _⟩ := x; Heap.lt_size e

section
variable (P : Program) (w : World)
def ObjOk (H : Hp) (h : Heap) (a : Addr) : HO → Prop
  | .lst xs => xs.length ≤ sizeLine ∧ ∃ (its : List Value) (n : Nat), Vals xs its ∧ h.get? a = some { cls := .type "list", data := .seq its.toArray n }
  | .tup xs => xs.length ≤ sizeLine ∧ ∃ its : List Value, Vals xs its ∧ IsTupN h a its.toArray
  | .dK kvs => kvs.length ≤ sizeLine ∧ (a == sysModules) = false ∧ ∃ vs, KV kvs vs ∧ h.DictOf (mixKind P w) a vs
  | .dT kvs => kvs.length ≤ sizeLine ∧ (a == sysModules) = false ∧ ∃ xs : List (List Key × Addr × Value),
      Paired (fun (p : List Key × V) (q : List Key × Addr × Value) => p.1 = q.1 ∧ H q.2.1 = some (.tup (p.1.map kV)) ∧ RelV p.2 q.2.2) kvs xs ∧
      ∃ o es ep, h.get? a = some o ∧ o.ExactDict ∧ o.data = .dict es ep ∧ es.toList = xs.map (entryOfKey (tupleKind (mixKind P w))) ∧ (xs.map (·.1)).Nodup
  | .set S n => h.SetOf (intKind P w) a S n
  | .ins C dx fs => H dx = some (.own a) ∧ fs.length ≤ 1000 ∧ dx ≠ a ∧ h.get? a = some (PySem.W.instObj C dx) ∧
      ∃ mA, h.Ns1 dx mA ∧ (∀ f, RelO (fs.lookup f) (mA f)) ∧ PySem.Within mA (fs.map (·.1))
  | .own _ => ∃ o, h.get? a = some o
  | .xd fs => ∃ mA, h.Ns1 a mA ∧ ∀ f, RelO (fs.lookup f) (mA f)
  | .rng lo hi => ∃ t u v, h.get? a = some { cls := .type "range", data := .fields #[.int lo t, .int hi u, .int 1 v] }
  | .frz o u => h.get? a = some o ∧ ObjOk H h a u
  | .tbl ps => h.get? a = some { cls := .none, data := .fields ps }
  | .tab q => ∃ ps : Array Value, h.get? a = some { cls := .none, data := .fields ps } ∧ TriplesOk ps.toList ∧ ∀ pos cv, codeAmong pos ps.toList = some cv →
      ∃ c oc vs t, cv = .ref c ∧ H c = some (.frz oc (.own 0)) ∧ oc.data = .fields vs ∧ vs[1]? = some (.str q t)
  | .met f x => h.get? a = some (PySem.W.methodObj (.ref f) (.ref x))
  | .ext φ => φ h ∧ (∃ o, h.get? a = some o) ∧ ∀ h1 h2 : Heap, φ h1 → (∀ o, h1.get? a = some o → h2.get? a = some o) → φ h2
/-- the abstract heap is held -/
def HOk (H : Hp) (h : Heap) : Prop := ∀ a o, H a = some o → ObjOk P w H h a o
end

section
variable {P : Program} {w : World} {H H' : Hp} {h h' : Heap} {a : Addr} {o : HO}
theorem ObjOk.lt (x : ObjOk P w H h a o) : a < h.objs.size := by
  cases o with
  | lst xs => obtain ⟨_, _, _, _, e⟩ := x; exact Heap.lt_size e
  | tup xs => obtain ⟨_, _, _, p⟩ := x; exact p.lt
  | dK kvs => obtain ⟨_, _, _, _, o, _, _, e, _⟩ := x; exact Heap.lt_size e
  | dT kvs => obtain ⟨_, _, _, _, o, _, _, e, _⟩ := x; exact Heap.lt_size e
  | set S n => obtain ⟨o, _, _, _, e, _⟩ := x; exact Heap.lt_size e
  | ins C dx fs => obtain ⟨_, _, _, e, _⟩ := x; exact Heap.lt_size e
  | own y => obtain ⟨_, e⟩ := x; exact Heap.lt_size e
  | xd fs => obtain ⟨_, ⟨_, _, _, e, _⟩, _⟩ := x; exact Heap.lt_size e
  | rng lo hi => obtain ⟨_, _, _, e⟩ := x; exact Heap.lt_size e
  | frz ob u => obtain ⟨e, _⟩ := x; exact Heap.lt_size e
  | tbl ps => exact Heap.lt_size (show h.get? a = some _ from x)
  | tab q => obtain ⟨_, e, _⟩ := x; exact Heap.lt_size e
  | met f y => exact Heap.lt_size (show h.get? a = some _ from x)
  | ext φ => obtain ⟨_, ⟨_, e⟩, _⟩ := x; exact Heap.lt_size e
theorem Paired.mapP {α β : Type} {F G : α → β → Prop} : ∀ {l₁ : List α} {l₂ : List β}, Paired F l₁ l₂ → (∀ a b, F a b → G a b) → Paired G l₁ l₂
  | _, _, .nil, _ => .nil
  | _, _, .cons r t, f => .cons (f _ _ r) (Paired.mapP t f)
/-- what an object's description leans on: its own object, its own dict, the tuples -/
theorem ObjOk.stay (x : ObjOk P w H h a o) (k : ∀ b u, (b = a ∨ H b = some (.own a)) → h.get? b = some u → h'.get? b = some u)
    (ho : ∀ b, H b = some (.own a) → H' b = some (.own a)) (ht : ∀ b xs, H b = some (.tup xs) → H' b = some (.tup xs)) (hz : ∀ b ob, H b = some (.frz ob (.own 0)) → H' b = some (.frz ob (.own 0)) := by exact fun _ _ q => q) : ObjOk P w H' h' a o := by
  induction o with
  | lst xs => obtain ⟨z, its, n, r, e⟩ := x; exact ⟨z, its, n, r, k _ _ (.inl rfl) e⟩
  | tup xs => obtain ⟨z, its, r, ob, e, c⟩ := x; exact ⟨z, its, r, ob, k _ _ (.inl rfl) e, c⟩
  | dK kvs => obtain ⟨z, y, vs, r, ob, es, ep, e, c⟩ := x; exact ⟨z, y, vs, r, ob, es, ep, k _ _ (.inl rfl) e, c⟩
  | dT kvs =>
    obtain ⟨z, y, xs, r, ob, es, ep, e, c⟩ := x
    exact ⟨z, y, xs, Paired.mapP r fun p q z => ⟨z.1, ht _ _ z.2.1, z.2.2⟩, ob, es, ep, k _ _ (.inl rfl) e, c⟩
  | set S n => obtain ⟨ob, es, ep, t, e, c⟩ := x; exact ⟨ob, es, ep, t, k _ _ (.inl rfl) e, c⟩
  | ins C dx fs =>
    obtain ⟨d, z, ne, e, mA, ⟨od, es, ep, e2, c⟩, r⟩ := x
    exact ⟨ho _ d, z, ne, k _ _ (.inl rfl) e, mA, ⟨od, es, ep, k _ _ (.inr d) e2, c⟩, r⟩
  | own y => obtain ⟨ob, e⟩ := x; exact ⟨ob, k _ _ (.inl rfl) e⟩
  | xd fs => obtain ⟨mA, ⟨od, es, ep, e, c⟩, r⟩ := x; exact ⟨mA, ⟨od, es, ep, k _ _ (.inl rfl) e, c⟩, r⟩
  | rng lo hi => obtain ⟨t, u, v, e⟩ := x; exact ⟨t, u, v, k _ _ (.inl rfl) e⟩
  | frz ob u ih => obtain ⟨e, q⟩ := x; exact ⟨k _ _ (.inl rfl) e, ih q⟩
  | tab q =>
    obtain ⟨ps, e, tr, cs⟩ := x
    refine ⟨ps, k a _ (.inl rfl) e, tr, fun pos cv hc => ?_⟩
    obtain ⟨c, oc, vs, t, h1, h2, h3⟩ := cs pos cv hc
    exact ⟨c, oc, vs, t, h1, hz c oc h2, h3⟩
  | tbl ps =>
    have e : h.get? a = some { cls := .none, data := .fields ps } := x
    show h'.get? a = some { cls := .none, data := .fields ps }
    exact k a _ (.inl rfl) e
  | met f y =>
    have e : h.get? a = some (PySem.W.methodObj (.ref f) (.ref y)) := x
    show h'.get? a = some (PySem.W.methodObj (.ref f) (.ref y))
    exact k a _ (.inl rfl) e
  | ext φ => obtain ⟨p, ⟨o, e⟩, st⟩ := x; exact ⟨st _ _ p fun o q => k _ _ (.inl rfl) q, ⟨o, k _ _ (.inl rfl) e⟩, st⟩
theorem HOk.lt (x : HOk P w H h) (e : H a = some o) : a < h.objs.size := (x a o e).lt
theorem HOk.fresh (x : HOk P w H h) (e : h.objs.size ≤ a) : H a = none := by
  cases q : H a with
  | none => rfl
  | some u => exact absurd (Nat.lt_of_lt_of_le (x.lt q) e) (Nat.lt_irrefl _)
/-- every object of the heap is kept -/
theorem HOk.kept (x : HOk P w H h) (k : ∀ b u, h.get? b = some u → h'.get? b = some u) : HOk P w H h' := fun a o e =>
  (x a o e).stay (fun b u _ q => k b u q) (fun _ q => q) fun _ _ q => q
/-- a new object is laid and tracked -/
theorem HOk.laid (x : HOk P w H h) (k : ∀ b u, h.get? b = some u → h'.get? b = some u) (hp : h.objs.size ≤ a) (new : ObjOk P w (upd H a o) h' a o) : HOk P w (upd H a o) h' := fun b u e => by
  have hn := x.fresh hp
  by_cases hb : b = a
  · subst hb; rw [upd_same] at e; cases e; exact new
  · rw [upd_ne hb] at e
    exact (x b u e).stay (fun c v _ q => k c v q) (fun c q => by rw [upd_ne (ne_of_none q hn)]; exact q) (fun c xs q => by rw [upd_ne (ne_of_none q hn)]; exact q) fun c ob q => by rw [upd_ne (ne_of_none q hn)]; exact q
end

/-- what may be read as u: it is u, or a known u -/
def Rd (H : Hp) (a : Addr) (u : HO) : Prop := H a = some u ∨ ∃ o, H a = some (.frz o u)
theorem Rd.ok {P : Program} {w : World} {H : Hp} {h : Heap} {a : Addr} {u : HO} (r : Rd H a u) (x : HOk P w H h) : ObjOk P w H h a u := by
  rcases r with r | ⟨o, r⟩
  · exact x a u r
  · obtain ⟨_, q⟩ := x a _ r
    exact q
/-- what may be written -/
def Mut : Option HO → Prop
  | some (.lst _) => True
  | some (.dK _) => True
  | some (.dT _) => True
  | some (.set _ _) => True
  | some (.ins _ _ _) => True
  | some (.ext _) => True
  | some (.tab _) => True
  | _ => False
section
variable {P : Program} {w : World} {H : Hp} {h h' : Heap} {x e : Addr} {o' : HO}
/-- the object at e is changed: x itself, or the dict of the instance x -/
theorem HOk.write (ok : HOk P w H h) (mu : Mut (H x)) (he : e = x ∨ H e = some (.own x)) (k : ∀ b u, b ≠ e → h.get? b = some u → h'.get? b = some u) (heo : ∃ u, h'.get? e = some u)
    (new : ObjOk P w (upd H x o') h' x o') : HOk P w (upd H x o') h' := fun b u q => by
  have nown : ∀ c y, H c = some (.own y) → c ≠ x := fun c y r z => by subst z; rw [r] at mu; exact mu
  have ntup : ∀ c xs, H c = some (.tup xs) → c ≠ x := fun c xs r z => by subst z; rw [r] at mu; exact mu
  by_cases hb : b = x
  · subst hb; rw [upd_same] at q; cases q; exact new
  · rw [upd_ne hb] at q
    by_cases hbe : b = e
    · have q' : H b = some (.own x) := by
        rcases he with z | z
        · exact absurd (hbe.trans z) hb
        · rw [hbe]; exact z
      rw [q] at q'; cases q'
      obtain ⟨v, hv⟩ := heo
      exact ⟨v, by rw [hbe]; exact hv⟩
    · refine (ok b u q).stay (fun c v hc r => k c v ?_ r) (fun c r => by rw [upd_ne (nown c b r)]; exact r) (fun c xs r => by rw [upd_ne (ntup c xs r)]; exact r) (fun c ob r => by rw [upd_ne (fun z => by subst z; rw [r] at mu; exact mu)]; exact r)
      rcases hc with rfl | hc
      · exact hbe
      · rintro rfl
        rcases he with z | z
        · exact nown c b hc z
        · rw [hc] at z; cases z; exact hb rfl
end

/-! ### kept unless tracked; of the frames at fs (the callers') the slots may change (an exception that passes writes there); of the records at ex (iterators) nothing is said -/
structure Un (fs ex : List Addr) (H H' : Hp) (h h' : Heap) : Prop where
  keep : ∀ b o, h.get? b = some o → H b = none → b ∉ fs → b ∉ ex → h'.get? b = some o
  slot : ∀ b o, h.get? b = some o → H b = none → b ∈ fs → b ∉ ex → ∃ sl, h'.get? b = some { o with slots := sl }
  free : ∀ b o, h.get? b = some o → H b = none → b ∉ ex → H' b = none
  there : ∀ b o, h.get? b = some o → b ∉ ex → ∃ o', h'.get? b = some o'
  tups : ∀ b xs, H b = some (.tup xs) → H' b = some (.tup xs)
  frzs : ∀ b o u, H b = some (.frz o u) → H' b = some (.frz o u)
  tbls : ∀ b ps, H b = some (.tbl ps) → ∃ more, H' b = some (.tbl (ps ++ more))
section
variable {fs fs' ex ex' : List Addr} {H H1 H2 : Hp} {h h1 h2 h' : Heap} {a x e : Addr} {o : HO}
theorem Un.any (u : Un fs ex H H1 h h1) {b : Addr} {ob : Obj} (q : h.get? b = some ob) (n : H b = none) (hx : b ∉ ex) : ∃ sl, h1.get? b = some { ob with slots := sl } := by
  by_cases hb : b ∈ fs
  · exact u.slot b ob q n hb hx
  · exact ⟨ob.slots, u.keep b ob q n hb hx⟩
theorem Un.kept (k : ∀ b u, h.get? b = some u → h'.get? b = some u) : Un fs ex H H h h' :=
  ⟨fun b ob q _ _ _ => k b ob q, fun b ob q _ _ _ => ⟨ob.slots, k b ob q⟩, fun _ _ _ n _ => n, fun b ob q _ => ⟨ob, k b ob q⟩, fun _ _ q => q, fun _ _ _ q => q, fun _ ps q => ⟨#[], by rw [q]; simp⟩⟩
theorem Un.refl : Un fs ex H H h h := Un.kept fun _ _ q => q
theorem Un.laid (k : ∀ b u, h.get? b = some u → h'.get? b = some u) (hp : h.objs.size ≤ a) (hn : H a = none) : Un fs ex H (upd H a o) h h' where
  keep := fun b u q _ _ _ => k b u q
  slot := fun b u q _ _ _ => ⟨u.slots, k b u q⟩
  free := fun b u q n _ => by rw [upd_ne (Nat.ne_of_lt (Nat.lt_of_lt_of_le (Heap.lt_size q) hp))]; exact n
  there := fun b u q _ => ⟨u, k b u q⟩
  tups := fun b xs q => by rw [upd_ne (ne_of_none q hn)]; exact q
  frzs := fun b u xs q => by rw [upd_ne (ne_of_none q hn)]; exact q
  tbls := fun b ps q => ⟨#[], by rw [upd_ne (ne_of_none q hn), q]; simp⟩
theorem Un.write (mu : Mut (H x)) (he : e = x ∨ H e = some (.own x)) (k : ∀ b u, b ≠ e → h.get? b = some u → h'.get? b = some u) (heo : ∃ u, h'.get? e = some u) : Un fs ex H (upd H x o) h h' := by
  have hx : ∀ b, H b = none → b ≠ x := fun b n z => by subst z; rw [n] at mu; exact mu
  have hb : ∀ b, H b = none → b ≠ e := fun b n z => by
    subst z
    rcases he with r | r
    · exact hx b n r
    · rw [n] at r; cases r
  have hm : ∀ b u, H b = some u → ¬ Mut (some u) → b ≠ x := fun b u q nm z => by subst z; rw [q] at mu; exact nm mu
  refine ⟨fun b u q n _ _ => k b u (hb b n) q, fun b u q n _ _ => ⟨u.slots, k b u (hb b n) q⟩, fun b u q n _ => by rw [upd_ne (hx b n)]; exact n, fun b u q _ => ?_,
    fun b xs q => by rw [upd_ne (hm b _ q fun z => z)]; exact q, fun b u xs q => by rw [upd_ne (hm b _ q fun z => z)]; exact q, fun b ps q => ⟨#[], by rw [upd_ne (hm b _ q fun z => z), q]; simp⟩⟩
  by_cases hbe : b = e
  · subst hbe; exact heo
  · exact ⟨u, k b u hbe q⟩
end

/-! ### the heap without what is tracked -/
def trk (h : Heap) (H : Hp) : List Addr := (List.range h.objs.size).filter fun a => (H a).isSome
def hidT (h : Heap) (H : Hp) : Heap := PySem.W.hideAll h (trk h H)
theorem hidT_size (h : Heap) (H : Hp) : (hidT h H).objs.size = h.objs.size := PySem.W.hideAll_size _ _
theorem hidT_get {h : Heap} {H : Hp} {b : Addr} {o : Obj} (e : h.get? b = some o) (n : H b = none) : (hidT h H).get? b = some o :=
  PySem.W.hideAll_get _ e fun hm => by
    have q : (H b).isSome = true := (List.mem_filter.mp hm).2
    rw [n] at q; simp at q
theorem of_hidT {h : Heap} {H : Hp} {b : Addr} {o : Obj} (e : (hidT h H).get? b = some o) : h.get? b = some o ∧ H b = none := by
  have e' : h.get? b = some o := PySem.W.of_hideAll (trk h H) e
  refine ⟨e', ?_⟩
  cases q : H b with
  | none => rfl
  | some x =>
    have hm : b ∈ trk h H := List.mem_filter.mpr ⟨List.mem_range.mpr (Heap.lt_size e'), by simp [q]⟩
    have z : (hidT h H).get? b = none := PySem.W.hideAll_none (trk h H) hm
    rw [z] at e; cases e

/-! ### OpenK's ledger, filled with every new object but one -/
end L2

namespace L2
open PySem PySem.Spec PyProof.Rows

/-- the module's facts, over the base: the heap at the law's entry without what is tracked there -/
structure Mod (K : PySem.W.Frag) (mg : Str → Option Value) (base : Heap) : Prop where
  kin : K.In base
  glob : base.Ns mainGlobals mg
  blt : ∃ mb, base.Ns builtinsNs mb ∧ ∀ x : Str, x ≠ "__name__" → mb x = bootBuiltins x
  nolimit : base.NoLimit

/-- the context: a def's body (or a comprehension's block) running. base: fixed through the whole law; s₀, H₀: the entry; outer: the frames whose slots others may change (a def's callers); stack: all frames that run;
   ex: iterators that were made ahead of the entry and are walked here (a comprehension's); fn: the names whose cells were made at the entry (a def: all; a comprehension's block: its own); calm: not within an except suite; pn: pins that every state bears; xe: what is wanted of an exception that leaves the code -/
structure Cx where
  prog : Program
  w : World
  K : PySem.W.Frag
  mg : Str → Option Value
  base : Heap
  A : Around
  N : List Str
  s₀ : Shared
  H₀ : Hp
  env : Env
  outer : List Env
  stack : List Env
  ex : List Addr
  fn : Str → Bool
  calm : Bool
  pn : List (Addr × Obj)
  xe : Value → Shared → Prop
/-- the callers' frames -/
def frs (l : List Env) : List Addr := l.filterMap (·.frame)
abbrev Cx.fs (X : Cx) : List Addr := frs X.outer

def Vis (sc : Scope) (x : Str) : Prop := sc.names.lookup x = some .local ∨ sc.names.lookup x = some .cell ∨ sc.names.lookup x = some .free
def Loc (sc : Scope) (x : Str) : Prop := sc.names.lookup x = some .local ∨ sc.names.lookup x = some .cell
def Look (env : Env) (h : Heap) (m : Str → Option Value) (x : Str) (u : Value) : Prop :=
  (env.kindOf x = some .local ∧ m x = some u) ∨ ((env.kindOf x = some .cell ∨ env.kindOf x = some .free) ∧ ∃ c, env.cells.lookup x = some c ∧ h.IsCell c (some u))

structure Cx.Ok (X : Cx) : Prop where
  mod : Mod X.K X.mg X.base
  kind : X.env.scope.kind = .function
  glob : X.env.globals = mainGlobals
  blt : X.env.builtins = builtinsNs
  above : X.s₀.heap.objs.size ≤ X.env.locals
  inj : ∀ x y c, X.env.cells.lookup x = some c → X.env.cells.lookup y = some c → x = y
  has : ∀ x, (X.env.kindOf x = some .cell ∨ X.env.kindOf x = some .free) → ∃ c, X.env.cells.lookup x = some c
  cab : ∀ x c, X.fn x = true → X.env.cells.lookup x = some c → X.s₀.heap.objs.size ≤ c
  hd : X.calm = true → X.A.handled = none
  frames : X.A.frames = some X.stack
  stk : X.stack = X.outer ∨ (X.stack = X.env :: X.outer ∧ X.env.frame = some X.env.locals)
  exf : ∀ b ∈ X.ex, b ≠ X.env.locals ∧ ∀ x c, X.env.cells.lookup x = some c → c ≠ b
  bs : ∀ b o, X.base.get? b = some o → X.s₀.heap.get? b = some o ∧ X.H₀ b = none
  bsz : X.base.objs.size ≤ X.s₀.heap.objs.size
  noex : ∀ b o, X.base.get? b = some o → b ∉ X.ex
  exfs : ∀ b ∈ X.ex, b ∉ X.fs
  funs : X.s₀.heap.FunFrames X.base X.outer
  frf : ∀ b ∈ X.fs, X.H₀ b = none

structure Inv (X : Cx) (pins : List (Addr × Obj)) (σ : List (Option V)) (H : Hp) (s : Shared) : Prop where
  ok : X.Ok
  os : s.os = X.s₀.os
  bare : AllBare s.gens
  base : Un X.fs X.ex X.H₀ H X.s₀.heap s.heap
  loc : ∃ m, s.heap.Ns X.env.locals m ∧ ∀ (i : Nat) (x : Str) (v : V), X.N[i]? = some x → σ[i]? = some (some v) → Vis X.env.scope x → ∃ u, RelV v u ∧ Look X.env s.heap m x u
  cell : ∀ x c, X.env.cells.lookup x = some c → ∃ v, s.heap.IsCell c v
  free : H X.env.locals = none
  freeC : ∀ x c, X.env.cells.lookup x = some c → H c = none
  pin : ∀ p ∈ X.pn ++ pins, s.heap.get? p.1 = some p.2 ∧ H p.1 = none ∧ p.1 ≠ X.env.locals ∧ p.1 ∉ X.fs ∧ ∀ v, p.2.data ≠ .cell v
  hok : HOk X.prog X.w H s.heap
  len : σ.length = X.N.length

section
variable {X : Cx} {pins : List (Addr × Obj)} {σ : List (Option V)} {H H' : Hp} {s : Shared} {h' : Heap}

theorem Cx.Ok.nofr (ok : X.Ok) {b : Addr} {o : Obj} (e : X.base.get? b = some o) : b ∉ X.fs := fun hb => by
  have := (ok.funs.mem hb).1
  rw [e] at this; cases this
theorem Inv.bs (I : Inv X pins σ H s) : ∀ b o, X.base.get? b = some o → s.heap.get? b = some o ∧ H b = none := fun b o e =>
  ⟨I.base.keep b o (I.ok.bs b o e).1 (I.ok.bs b o e).2 (I.ok.nofr e) (I.ok.noex b o e), I.base.free b o (I.ok.bs b o e).1 (I.ok.bs b o e).2 (I.ok.noex b o e)⟩
theorem Inv.bk (I : Inv X pins σ H s) : ∀ b o, X.base.get? b = some o → s.heap.get? b = some o := fun b o e => (I.bs b o e).1
theorem Inv.mod (I : Inv X pins σ H s) : Mod X.K X.mg X.base := I.ok.mod
theorem Inv.kIn (I : Inv X pins σ H s) : X.K.In s.heap := I.ok.mod.kin.keeps I.bk
theorem Inv.lt (I : Inv X pins σ H s) : X.env.locals < s.heap.objs.size := let ⟨_, hn, _⟩ := I.loc; hn.lt
theorem Inv.sz (I : Inv X pins σ H s) : X.s₀.heap.objs.size ≤ s.heap.objs.size := Nat.le_trans I.ok.above (Nat.le_of_lt I.lt)
theorem Inv.nofs (I : Inv X pins σ H s) {a : Addr} (h : s.heap.objs.size ≤ a) : a ∉ X.fs := fun hb => by
  obtain ⟨_, o, ho, _⟩ := I.ok.funs.mem hb
  exact absurd (Nat.lt_of_lt_of_le (Heap.lt_size ho) (Nat.le_trans I.sz h)) (Nat.lt_irrefl _)
theorem Inv.cne (I : Inv X pins σ H s) : ∀ x c, X.env.cells.lookup x = some c → c ≠ X.env.locals := fun x c e z => by
  obtain ⟨v, o, ho, hd⟩ := I.cell x c e
  obtain ⟨m, ⟨o', es, ep, ho', hd', _⟩, _⟩ := I.loc
  rw [z, ho'] at ho; cases ho; rw [hd'] at hd; cases hd
theorem Inv.funs (I : Inv X pins σ H s) : s.heap.FunFrames X.base X.outer := by
  have all : ∀ (l : List Env), (∀ b ∈ frs l, b ∈ X.fs) → X.s₀.heap.FunFrames X.base l → s.heap.FunFrames X.base l := by
    intro l
    induction l with
    | nil => intro _ _; trivial
    | cons env r ih =>
      intro hs hl
      obtain ⟨hk, ⟨L, o, hf, hn, ho, hd⟩, hr⟩ := hl
      have hL : L ∈ X.fs := hs L (by unfold frs; rw [List.filterMap_cons, hf]; exact List.mem_cons_self)
      obtain ⟨sl, e⟩ := I.base.slot L o ho (I.ok.frf L hL) hL fun z => I.ok.exfs L z hL
      exact ⟨hk, ⟨L, _, hf, hn, e, hd⟩, ih (fun b hb => hs b (by unfold frs; rw [List.filterMap_cons, hf]; exact List.mem_cons_of_mem _ hb)) hr⟩
  exact all X.outer (fun _ hb => hb) I.ok.funs

/-- the frames that run, for a call -/
theorem Inv.stack (I : Inv X pins σ H s) : s.heap.FunFrames X.base X.stack := by
  rcases I.ok.stk with e | ⟨e, hf⟩
  · rw [e]; exact I.funs
  · rw [e]
    obtain ⟨m, hn, _⟩ := I.loc
    refine .cons (by rw [I.ok.kind]; decide) hf hn ?_ I.funs
    exact Heap.get?_none_of_le (Nat.le_trans I.ok.bsz I.ok.above)
theorem Inv.stkSub (I : Inv X pins σ H s) : ∀ b ∈ frs X.stack, b ∈ X.env.locals :: X.fs := fun b hb => by
  rcases I.ok.stk with e | ⟨e, hf⟩
  · rw [e] at hb; exact List.mem_cons_of_mem _ hb
  · rw [e] at hb
    unfold frs at hb
    rw [List.filterMap_cons, hf] at hb
    exact hb
theorem Inv.stkFree (I : Inv X pins σ H s) : ∀ b ∈ frs X.stack, H b = none := fun b hb => by
  rcases List.mem_cons.mp (I.stkSub b hb) with e | hb
  · rw [e]; exact I.free
  · obtain ⟨_, o, ho, _⟩ := I.ok.funs.mem hb
    exact I.base.free b o ho (I.ok.frf b hb) fun z => I.ok.exfs b z hb

/-- THE STEP: the untracked objects but the frame and the records at ch are kept (the callers' frames up to slots), the frame's map is kept, the new abstract heap is held -/
theorem Inv.step {g' : Array GenState} {t' : Nat} {d' : Drawn} {ch : List Addr} (I : Inv X pins σ H s)
    (hch : ∀ b ∈ ch, (b ∈ X.ex ∨ X.s₀.heap.objs.size ≤ b) ∧ b ≠ X.env.locals ∧ (∀ x c, X.env.cells.lookup x = some c → c ≠ b) ∧ ∀ p ∈ X.pn ++ pins, p.1 ≠ b)
    (keep : ∀ b o, b ≠ X.env.locals → b ∉ X.fs → b ∉ ch → s.heap.get? b = some o → H b = none → h'.get? b = some o)
    (slot : ∀ b o, b ≠ X.env.locals → b ∈ X.fs → b ∉ ch → s.heap.get? b = some o → H b = none → ∃ sl, h'.get? b = some { o with slots := sl }) (free : ∀ b o, b ∉ ch → s.heap.get? b = some o → H b = none → H' b = none)
    (there : ∀ b o, b ∉ ch → s.heap.get? b = some o → ∃ o', h'.get? b = some o')
    (tups : ∀ b xs, H b = some (.tup xs) → H' b = some (.tup xs)) (frzs : ∀ b o u, H b = some (.frz o u) → H' b = some (.frz o u)) (tbls : ∀ b ps, H b = some (.tbl ps) → ∃ more, H' b = some (.tbl (ps ++ more)))
    (ns : ∀ m, s.heap.Ns X.env.locals m → h'.Ns X.env.locals m) (hok : HOk X.prog X.w H' h') (hg : AllBare g') :
    Inv X pins σ H' { s with heap := h', gens := g', drawn := d', toks := t' } := by
  have neL : ∀ b o, X.s₀.heap.get? b = some o → b ≠ X.env.locals := fun b o e => Nat.ne_of_lt (Nat.lt_of_lt_of_le (Heap.lt_size e) I.ok.above)
  have neC : ∀ b o, X.s₀.heap.get? b = some o → b ∉ X.ex → b ∉ ch := fun b o e hx hb => by
    rcases (hch b hb).1 with z | z
    · exact hx z
    · exact absurd (Nat.lt_of_lt_of_le (Heap.lt_size e) z) (Nat.lt_irrefl _)
  have cellK : ∀ x c, X.env.cells.lookup x = some c → ∀ v, s.heap.IsCell c v → h'.IsCell c v := fun x c e v ⟨o, ho, hd⟩ => by
    have nch : c ∉ ch := fun z => (hch c z).2.2.1 x c e rfl
    by_cases hc : c ∈ X.fs
    · obtain ⟨sl, q⟩ := slot c o (I.cne x c e) hc nch ho (I.freeC x c e)
      exact ⟨_, q, hd⟩
    · exact ⟨o, keep c o (I.cne x c e) hc nch ho (I.freeC x c e), hd⟩
  refine ⟨I.ok, I.os, hg, ⟨fun b o e n hb hx => ?_, fun b o e n hb hx => ?_, fun b o e n hx => ?_, fun b o e hx => ?_, fun b xs e => tups b xs (I.base.tups b xs e), fun b o xs e => frzs b o xs (I.base.frzs b o xs e), fun b ps e => ?_⟩, ?_, fun x c e => ?_, ?_, fun x c e => ?_, fun p hp => ?_, hok, I.len⟩
  · exact keep b o (neL b o e) hb (neC b o e hx) (I.base.keep b o e n hb hx) (I.base.free b o e n hx)
  · obtain ⟨sl, e1⟩ := I.base.slot b o e n hb hx
    obtain ⟨sl', e2⟩ := slot b _ (neL b o e) hb (neC b o e hx) e1 (I.base.free b o e n hx)
    exact ⟨sl', e2⟩
  · obtain ⟨o', e1⟩ := I.base.there b o e hx
    exact free b o' (neC b o e hx) e1 (I.base.free b o e n hx)
  · obtain ⟨o', e1⟩ := I.base.there b o e hx
    exact there b o' (neC b o e hx) e1
  · obtain ⟨m1, e1⟩ := I.base.tbls b ps e
    obtain ⟨m2, e2⟩ := tbls b _ e1
    exact ⟨m1 ++ m2, by rw [e2, Array.append_assoc]⟩
  · obtain ⟨m, hn, hl⟩ := I.loc
    refine ⟨m, ns m hn, fun i x v e1 e2 e3 => ?_⟩
    obtain ⟨u, r, l⟩ := hl i x v e1 e2 e3
    refine ⟨u, r, ?_⟩
    rcases l with l | ⟨k, c, e, z⟩
    · exact .inl l
    · exact .inr ⟨k, c, e, cellK x c e _ z⟩
  · obtain ⟨v, z⟩ := I.cell x c e
    exact ⟨v, cellK x c e v z⟩
  · obtain ⟨m, ⟨o, _, _, ho, _⟩, _⟩ := I.loc
    exact free _ o (fun z => (hch _ z).2.1 rfl) ho I.free
  · obtain ⟨v, o, ho, hd⟩ := I.cell x c e
    exact free c o (fun z => (hch c z).2.2.1 x c e rfl) ho (I.freeC x c e)
  · obtain ⟨e, n, ne, nf, d⟩ := I.pin p hp
    have nch : p.1 ∉ ch := fun z => (hch p.1 z).2.2.2 p hp rfl
    exact ⟨keep p.1 p.2 ne nf nch e n, free p.1 p.2 nch e n, ne, nf, d⟩
/-- .. where the frame's own object is kept too -/
theorem Inv.un {t' : Nat} (I : Inv X pins σ H s) (u : Un X.fs [] H H' s.heap h') (hok : HOk X.prog X.w H' h') : Inv X pins σ H' { s with heap := h', toks := t' } := by
  obtain ⟨m, ⟨o, es, ep, ho, r⟩, _⟩ := id I.loc
  obtain ⟨sl, hL⟩ := u.any ho I.free (by simp)
  exact I.step (g' := s.gens) (d' := s.drawn) (ch := []) (fun _ z => nomatch z) (fun b o _ hb _ e n => u.keep b o e n hb (by simp)) (fun b o _ hb _ e n => u.slot b o e n hb (by simp)) (fun b o _ e n => u.free b o e n (by simp)) (fun b o _ e => u.there b o e (by simp)) u.tups u.frzs u.tbls (fun m' hm => by
    obtain ⟨o', es', ep', ho', r'⟩ := hm
    rw [ho] at ho'; cases ho'
    exact ⟨_, es', ep', hL, r'⟩) hok I.bare
/-- behind a call (or a comprehension's block): the slots of this frame may have changed too, the records at ch may have turned -/
theorem Inv.call {g' : Array GenState} {t' : Nat} {d' : Drawn} {ch : List Addr} (I : Inv X pins σ H s) (u : Un (frs X.stack) ch H H' s.heap h') (hok : HOk X.prog X.w H' h') (hg : AllBare g')
    (hch : ∀ b ∈ ch, (b ∈ X.ex ∨ X.s₀.heap.objs.size ≤ b) ∧ b ≠ X.env.locals ∧ (∀ x c, X.env.cells.lookup x = some c → c ≠ b) ∧ ∀ p ∈ X.pn ++ pins, p.1 ≠ b) :
    Inv X pins σ H' { s with heap := h', gens := g', drawn := d', toks := t' } := by
  obtain ⟨m, ⟨o, es, ep, ho, r⟩, _⟩ := id I.loc
  obtain ⟨sl, hL⟩ := u.any ho I.free fun z => (hch _ z).2.1 rfl
  exact I.step (ch := ch) hch (fun b o hL hb hc e n => u.keep b o e n (fun z => (List.mem_cons.mp (I.stkSub b z)).elim hL hb) hc) (fun b o _ _ hc e n => u.any e n hc) (fun b o hc e n => u.free b o e n hc) (fun b o hc e => u.there b o e hc) u.tups u.frzs u.tbls (fun m' hm => by
    obtain ⟨o', es', ep', ho', r'⟩ := hm
    rw [ho] at ho'; cases ho'
    exact ⟨_, es', ep', hL, r'⟩) hok hg
/-- an untracked record of ours (an iterator) has turned -/
theorem Inv.turned {t' : Nat} {it : Addr} (I : Inv X pins σ H s) (k : ∀ b o, b ≠ it → s.heap.get? b = some o → h'.get? b = some o) (hn : H it = none) (hL : it ≠ X.env.locals)
    (h1 : it ∈ X.ex ∨ X.s₀.heap.objs.size ≤ it) (h2 : ∀ x c, X.env.cells.lookup x = some c → c ≠ it) (h3 : ∀ p ∈ X.pn ++ pins, p.1 ≠ it) : Inv X pins σ H { s with heap := h', toks := t' } := by
  have nit : ∀ b u, H b = some u → b ≠ it := fun b u e z => by rw [z, hn] at e; cases e
  refine I.step (g' := s.gens) (d' := s.drawn) (ch := [it]) (fun b hb => ?_) (fun b o _ _ hc e _ => k b o (fun z => hc (by simp [z])) e) (fun b o _ _ hc e _ => ⟨o.slots, k b o (fun z => hc (by simp [z])) e⟩) (fun _ _ _ _ n => n)
    (fun b o hc e => ⟨o, k b o (fun z => hc (by simp [z])) e⟩) (fun _ _ e => e) (fun _ _ _ e => e) (fun b ps e => ⟨#[], by rw [e]; simp⟩) (fun m hm => ?_) (fun b u e => ?_) I.bare
  · have e : b = it := by simpa using hb
    subst e
    exact ⟨h1, hL, h2, h3⟩
  · obtain ⟨o, es, ep, ho, r⟩ := hm
    exact ⟨o, es, ep, k _ o (Ne.symm hL) ho, r⟩
  · refine (I.hok b u e).stay (fun c v hc q => k c v ?_ q) (fun _ q => q) fun _ _ q => q
    rcases hc with z | z
    · rw [z]; exact nit b u e
    · exact nit c _ z
theorem Inv.tok (I : Inv X pins σ H s) (t : Nat) : Inv X pins σ H { s with toks := t } := I.un (h' := s.heap) (t' := t) Un.refl I.hok
/-- all objects kept -/
theorem Inv.kept {t' : Nat} (I : Inv X pins σ H s) (k : ∀ b u, s.heap.get? b = some u → h'.get? b = some u) : Inv X pins σ H { s with heap := h', toks := t' } := I.un (Un.kept k) (I.hok.kept k)
/-- a new object laid and tracked -/
theorem Inv.laid {a : Addr} {o : HO} {t' : Nat} (I : Inv X pins σ H s) (k : ∀ b u, s.heap.get? b = some u → h'.get? b = some u) (hp : s.heap.objs.size ≤ a) (new : ObjOk X.prog X.w (upd H a o) h' a o) :
    Inv X pins σ (upd H a o) { s with heap := h', toks := t' } := I.un (Un.laid k hp (I.hok.fresh hp)) (I.hok.laid k hp new)
/-- an object written -/
theorem Inv.write {x e : Addr} {o : HO} {t' : Nat} (I : Inv X pins σ H s) (mu : Mut (H x)) (he : e = x ∨ H e = some (.own x)) (k : ∀ b u, b ≠ e → s.heap.get? b = some u → h'.get? b = some u) (heo : ∃ u, h'.get? e = some u)
    (new : ObjOk X.prog X.w (upd H x o) h' x o) : Inv X pins σ (upd H x o) { s with heap := h', toks := t' } := I.un (Un.write mu he k heo) (I.hok.write mu he k heo new)
theorem Inv.pins_of {pins' : List (Addr × Obj)} (I : Inv X pins σ H s) (h : ∀ p ∈ pins', s.heap.get? p.1 = some p.2 ∧ H p.1 = none ∧ p.1 ≠ X.env.locals ∧ p.1 ∉ X.fs ∧ ∀ v, p.2.data ≠ .cell v) : Inv X pins' σ H s :=
  ⟨I.ok, I.os, I.bare, I.base, I.loc, I.cell, I.free, I.freeC, fun p hp => (List.mem_append.mp hp).elim (fun z => I.pin p (List.mem_append_left _ z)) (h p), I.hok, I.len⟩

theorem nodup_ix {N : List Str} (hN : N.Nodup) {i j : Nat} {x : Str} (a : N[i]? = some x) (b : N[j]? = some x) : i = j := by
  obtain ⟨h1, e1⟩ := List.getElem?_eq_some_iff.mp a
  obtain ⟨h2, e2⟩ := List.getElem?_eq_some_iff.mp b
  exact (List.getElem_inj hN).mp (e1.trans e2.symm)

/-- a name is stored; what changed -/
theorem store_ok2 {M : Model} {A : Around} {E : Value → Shared → Prop} {i : Nat} {x : Str} {v : V} {u : Value} {Q : Unit → Shared → Prop} (I : Inv X pins σ H s) (hN : X.N.Nodup) (hi : X.N[i]? = some x) (hx : Loc X.env.scope x) (r : RelV v u)
    (h : ∀ s', Inv X pins (σ.set i (some v)) H s' → (∃ a, Heap.SameBut a s.heap s'.heap ∧ (a = X.env.locals ∨ X.env.cells.lookup x = some a)) → Q () s') (hf : X.fn x = true ∨ X.env.scope.names.lookup x = some .local := by first | exact .inl rfl | exact .inr rfl | assumption) : wpAny M A (storeName X.env x u) Q E s := by
  obtain ⟨m, hn, hl⟩ := id I.loc
  have hcls : (X.env.scope.kind == .class || (X.env.scope.kind == .module && X.env.locals != X.env.globals)) = false := by rw [I.ok.kind]; rfl
  have hiσ : i < σ.length := by rw [I.len]; exact (List.getElem?_eq_some_iff.mp hi).1
  have cne := I.cne
  have tracked : ∀ {a : Addr} {h' : Heap}, (∃ o, s.heap.get? a = some o ∧ H a = none) → Heap.SameBut a s.heap h' → HOk X.prog X.w H h' := fun {a h'} ha hs b ob e => by
    obtain ⟨_, _, hfree⟩ := ha
    refine (I.hok b ob e).stay (fun c w' hc q => (hs.2 c ?_).trans q) (fun _ q => q) fun _ _ q => q
    rintro rfl
    rcases hc with rfl | hc
    · rw [hfree] at e; cases e
    · rw [hfree] at hc; cases hc
  rcases hx with hk | hk
  · refine wpAny_storeName_local hk hn (fun h' hn' hs => ?_) hcls
    obtain ⟨oL, _, _, hoL, _⟩ := id hn
    refine h _ ⟨I.ok, I.os, I.bare, ⟨fun b o e n hb hx => ?_, fun b o e n hb hx => ?_, I.base.free, fun b o e hx => ?_, I.base.tups, I.base.frzs, I.base.tbls⟩, ⟨_, hn', fun j y v' e1 e2 e3 => ?_⟩, fun y c e => ?_, I.free, I.freeC, fun p hp => ?_, tracked ⟨oL, hoL, I.free⟩ hs, by simpa using I.len⟩ ⟨_, hs, .inl rfl⟩
    · exact (hs.2 b (Nat.ne_of_lt (Nat.lt_of_lt_of_le (Heap.lt_size e) I.ok.above))).trans (I.base.keep b o e n hb hx)
    · obtain ⟨sl, e1⟩ := I.base.slot b o e n hb hx
      exact ⟨sl, (hs.2 b (Nat.ne_of_lt (Nat.lt_of_lt_of_le (Heap.lt_size e) I.ok.above))).trans e1⟩
    · obtain ⟨o', e1⟩ := I.base.there b o e hx
      exact ⟨o', (hs.2 b (Nat.ne_of_lt (Nat.lt_of_lt_of_le (Heap.lt_size e) I.ok.above))).trans e1⟩
    · by_cases hj : j = i
      · subst hj
        rw [hi] at e1; cases e1
        rw [List.getElem?_set_self hiσ] at e2
        cases e2
        exact ⟨u, r, .inl ⟨hk, by simp⟩⟩
      · rw [List.getElem?_set_ne (Ne.symm hj)] at e2
        obtain ⟨u', r', q⟩ := hl j y v' e1 e2 e3
        refine ⟨u', r', ?_⟩
        rcases q with ⟨k, e⟩ | ⟨k, c, e, z⟩
        · refine .inl ⟨k, ?_⟩
          have : y ≠ x := fun e => hj (nodup_ix hN e1 (e ▸ hi))
          simp [this, e]
        · exact .inr ⟨k, c, e, z.sameBut hs (cne y c e)⟩
    · obtain ⟨w', z⟩ := I.cell y c e
      exact ⟨w', z.sameBut hs (cne y c e)⟩
    · obtain ⟨e, n, ne, nf, d⟩ := I.pin p hp
      exact ⟨(hs.2 p.1 ne).trans e, n, ne, nf, d⟩
  · have hfn : X.fn x = true := by
      rcases hf with z | z
      · exact z
      · rw [z] at hk; cases hk
    obtain ⟨c, hc⟩ := I.ok.has x (.inl hk)
    obtain ⟨w', z⟩ := I.cell x c hc
    refine wpAny_storeName_cell I.ok.kind hk hc z (fun h' hc' hs => ?_)
    obtain ⟨oc, hoc, hocd⟩ := id z
    refine h { s with heap := h' } ⟨I.ok, I.os, I.bare, ⟨fun b o e n hb hx => ?_, fun b o e n hb hx => ?_, I.base.free, fun b o e hx => ?_, I.base.tups, I.base.frzs, I.base.tbls⟩, ⟨m, hn.sameBut hs (Ne.symm (cne x c hc)), fun j y v' e1 e2 e3 => ?_⟩, fun y c' e => ?_, I.free, I.freeC, fun p hp => ?_, tracked ⟨oc, hoc, I.freeC x c hc⟩ hs, by simpa using I.len⟩ ⟨c, hs, .inr hc⟩
    · exact (hs.2 b (Nat.ne_of_lt (Nat.lt_of_lt_of_le (Heap.lt_size e) (I.ok.cab x c hfn hc)))).trans (I.base.keep b o e n hb hx)
    · obtain ⟨sl, e1⟩ := I.base.slot b o e n hb hx
      exact ⟨sl, (hs.2 b (Nat.ne_of_lt (Nat.lt_of_lt_of_le (Heap.lt_size e) (I.ok.cab x c hfn hc)))).trans e1⟩
    · obtain ⟨o', e1⟩ := I.base.there b o e hx
      exact ⟨o', (hs.2 b (Nat.ne_of_lt (Nat.lt_of_lt_of_le (Heap.lt_size e) (I.ok.cab x c hfn hc)))).trans e1⟩
    · by_cases hj : j = i
      · subst hj
        rw [hi] at e1; cases e1
        rw [List.getElem?_set_self hiσ] at e2
        cases e2
        exact ⟨u, r, .inr ⟨.inl hk, c, hc, hc'⟩⟩
      · rw [List.getElem?_set_ne (Ne.symm hj)] at e2
        obtain ⟨u', r', q⟩ := hl j y v' e1 e2 e3
        refine ⟨u', r', ?_⟩
        rcases q with q | ⟨k, c', e, z'⟩
        · exact .inl q
        · refine .inr ⟨k, c', e, z'.sameBut hs ?_⟩
          rintro rfl
          exact hj (nodup_ix hN e1 (I.ok.inj _ _ _ e hc ▸ hi))
    · by_cases hcc : c' = c
      · subst hcc; exact ⟨_, hc'⟩
      · obtain ⟨w2, z2⟩ := I.cell y c' e
        exact ⟨w2, z2.sameBut hs hcc⟩
    · obtain ⟨e, n, ne, nf, d⟩ := I.pin p hp
      refine ⟨(hs.2 p.1 ?_).trans e, n, ne, nf, d⟩
      intro q
      rw [q, hoc] at e
      have q' : oc = p.2 := Option.some.inj e
      exact d w' (by rw [← q']; exact hocd)
theorem store_ok {M : Model} {A : Around} {E : Value → Shared → Prop} {i : Nat} {x : Str} {v : V} {u : Value} {Q : Unit → Shared → Prop} (I : Inv X pins σ H s) (hN : X.N.Nodup) (hi : X.N[i]? = some x) (hx : Loc X.env.scope x) (r : RelV v u)
    (h : ∀ s', Inv X pins (σ.set i (some v)) H s' → Q () s') (hf : X.fn x = true ∨ X.env.scope.names.lookup x = some .local := by first | exact .inl rfl | exact .inr rfl | assumption) : wpAny M A (storeName X.env x u) Q E s :=
  store_ok2 I hN hi hx r (fun s' I' _ => h s' I') hf
/-- behind a call or a block, the state as it is -/
theorem Inv.call' {s' : Shared} {ch : List Addr} (I : Inv X pins σ H s) (ho : s'.os = s.os) (u : Un (frs X.stack) ch H H' s.heap s'.heap) (hok : HOk X.prog X.w H' s'.heap) (hg : AllBare s'.gens)
    (hch : ∀ b ∈ ch, (b ∈ X.ex ∨ X.s₀.heap.objs.size ≤ b) ∧ b ≠ X.env.locals ∧ (∀ x c, X.env.cells.lookup x = some c → c ≠ b) ∧ ∀ p ∈ X.pn ++ pins, p.1 ≠ b) : Inv X pins σ H' s' := by
  obtain ⟨h', g', d', t', o'⟩ := s'
  have e : o' = s.os := ho
  subst e
  exact I.call (g' := g') (t' := t') (d' := d') u hok hg hch
end

/-! ### the judgements -/
/-- an exception: its class, its own dict's address (where it has one), the abstract heap behind it -/
abbrev XK := Value → Option Addr → Hp → Prop
abbrev St := List (Option V)
abbrev VK := V → Hp → Prop
/-- an expression's reading; a test's; an argument list's -/
abbrev TE := St → Hp → VK → Prop
abbrev TT := St → Hp → (Bool → Hp → Prop) → Prop
abbrev TA := St → Hp → (List V → Hp → Prop) → Prop
/-- what is wanted behind a statement -/
structure Ends where
  nx : St → Hp → Prop
  rt : VK
  bk : St → Hp → Prop := fun _ _ => False
  ct : St → Hp → Prop := fun _ _ => False
abbrev TS := Ends → St → Hp → Prop

def EP (X : Cx) (pins : List (Addr × Obj)) (σ : St) (Q : VK) (u : Value) (s' : Shared) : Prop := ∃ v H', Inv X pins σ H' s' ∧ RelV v u ∧ Q v H'
def TP (X : Cx) (pins : List (Addr × Obj)) (σ : St) (Q : Bool → Hp → Prop) (b : Bool) (s' : Shared) : Prop := ∃ H', Inv X pins σ H' s' ∧ Q b H'
def AP (X : Cx) (pins : List (Addr × Obj)) (σ : St) (Q : List V → Hp → Prop) (us : List Value) (s' : Shared) : Prop := ∃ vs H', Inv X pins σ H' s' ∧ Vals vs us ∧ Q vs H'
def SP (X : Cx) (pins : List (Addr × Obj)) (D : Ends) (f : Flow) (s' : Shared) : Prop :=
  match f with
  | .next => ∃ σ' H', Inv X pins σ' H' s' ∧ D.nx σ' H'
  | .brk => ∃ σ' H', Inv X pins σ' H' s' ∧ D.bk σ' H'
  | .cont => ∃ σ' H', Inv X pins σ' H' s' ∧ D.ct σ' H'
  | .ret u => ∃ v σ' H', Inv X pins σ' H' s' ∧ RelV v u ∧ D.rt v H'

def PE (X : Cx) (e : Expr) (t : TE) : Prop :=
  ∀ (pins : List (Addr × Obj)) (s : Shared) (σ : St) (H : Hp) (Q : VK), Inv X pins σ H s → t σ H Q → wpAny (model X.prog X.w) X.A (eval e X.env) (EP X pins σ Q) X.xe s
def PT (X : Cx) (e : Expr) (t : TT) : Prop :=
  ∀ (pins : List (Addr × Obj)) (s : Shared) (σ : St) (H : Hp) (Q : Bool → Hp → Prop), Inv X pins σ H s → t σ H Q → wpAny (model X.prog X.w) X.A (isTrue e X.env (eval e X.env)) (TP X pins σ Q) X.xe s
/-- a test whatever its 'whole' is (and, or) -/
def PW (X : Cx) (e : Expr) (t : TT) : Prop :=
  ∀ (whole : Sem Value) (pins : List (Addr × Obj)) (s : Shared) (σ : St) (H : Hp) (Q : Bool → Hp → Prop), Inv X pins σ H s → t σ H Q → wpAny (model X.prog X.w) X.A (isTrue e X.env whole) (TP X pins σ Q) X.xe s
theorem PW.pt {X : Cx} {e : Expr} {t : TT} (h : PW X e t) : PT X e t := h _
/-- an argument list (no star), from the left -/
def PA (X : Cx) (es : List Expr) (t : TA) : Prop :=
  ∀ (pos : Pos) (pins : List (Addr × Obj)) (s : Shared) (σ : St) (H : Hp) (Q : List V → Hp → Prop), Inv X pins σ H s → t σ H Q → wpAny (model X.prog X.w) X.A (spliced (backTo pos (starEach es X.env))) (AP X pins σ Q) X.xe s
def PS (X : Cx) (st : Stmt) (t : TS) : Prop :=
  ∀ (pins : List (Addr × Obj)) (s : Shared) (σ : St) (H : Hp) (D : Ends), Inv X pins σ H s → t D σ H → wpAny (model X.prog X.w) X.A (exec st X.env) (SP X pins D) X.xe s
def PSs (X : Cx) (st : List Stmt) (t : TS) : Prop :=
  ∀ (pins : List (Addr × Obj)) (s : Shared) (σ : St) (H : Hp) (D : Ends), Inv X pins σ H s → t D σ H → wpAny (model X.prog X.w) X.A (execs st X.env) (SP X pins D) X.xe s
/-- weaken the end -/
theorem thn {α : Type} {t : Sem α} {Q Q' : α → Shared → Prop} {M : Model} {A : Around} {E : Value → Shared → Prop} {s : Shared} (h : wpAny M A t Q E s) (hQ : ∀ a s, Q a s → Q' a s) : wpAny M A t Q' E s := wpAny_mono h hQ fun _ _ x => x
end L2

namespace L2
open PySem PySem.Spec PyProof.Rows
section
variable {X : Cx}

/-! ### names and constants -/
def tVar (i : Nat) : TE := fun σ H Q => ∃ v, σ[i]? = some (some v) ∧ Q v H
def tC (v : V) : TE := fun _ H Q => Q v H
theorem pe_var {i : Nat} {x : Str} {pos : Pos} (hN : X.N[i]? = some x) (hv : Vis X.env.scope x) (hd : (x == ("__debug__" : Str)) = false := by decide) (hcd : (x == ("__classdict__" : Str)) = false := by decide) : PE X (.Name x pos) (tVar i) := by
  intro pins s σ H Q I h
  obtain ⟨v, e, h⟩ := h
  obtain ⟨m, hn, hl⟩ := I.loc
  obtain ⟨u, r, l⟩ := hl i x v hN e hv
  have fin : EP X pins σ Q u s := ⟨v, H, I, r, h⟩
  rcases l with ⟨hk, hm⟩ | ⟨hk, c, hc, hcell⟩
  · exact wpAny_Name (wpAny_loadName_local I.ok.kind hk hn hm fin) hd
  · rcases hk with hk | hk
    · exact wpAny_Name (wpAny_loadName_cell I.ok.kind hk hc hcell fin) hd
    · exact wpAny_Name (wpAny_loadName_free I.ok.kind hk hc hcell fin hcd) hd
theorem pe_int {i j pos} : PE X (.Constant (.int i) j pos) (tC (.int i)) := fun _ _ _ H _ I h => wpAny_Constant_int ⟨.int i, H, I.tok _, ⟨_, rfl⟩, h⟩
theorem pe_bl {b j pos} : PE X (.Constant (.bool b) j pos) (tC (.bl b)) := fun _ _ _ H _ I h => Constant_bool ⟨.bl b, H, I, rfl, h⟩
theorem pe_non {j pos} : PE X (.Constant .none j pos) (tC .non) := fun _ _ _ H _ I h => Constant_none ⟨.non, H, I, rfl, h⟩
theorem pe_str {x j pos} : PE X (.Constant (.str x) j pos) (tC (.str x)) := fun _ _ _ H _ I h => Calls.Constant_str ⟨.str x, H, I.tok _, ⟨_, rfl⟩, h⟩

/-- a global name of the def -/
def Gl (X : Cx) (x : Str) : Prop := X.env.kindOf x = some .globalImplicit
theorem ld_glob {E : Value → Shared → Prop} {pins : List (Addr × Obj)} {s : Shared} {σ : St} {H : Hp} {x : Str} {u : Value} {pos : Pos} {Q : Value → Shared → Prop} (I : Inv X pins σ H s) (hg : Gl X x) (hm : X.mg x = some u) (h : Q u s)
    (hd : (x == ("__debug__" : Str)) = false := by decide) : wpAny (model X.prog X.w) X.A (eval (.Name x pos) X.env) Q E s :=
  Calls.Name_function_global I.ok.kind hg (Calls.loadGlobal_global (by rw [I.ok.glob]; exact I.mod.glob.keeps I.bk) hm h) hd
theorem ld_blt {E : Value → Shared → Prop} {pins : List (Addr × Obj)} {s : Shared} {σ : St} {H : Hp} {x : Str} {u : Value} {pos : Pos} {Q : Value → Shared → Prop} (I : Inv X pins σ H s) (hg : Gl X x) (hm : X.mg x = none) (hv : bootBuiltins x = some u) (h : Q u s)
    (hn : x ≠ "__name__" := by decide) (hd : (x == ("__debug__" : Str)) = false := by decide) : wpAny (model X.prog X.w) X.A (eval (.Name x pos) X.env) Q E s := by
  obtain ⟨mb, h1, h2⟩ := I.mod.blt
  exact Calls.Name_function_global I.ok.kind hg (Calls.loadGlobal_builtin (by rw [I.ok.glob]; exact I.mod.glob.keeps I.bk) hm (by rw [I.ok.blt]; exact h1.keeps I.bk) ((h2 x hn).trans hv) h) hd
/-- a module's constant, a class, a function, as a value -/
theorem pe_glob {x : Str} {v : V} {u : Value} {pos : Pos} (hg : Gl X x) (hm : X.mg x = some u) (r : RelV v u) (hd : (x == ("__debug__" : Str)) = false := by decide) : PE X (.Name x pos) (tC v) :=
  fun _ _ _ H _ I h => ld_glob I hg hm ⟨v, H, I, r, h⟩ hd
theorem pe_bltn {x : Str} {v : V} {u : Value} {pos : Pos} (hg : Gl X x) (hm : X.mg x = none) (hv : bootBuiltins x = some u) (r : RelV v u) (hn : x ≠ "__name__" := by decide) (hd : (x == ("__debug__" : Str)) = false := by decide) : PE X (.Name x pos) (tC v) :=
  fun _ _ _ H _ I h => ld_blt I hg hm hv ⟨v, H, I, r, h⟩ hn hd

/-! ### arithmetic -/
variable {a b : Expr} {ta tb : TE} {pos : Pos}
/-! ### comparisons -/
/-- a comparison as a value, as a test -/
def tB (t : TE) : TT := fun σ H Q => t σ H fun x H1 => ∃ c, x = .bl c ∧ Q c H1
/-- an expression whose value is a bool, as a test -/
theorem pt_val {e : Expr} {t : TE} (h : PE X e t) (he : ∀ whole, isTrue e X.env whole = (do let v ← whole; standAt e.pos; holding [v] (truthy v)) := by intro _; rfl) : PT X e (tB t) := by
  intro pins s σ H Q I hw
  refine isTrue_plain (thn (h pins s σ H _ I hw) fun v s1 ⟨x, H1, I1, r1, q1⟩ => ?_) (he _)
  obtain ⟨d, rfl, q⟩ := q1
  cases r1
  exact wpAny_truthy_bool ⟨H1, I1, q⟩

/-! ### and, or, not -/
variable {tA tB' : TT} {rest : List Expr}
def tAnd (t u : TT) : TT := fun σ H Q => t σ H fun c H1 => if c = true then u σ H1 Q else Q false H1
def tOr (t u : TT) : TT := fun σ H Q => t σ H fun c H1 => if c = true then Q true H1 else u σ H1 Q
def tNot (t : TT) : TT := fun σ H Q => t σ H fun c H1 => Q (!c) H1
theorem pw_and1 (ha : PT X a tA) : PW X (.BoolOp .And [a] pos) tA := by
  intro wh pins s σ H Q I h
  refine isTrue_and (thn (ha pins s σ H Q I h) fun c s1 e => ?_)
  cases c with
  | true => exact isTrue_and_nil e
  | false => exact e
theorem pw_or1 (ha : PT X a tA) : PW X (.BoolOp .Or [a] pos) tA := by
  intro wh pins s σ H Q I h
  refine isTrue_or (thn (ha pins s σ H Q I h) fun c s1 e => ?_)
  cases c with
  | false => exact isTrue_or_nil e
  | true => exact e
theorem pw_and (ha : PT X a tA) (hb : PW X (.BoolOp .And (b :: rest) pos) tB') : PW X (.BoolOp .And (a :: b :: rest) pos) (tAnd tA tB') := by
  intro wh pins s σ H Q I h
  refine isTrue_and (thn (ha pins s σ H _ I h) fun c s1 ⟨H1, I1, q1⟩ => ?_)
  cases c with
  | true => exact hb wh pins s1 σ H1 Q I1 q1
  | false => exact ⟨H1, I1, q1⟩
theorem pw_or (ha : PT X a tA) (hb : PW X (.BoolOp .Or (b :: rest) pos) tB') : PW X (.BoolOp .Or (a :: b :: rest) pos) (tOr tA tB') := by
  intro wh pins s σ H Q I h
  refine isTrue_or (thn (ha pins s σ H _ I h) fun c s1 ⟨H1, I1, q1⟩ => ?_)
  cases c with
  | true => exact ⟨H1, I1, q1⟩
  | false => exact hb wh pins s1 σ H1 Q I1 q1
theorem pt_not (ha : PT X a tA) : PT X (.UnaryOp .Not a pos) (tNot tA) := by
  intro pins s σ H Q I h
  exact isTrue_not (ha pins s σ H (fun c H1 => Q (!c) H1) I h)
/-- .. as values (bools) -/
def tAndV (ta tb : TE) : TE := fun σ H Q => ta σ H fun x H1 => ∃ c, x = .bl c ∧ if c = true then tb σ H1 Q else Q (.bl false) H1
theorem pe_one {op} {t : TE} (h : PE X a t) : PE X (.BoolOp op [a] pos) t := fun pins s σ H Q I hw => BoolOp_one (h pins s σ H Q I hw)
theorem pe_and (ha : PE X a ta) (hb : PE X (.BoolOp .And (b :: rest) pos) tb) : PE X (.BoolOp .And (a :: b :: rest) pos) (tAndV ta tb) := by
  intro pins s σ H Q I h
  refine BoolOp_and (thn (ha pins s σ H _ I h) fun v s1 ⟨x, H1, I1, r1, q1⟩ => ?_)
  obtain ⟨c, rfl, q1⟩ := q1
  cases r1
  refine wpAny_truthy_bool ?_
  cases c with
  | true => exact hb pins s1 σ H1 Q I1 q1
  | false => exact ⟨.bl false, H1, I1, rfl, q1⟩
end
end L2

namespace L2
open PySem PySem.Spec PyProof.Rows

/-! ### a list, a tuple that is read: tracked, frozen, or an object of the module -/
def SqL (K : PySem.W.Frag) (H : Hp) (a : Addr) (xs : List V) : Prop :=
  Rd H a (.lst xs) ∨
    ∃ (o : Obj) (its : Array Value) (n : Nat), K.lookup a = some o ∧ o.cls = .type "list" ∧ o.dict = none ∧ o.data = .seq its n ∧ its.size ≤ sizeLine ∧ Vals xs its.toList
def SqT (K : PySem.W.Frag) (H : Hp) (a : Addr) (xs : List V) : Prop :=
  Rd H a (.tup xs) ∨
    ∃ (o : Obj) (its : Array Value) (n : Nat), K.lookup a = some o ∧ o.cls = .type "tuple" ∧ o.data = .seq its n ∧ its.size ≤ sizeLine ∧ Vals xs its.toList
def absV : Value → Option V
  | .none => some .non
  | .bool b => some (.bl b)
  | .int i _ => some (.int i)
  | .str x _ => some (.str x)
  | .bytes b _ => some (.byt b)
  | .float b _ => some (.flt b)
  | .ref a => some (.ref a)
  | .type n => some (.ty n)
  | _ => none
theorem RelV.abs {x : V} {u : Value} (r : RelV x u) : absV u = some x := by
  cases x with
  | non => cases r; rfl
  | bl _ => cases r; rfl
  | int _ => obtain ⟨t, rfl⟩ := r; rfl
  | str _ => obtain ⟨t, rfl⟩ := r; rfl
  | byt _ => obtain ⟨t, rfl⟩ := r; rfl
  | flt _ => obtain ⟨t, rfl⟩ := r; rfl
  | ref _ => cases r; rfl
  | ty _ => cases r; rfl
theorem RelV.inj {x y : V} {u : Value} (r : RelV x u) (q : RelV y u) : x = y := Option.some.inj (r.abs.symm.trans q.abs)
theorem Vals.inj : ∀ {xs ys : List V} {us : List Value}, Vals xs us → Vals ys us → xs = ys
  | _, _, _, .nil, .nil => rfl
  | _, _, _, .cons r t, .cons r' t' => by rw [r.inj r', Vals.inj t t']
section
variable {X : Cx} {pins : List (Addr × Obj)} {σ : St} {H : Hp} {s : Shared} {a : Addr} {xs ys : List V}
theorem SqL.of {K : PySem.W.Frag} (h : H a = some (.lst xs)) : SqL K H a xs := .inl (.inl h)
theorem SqT.of {K : PySem.W.Frag} (h : H a = some (.tup xs)) : SqT K H a xs := .inl (.inl h)
theorem Inv.list (I : Inv X pins σ H s) (h : SqL X.K H a xs) : ∃ its : List Value, Vals xs its ∧ PlainL s.heap a its.toArray ∧ xs.length ≤ sizeLine := by
  rcases h with h | ⟨o, its, n, hk, hc, hd, hs, hz, r⟩
  · obtain ⟨z, its, n, r, e⟩ := h.ok I.hok
    exact ⟨its, r, ⟨_, n, e, rfl, rfl, rfl⟩, z⟩
  · refine ⟨its.toList, r, ⟨o, n, I.kIn a o hk, hc, hd, by simpa using hs⟩, ?_⟩
    have e := r.length
    simp only [Array.length_toList] at e
    omega
theorem Inv.tuple (I : Inv X pins σ H s) (h : SqT X.K H a xs) : ∃ its : List Value, Vals xs its ∧ IsTup s.heap a its.toArray ∧ xs.length ≤ sizeLine := by
  rcases h with h | ⟨o, its, n, hk, hc, hs, hz, r⟩
  · obtain ⟨z, its, r, p⟩ := h.ok I.hok
    exact ⟨its, r, p.tup, z⟩
  · refine ⟨its.toList, r, ⟨o, I.kIn a o hk, hc, n, by simpa using hs⟩, ?_⟩
    have e := r.length
    simp only [Array.length_toList] at e
    omega
theorem Inv.list_inj (I : Inv X pins σ H s) (h : SqL X.K H a xs) (h' : SqL X.K H a ys) : xs = ys := by
  obtain ⟨its, r, ⟨o, n, e, _, _, d⟩, _⟩ := I.list h
  obtain ⟨its', r', ⟨o', n', e', _, _, d'⟩, _⟩ := I.list h'
  rw [e] at e'; cases e'
  rw [d] at d'
  injection d' with d1 _
  have : its = its' := by simpa using congrArg Array.toList d1
  subst this
  exact r.inj r'
theorem Inv.tuple_inj (I : Inv X pins σ H s) (h : SqT X.K H a xs) (h' : SqT X.K H a ys) : xs = ys := by
  obtain ⟨its, r, ⟨o, e, _, n, d⟩, _⟩ := I.tuple h
  obtain ⟨its', r', ⟨o', e', _, n', d'⟩, _⟩ := I.tuple h'
  rw [e] at e'; cases e'
  rw [d] at d'
  injection d' with d1 _
  have : its = its' := by simpa using congrArg Array.toList d1
  subst this
  exact r.inj r'
end

/-! ### another wish about exceptions -/
abbrev Cx.wish (X : Cx) (E : Value → Shared → Prop) : Cx := { X with xe := E }
/-- no exception leaves -/
abbrev Cx.nox (X : Cx) : Cx := X.wish fun _ _ => False
theorem Cx.Ok.wish {X : Cx} (ok : X.Ok) (E : Value → Shared → Prop) : (X.wish E).Ok :=
  ⟨ok.mod, ok.kind, ok.glob, ok.blt, ok.above, ok.inj, ok.has, ok.cab, ok.hd, ok.frames, ok.stk, ok.exf, ok.bs, ok.bsz, ok.noex, ok.exfs, ok.funs, ok.frf⟩
theorem Cx.Ok.unwish {X : Cx} {E : Value → Shared → Prop} (ok : (X.wish E).Ok) : X.Ok :=
  ⟨ok.mod, ok.kind, ok.glob, ok.blt, ok.above, ok.inj, ok.has, ok.cab, ok.hd, ok.frames, ok.stk, ok.exf, ok.bs, ok.bsz, ok.noex, ok.exfs, ok.funs, ok.frf⟩
section
variable {X : Cx} {pins : List (Addr × Obj)} {σ : St} {H : Hp} {s : Shared} {E : Value → Shared → Prop}
theorem Inv.wish (I : Inv X pins σ H s) (E : Value → Shared → Prop) : Inv (X.wish E) pins σ H s := ⟨I.ok.wish E, I.os, I.bare, I.base, I.loc, I.cell, I.free, I.freeC, I.pin, I.hok, I.len⟩
theorem Inv.unwish (I : Inv (X.wish E) pins σ H s) : Inv X pins σ H s := ⟨I.ok.unwish, I.os, I.bare, I.base, I.loc, I.cell, I.free, I.freeC, I.pin, I.hok, I.len⟩
theorem SP.unwish {D : Ends} {f : Flow} {s' : Shared} (h : SP (X.wish E) pins D f s') : SP X pins D f s' := by
  cases f with
  | next => obtain ⟨σ', H', I, q⟩ := h; exact ⟨σ', H', I.unwish, q⟩
  | brk => obtain ⟨σ', H', I, q⟩ := h; exact ⟨σ', H', I.unwish, q⟩
  | cont => obtain ⟨σ', H', I, q⟩ := h; exact ⟨σ', H', I.unwish, q⟩
  | ret u => obtain ⟨v, σ', H', I, r, q⟩ := h; exact ⟨v, σ', H', I.unwish, r, q⟩
theorem PE.nox {e : Expr} {t : TE} (h : PE X.nox e t) : PE X e t := fun pins s σ H Q I hw =>
  wpAny_mono (h pins s σ H Q (I.wish _) hw) (fun _ _ ⟨v, H', I', r, q⟩ => ⟨v, H', I'.unwish, r, q⟩) fun _ _ z => False.elim z
theorem PSs.nox {st : List Stmt} {t : TS} (h : PSs X.nox st t) : PSs X st t := fun pins s σ H D I hw =>
  wpAny_mono (h pins s σ H D (I.wish _) hw) (fun _ _ q => q.unwish) fun _ _ z => False.elim z
end

/-! ### blocks and small statements -/
section
variable {X : Cx} {st : Stmt} {rest : List Stmt} {t u : TS} {e : Expr} {te : TE} {pos : Pos}
def tNext : TS := fun D σ H => D.nx σ H
def tSeq (t u : TS) : TS := fun D σ H => t { D with nx := u D } σ H
theorem pss_nil : PSs X [] tNext := fun _ _ σ H _ I h => wpAny_execs_nil ⟨σ, H, I, h⟩
theorem pss_cons (h1 : PS X st t) (h2 : PSs X rest u) : PSs X (st :: rest) (tSeq t u) := by
  intro pins s σ H D I h
  refine wpAny_execs_cons (thn (h1 pins s σ H { D with nx := u D } I h) fun f s1 q => ?_)
  cases f with
  | next =>
    obtain ⟨σ', H', I', q⟩ := q
    exact h2 pins s1 σ' H' D I' q
  | ret v => exact q
  | brk => exact q
  | cont => exact q
theorem pss_one (h1 : PS X st t) : PSs X [st] t := by
  intro pins s σ H D I h
  refine wpAny_execs_cons (thn (h1 pins s σ H D I h) fun f s1 q => ?_)
  cases f with
  | next => exact wpAny_execs_nil q
  | ret v => exact q
  | brk => exact q
  | cont => exact q
/-- in a def's body nothing is shown -/
theorem Inv.quiet {pins : List (Addr × Obj)} {σ : St} {H : Hp} {s : Shared} (I : Inv X pins σ H s) : interactive X.env = false := by simp [interactive, I.ok.kind]
/-- an expression whose value is dropped -/
def tDrop (te : TE) : TS := fun D σ H => te σ H fun _ H1 => D.nx σ H1
theorem ps_expr (he : PE X e te) (hs : swapsWith e none pos.line X.env = pure false := by rfl) : PS X (.Expr e pos) (tDrop te) := by
  intro pins s σ H D I h
  exact wpAny_Expr_any (thn (he pins s σ H _ I h) fun v s1 ⟨x, H1, I1, r1, q1⟩ => ⟨σ, H1, I1, q1⟩) I.quiet hs
def tRet (te : TE) : TS := fun D σ H => te σ H D.rt
theorem ps_ret (he : PE X e te) : PS X (.Return (some e) pos) (tRet te) := by
  intro pins s σ H D I h
  exact wpAny_Return_some (thn (he pins s σ H _ I h) fun v s1 ⟨x, H1, I1, r1, q1⟩ => ⟨x, σ, H1, I1, r1, q1⟩)
def tIfS (c : TT) (t u : TS) : TS := fun D σ H => c σ H fun b H1 => if b = true then t D σ H1 else u D σ H1
theorem ps_if {c : Expr} {a b : List Stmt} {tc : TT} (hc : PT X c tc) (ha : PSs X a t) (hb : PSs X b u) : PS X (.If c a b pos) (tIfS tc t u) := by
  intro pins s σ H D I h
  refine wpAny_If (thn (hc pins s σ H _ I h) fun d s1 ⟨H1, I1, q1⟩ => ?_)
  cases d with
  | true => exact ha pins s1 σ H1 D I1 q1
  | false => exact hb pins s1 σ H1 D I1 q1
end

/-! ### targets -/
abbrev TG := V → St → Hp → (St → Hp → Prop) → Prop
abbrev TGs := List V → St → Hp → (St → Hp → Prop) → Prop
def PG (X : Cx) (target : Expr) (t : TG) : Prop :=
  ∀ (pins : List (Addr × Obj)) (s : Shared) (σ : St) (H : Hp) (v : V) (u : Value) (Q : St → Hp → Prop), Inv X pins σ H s → RelV v u → t v σ H Q →
    wpAny (model X.prog X.w) X.A (assign target X.env u) (fun _ s' => ∃ σ' H', Inv X pins σ' H' s' ∧ Q σ' H') X.xe s
/-- several targets, one after another -/
def PGs (X : Cx) (ts : List Expr) (t : TGs) : Prop :=
  ∀ (pins : List (Addr × Obj)) (s : Shared) (σ : St) (H : Hp) (vs : List V) (us : List Value) (Q : St → Hp → Prop), Inv X pins σ H s → Vals vs us → t vs σ H Q →
    wpAny (model X.prog X.w) X.A (assignInOrder ((assignEach ts X.env).map (·.2)) us) (fun _ s' => ∃ σ' H', Inv X pins σ' H' s' ∧ Q σ' H') X.xe s
/-- o[i] = v, by values -/
abbrev TSet := V → V → V → Hp → (Hp → Prop) → Prop
def PSet (X : Cx) (t : TSet) : Prop :=
  ∀ (pins : List (Addr × Obj)) (s : Shared) (σ : St) (H : Hp) (o i v : V) (ov iv u : Value) (Q : Hp → Prop), Inv X pins σ H s → RelV o ov → RelV i iv → RelV v u → t o i v H Q →
    wpAny (model X.prog X.w) X.A (setItem ov iv u) (fun _ s' => ∃ H', Inv X pins σ H' s' ∧ Q H') X.xe s
/-- a op= b, by values -/
abbrev TIp := V → V → Hp → VK → Prop
def PIp (X : Cx) (op : Operator) (t : TIp) : Prop :=
  ∀ (pins : List (Addr × Obj)) (s : Shared) (σ : St) (H : Hp) (x y : V) (v u : Value) (Q : VK), Inv X pins σ H s → RelV x v → RelV y u → t x y H Q →
    wpAny (model X.prog X.w) X.A (inplaceOp op v u) (EP X pins σ Q) X.xe s
section
variable {X : Cx} {pos : Pos}
def gName (i : Nat) : TG := fun v σ H Q => Q (σ.set i (some v)) H
theorem pg_name {i : Nat} {x : Str} (hN : X.N.Nodup) (hi : X.N[i]? = some x) (hx : Loc X.env.scope x) (hf : X.fn x = true ∨ X.env.scope.names.lookup x = some .local := by first | exact .inl rfl | exact .inr rfl | assumption) : PG X (.Name x pos) (gName i) := by
  intro pins s σ H v u Q I r h
  exact wpAny_assign_Name (store_ok I hN hi hx r (fun s' I' => ⟨_, H, I', h⟩) hf)
def gNil : TGs := fun vs σ H Q => vs = [] ∧ Q σ H
def gCons (t : TG) (u : TGs) : TGs := fun vs σ H Q => ∃ v r, vs = v :: r ∧ t v σ H fun σ' H' => u r σ' H' Q
theorem pgs_nil : PGs X [] gNil := by
  intro pins s σ H vs us Q I r h
  obtain ⟨e, h⟩ := h
  subst e
  cases r
  exact assignInOrder_nil ⟨σ, H, I, h⟩
theorem pgs_cons {e : Expr} {es : List Expr} {t : TG} {u : TGs} (h1 : PG X e t) (h2 : PGs X es u)
    (hs : (assignEach (e :: es) X.env).map (·.2) = assign e X.env :: (assignEach es X.env).map (·.2) := by rfl) : PGs X (e :: es) (gCons t u) := by
  intro pins s σ H vs us Q I r h
  obtain ⟨v, vr, e1, h⟩ := h
  subst e1
  cases r with
  | cons r rr =>
    rw [hs]
    refine assignInOrder_cons (thn (h1 pins s σ H _ _ _ I r h) fun _ s1 ⟨σ1, H1, I1, q1⟩ => ?_)
    exact h2 pins s1 σ1 H1 _ _ Q I1 rr q1
/-- (a, b, ..) = a tuple of that length -/
def gTup (K : PySem.W.Frag) (n : Nat) (t : TGs) : TG := fun v σ H Q => ∃ a xs, v = .ref a ∧ SqT K H a xs ∧ xs.length = n ∧ t xs σ H Q
theorem pg_tup {es : List Expr} {k : Nat} {t : TGs} {n : Nat} (hc : X.calm = true) (h : PGs X es t)
    (hn : (assignEach es X.env).length = n := by rfl) (hst : (assignEach es X.env).findIdx? (·.1) = none := by rfl) : PG X (.Tuple es k pos) (gTup X.K n t) := by
  intro pins s σ H v u Q I r hw
  obtain ⟨a, xs, e1, hq, hl, hw⟩ := hw
  subst e1
  cases r
  obtain ⟨its, rv, ht, hz⟩ := I.tuple hq
  refine assign_Tuple_tuple (I.ok.hd hc) ht (by simp [hn, ← hl, rv.length]) hst fun h' hx => ?_
  have I1 : Inv X pins σ H { s with heap := h' } := I.kept (t' := s.toks) fun b o e => hx b o (Nat.ne_of_lt (Heap.lt_size e)) e
  exact h pins _ σ H xs _ Q I1 (by simpa using rv) hw
/-- o[i] = .. -/
def gSub (to ti : TE) (t : TSet) : TG := fun v σ H Q => to σ H fun o H1 => ti σ H1 fun i H2 => t o i v H2 fun H3 => Q σ H3
theorem pg_sub {o i : Expr} {to ti : TE} {t : TSet} (ho : PE X o to) (hi : PE X i ti) (hs : PSet X t)
    (ha : ∀ v, assign (.Subscript o i pos) X.env v = (do
      let ov ← holding [v] (eval o X.env)
      let iv ← holding [v, ov] (eval i X.env)
      standAt pos
      holding [v, ov, iv] (setItem ov iv v)
      release [v, ov, iv] []) := by intro _; rfl) : PG X (.Subscript o i pos) (gSub to ti t) := by
  intro pins s σ H v u Q I r h
  rw [ha]
  refine wpAny_bind (wpAny_holding (thn (ho pins s σ H _ I h) fun ov s1 ⟨x, H1, I1, r1, q1⟩ => ?_))
  refine wpAny_bind (wpAny_holding (thn (hi pins s1 σ H1 _ I1 q1) fun iv s2 ⟨y, H2, I2, r2, q2⟩ => ?_))
  refine wpAny_bind (wpAny_standAt (wpAny_bind (wpAny_holding (thn (hs pins s2 σ H2 x y v ov iv u _ I2 r1 r2 r q2) fun _ s3 ⟨H3, I3, q3⟩ => ?_))))
  exact wpAny_release ⟨σ, H3, I3, q3⟩
/-- target = value -/
def tAsg (te : TE) (g : TG) : TS := fun D σ H => te σ H fun x H1 => g x σ H1 D.nx
theorem ps_asg {tg e : Expr} {te : TE} {g : TG} (he : PE X e te) (hg : PG X tg g) (hs : swapsWithSole [tg] e pos.line X.env = pure false := by rfl) (hw : swappedStores [tg] e X.env = pure none := by rfl)
    (h1 : (assignEach [tg] X.env).map (·.2) = [assign tg X.env] := by rfl) : PS X (.Assign [tg] e pos) (tAsg te g) := by
  intro pins s σ H D I h
  refine wpAny_Assign_stores (thn (he pins s σ H _ I h) fun v s1 ⟨x, H1, I1, r1, q1⟩ => ?_) hs hw
  rw [h1]
  exact thn (hg pins s1 σ H1 x v _ I1 r1 q1) fun _ s2 q => q
/-- name = value -/
theorem ps_set {i : Nat} {x : Str} {e : Expr} {te : TE} {pos' : Pos} (hN : X.N.Nodup) (hi : X.N[i]? = some x) (hx : Loc X.env.scope x) (he : PE X e te) (hs : swapsWith e (some (.Name x pos')) pos.line X.env = pure false := by rfl) (hf : X.fn x = true ∨ X.env.scope.names.lookup x = some .local := by first | exact .inl rfl | exact .inr rfl | assumption) :
    PS X (.Assign [.Name x pos'] e pos) (tAsg te (gName i)) := by
  intro pins s σ H D I h
  refine wpAny_Assign_Name (thn (he pins s σ H _ I h) fun v s1 ⟨y, H1, I1, r1, q1⟩ => ?_) hs
  exact store_ok I1 hN hi hx r1 (fun s2 I2 => ⟨_, H1, I2, q1⟩) hf
/-- a, b = x, y with plain local names: stored from the right; the pair itself is not tracked (the opening rows as in PyProof/Rows/TupAssign.lean:23) -/
def tPar (i j : Nat) (ta : TA) : TS := fun D σ H => ta σ H fun vs H1 => ∃ v w, vs = [v, w] ∧ D.nx ((σ.set i (some v)).set j (some w)) H1
theorem ps_par {i j : Nat} {x y : Str} {a b : Expr} {ta : TA} {px py pt : Pos} {kt k2 pt2} (hc : X.calm = true) (hN : X.N.Nodup) (hi : X.N[i]? = some x) (hj : X.N[j]? = some y) (hij : i ≠ j)
    (hx : X.env.scope.names.lookup x = some .local) (hy : X.env.scope.names.lookup y = some .local) (ha : PA X [a, b] ta)
    (hw : swappedStores [.Tuple [.Name x px, .Name y py] kt pt] (.Tuple [a, b] k2 pt2) X.env = pure (some [x, y]))
    (hs : swapsWithSole [.Tuple [.Name x px, .Name y py] kt pt] (.Tuple [a, b] k2 pt2) pos.line X.env = pure false := by rfl) :
    PS X (.Assign [.Tuple [.Name x px, .Name y py] kt pt] (.Tuple [a, b] k2 pt2) pos) (tPar i j ta) := by
  intro pins s σ H D I h
  rw [exec_Assign_arm]
  refine wpAny_bind (wpAny_standAt ?_)
  rw [hs]
  refine wpAny_bind (wpAny_pure ?_)
  rw [if_neg (by decide)]
  refine wpAny_bind (Tuple_ (thn (ha _ pins s σ H _ I h) fun us s1 ⟨vs, H1, I1, r1, q1⟩ => ?_))
  obtain ⟨v, w, e1, q1⟩ := q1
  subst e1
  obtain ⟨u1, u2, rfl, rv, rw'⟩ : ∃ u1 u2, us = [u1, u2] ∧ RelV v u1 ∧ RelV w u2 := by
    cases r1 with
    | cons p q =>
      cases q with
      | cons p' q' =>
        cases q'
        exact ⟨_, _, rfl, p, p'⟩
  refine wpAny_newObj_type ?_ (by show 2 ≤ sizeLine; decide)
  have I2 : Inv X pins σ H1 { s1 with heap := s1.heap.push { cls := .type "tuple", data := .seq [u1, u2].toArray } } := I1.kept (t' := s1.toks) fun b o e => Heap.get?_push_of_some _ e
  rw [hw]
  refine wpAny_bind (wpAny_pure ?_)
  show wpAny (model X.prog X.w) X.A (do rule "assign.swapped-stores"; let items ← unpackItems (.ref s1.heap.objs.size) 2 none; assignInOrder [fun v => bindName X.env y v, fun v => bindName X.env x v] items.reverse; pure Flow.next) _ _ _
  refine wpAny_bind (wpAny_rule (wpAny_bind (unpackItems_tuple (items := #[u1, u2]) (I.ok.hd hc) (IsTup.new s1.heap _) fun h' hx' => ?_)))
  have I3 := I2.kept (h' := h') (t' := s1.toks) fun b o e => hx' b o (Nat.ne_of_lt (Heap.lt_size e)) e
  show wpAny _ _ (assignInOrder [fun v => bindName X.env y v, fun v => bindName X.env x v] [u2, u1] >>= fun _ => pure Flow.next) _ _ _
  refine wpAny_bind (assignInOrder_cons (wpAny_bindName (store_ok I3 hN hj (.inl hy) rw' (fun s2 I4 => ?_) (.inr hy))))
  refine assignInOrder_cons (wpAny_bindName (store_ok I4 hN hi (.inl hx) rv (fun s3 I5 => assignInOrder_nil (wpAny_pure ?_)) (.inr hx)))
  rw [List.set_comm _ _ (Ne.symm hij)] at I5
  exact ⟨_, H1, I5, q1⟩
/-- name op= e -/
def tAug (i : Nat) (te : TE) (ti : TIp) : TS := fun D σ H => ∃ x, σ[i]? = some (some x) ∧ te σ H fun y H1 => ti x y H1 fun z H2 => D.nx (σ.set i (some z)) H2
theorem ps_aug {i : Nat} {x : Str} {e : Expr} {te : TE} {op : Operator} {ti : TIp} {pos' : Pos} (hN : X.N.Nodup) (hi : X.N[i]? = some x) (hx : Loc X.env.scope x) (he : PE X e te) (ho : PIp X op ti) (hf : X.fn x = true ∨ X.env.scope.names.lookup x = some .local := by first | exact .inl rfl | exact .inr rfl | assumption) :
    PS X (.AugAssign (.Name x pos') op e pos) (tAug i te ti) := by
  intro pins s σ H D I h
  obtain ⟨v, e1, h⟩ := h
  obtain ⟨m, hn, hl⟩ := I.loc
  have vis : Vis X.env.scope x := by rcases hx with k | k; exact .inl k; exact .inr (.inl k)
  obtain ⟨u, r, l⟩ := hl i x v hi e1 vis
  refine wpAny_AugAssign_Name ?_
  have go : wpAny (model X.prog X.w) X.A (eval e X.env) (fun w s₂ => wpAny (model X.prog X.w) X.A (inplaceOp op u w) (fun r s₃ => wpAny (model X.prog X.w) X.A (storeName X.env x r) (fun _ => SP X pins D .next) X.xe s₃) X.xe s₂) X.xe s := by
    refine thn (he pins s σ H _ I h) fun w s1 ⟨y, H1, I1, r1, q1⟩ => ?_
    refine thn (ho pins s1 σ H1 v y u w _ I1 r r1 q1) fun z s2 ⟨zv, H2, I2, r2, q2⟩ => ?_
    exact store_ok I2 hN hi hx r2 (fun s3 I3 => ⟨_, H2, I3, q2⟩) hf
  rcases l with ⟨hk, hm⟩ | ⟨hk, c, hc, hcell⟩
  · exact wpAny_loadName_local I.ok.kind hk hn hm go
  · rcases hk with hk | hk
    · exact wpAny_loadName_cell I.ok.kind hk hc hcell go
    · rcases hx with k | k
      · have : X.env.scope.names.lookup x = some .free := hk
        rw [k] at this; cases this
      · have : X.env.scope.names.lookup x = some .free := hk
        rw [k] at this; cases this
end

/-! ### while -/
section
variable {X : Cx} {pos : Pos}
/-- the invariant W with its measure -/
def tWhile (c : TT) (tb : TS) : TS := fun D σ H => ∃ W : Nat → St → Hp → Prop, (∃ m, W m σ H) ∧ ∀ m σ H, W m σ H →
  c σ H fun b H1 => if b = true then ∃ N : St → Hp → Prop, (∀ σ' H', N σ' H' → ∃ m', m' < m ∧ W m' σ' H') ∧ tb { D with nx := N, ct := N, bk := D.nx } σ H1 else D.nx σ H1
theorem ps_while {c : Expr} {body : List Stmt} {tc : TT} {tb : TS} (hp : PassesOwn (model X.prog X.w) X.A X.env X.xe) (hc : PT X c tc) (hb : PSs X body tb) : PS X (.While c body [] pos) (tWhile tc tb) := by
  intro pins s σ H D I h
  obtain ⟨W, ⟨m0, w0⟩, turn⟩ := h
  refine wpAny_While (codeAny_whileLoop (fun n s' => ∃ σ' H', Inv X pins σ' H' s' ∧ W n σ' H') ?_ m0 ⟨σ, H, I, w0⟩)
  rintro n s1 ⟨σ1, H1, I1, w1⟩
  refine wpAny_passesOwn hp (thn (hc pins s1 σ1 H1 _ I1 (turn n σ1 H1 w1)) fun b s2 ⟨H2, I2, q2⟩ => ?_)
  cases b with
  | true =>
    obtain ⟨N, hN, q2⟩ := q2
    rw [if_pos rfl]
    refine wpAny_passesOwn hp (thn (hb pins s2 σ1 H2 _ I2 q2) fun f s3 q3 => ?_)
    cases f with
    | next =>
      obtain ⟨σ3, H3, I3, n3⟩ := q3
      obtain ⟨m', hm, w3⟩ := hN σ3 H3 n3
      exact ⟨m', hm, σ3, H3, I3, w3⟩
    | cont =>
      obtain ⟨σ3, H3, I3, n3⟩ := q3
      obtain ⟨m', hm, w3⟩ := hN σ3 H3 n3
      exact ⟨m', hm, σ3, H3, I3, w3⟩
    | brk => exact q3
    | ret v => exact q3
  | false =>
    rw [if_neg Bool.false_ne_true]
    exact wpAny_execs_nil ⟨σ1, H2, I2, q2⟩
end

/-! ### what a loop or a comprehension walks -/
/-- at turn i: it yields x (the heap may grow), or it stops -/
structure It where
  go : Nat → Hp → Prop
  yld : Nat → Hp → V → Hp → Prop
  stop : Nat → Hp → Prop
/-- the iterator's own objects may turn: they are not the frame's, not pinned, younger than the entry (or a comprehension's own) -/
def FpOk (X : Cx) (pins : List (Addr × Obj)) (H : Hp) (b : Addr) : Prop :=
  H b = none ∧ b ≠ X.env.locals ∧ b ∉ X.fs ∧ (b ∈ X.ex ∨ X.s₀.heap.objs.size ≤ b) ∧ (∀ x c, X.env.cells.lookup x = some c → c ≠ b) ∧ ∀ p ∈ X.pn ++ pins, p.1 ≠ b
theorem Inv.fpOk {X : Cx} {pins : List (Addr × Obj)} {σ : St} {H H' : Hp} {s : Shared} {b : Addr} (I : Inv X pins σ H s) (hb : s.heap.objs.size ≤ b) (hn : H' b = none) : FpOk X pins H' b := by
  refine ⟨hn, Nat.ne_of_gt (Nat.lt_of_lt_of_le I.lt hb), I.nofs hb, .inr (Nat.le_trans I.sz hb), fun x c e z => ?_, fun p hp z => ?_⟩
  · obtain ⟨v, q⟩ := I.cell x c e
    exact absurd (Nat.lt_of_lt_of_le q.lt (by rw [z]; exact hb)) (Nat.lt_irrefl _)
  · exact absurd (Nat.lt_of_lt_of_le (Heap.lt_size (I.pin p hp).1) (by rw [z]; exact hb)) (Nat.lt_irrefl _)
structure Turn (P : Program) (w : World) (K : PySem.W.Frag) (tg : Expr) (J : It) (fp : List Addr) (it : Addr) (tn : Nat → Heap → Prop) : Prop where
  mem : it ∈ fp
  obj : ∀ i h, tn i h → ∀ b ∈ fp, ∃ o, h.get? b = some o ∧ ∀ v, o.data ≠ .cell v
  keep : ∀ i h h', tn i h → (∀ b ∈ fp, ∀ o, h.get? b = some o → h'.get? b = some o) → tn i h'
  item : ∀ (X : Cx), X.prog = P → X.w = w → X.K = K → X.calm = true → ∀ (i : Nat) (pins : List (Addr × Obj)) (s : Shared) (σ : St) (H : Hp) (E : Value → Shared → Prop), Inv X pins σ H s → (∀ b ∈ fp, FpOk X pins H b) → tn i s.heap → J.go i H →
    wpAny (model P w) X.A (pyNext (.ref it)) (fun r s1 => ∃ u, r = some u ∧
      wpAny (model P w) X.A (letOwnedTupleGo tg (.ref it) u) (fun _ s2 => ∃ x H', Inv X pins σ H' s2 ∧ RelV x u ∧ J.yld i H x H' ∧ tn (i + 1) s2.heap ∧ ∀ b ∈ fp, H' b = none) E s1) E s
  done : ∀ (X : Cx), X.prog = P → X.w = w → X.K = K → X.calm = true → ∀ (i : Nat) (pins : List (Addr × Obj)) (s : Shared) (σ : St) (H : Hp) (E : Value → Shared → Prop), Inv X pins σ H s → (∀ b ∈ fp, FpOk X pins H b) → tn i s.heap → J.stop i H →
    wpAny (model P w) X.A (pyNext (.ref it)) (fun r s1 => r = none ∧ Inv X pins σ H s1) E s
  self : ∀ (A : Around) (i : Nat) (s : Shared) (Q : Value → Shared → Prop) (E : Value → Shared → Prop), tn i s.heap → Q (.ref it) s → wpAny (model P w) A (pyIter (.ref it)) Q E s
abbrev TI := St → Hp → (It → Hp → Prop) → Prop
/-- an iterator has come -/
def PIE (X : Cx) (pins : List (Addr × Obj)) (σ : St) (tg : Expr) (R : It → Hp → Prop) (itv : Value) (s2 : Shared) : Prop :=
  ∃ (it : Addr) (fp : List Addr) (tn : Nat → Heap → Prop) (J : It) (H' : Hp), itv = .ref it ∧ Inv X pins σ H' s2 ∧ Turn X.prog X.w X.K tg J fp it tn ∧ tn 0 s2.heap ∧ (∀ b ∈ fp, FpOk X pins H' b) ∧ R J H'
def PI (X : Cx) (tg iter : Expr) (wi : TI) : Prop :=
  ∀ (pins : List (Addr × Obj)) (s : Shared) (σ : St) (H : Hp) (R : It → Hp → Prop), Inv X pins σ H s → wi σ H R →
    wpAny (model X.prog X.w) X.A (eval iter X.env) (fun v s1 => wpAny (model X.prog X.w) X.A (pyIter v) (PIE X pins σ tg R) X.xe s1) X.xe s

/-- the step ahead of the store is nothing for an iterator that keeps no tuple -/
theorem go_of {M : Model} {A : Around} {E : Value → Shared → Prop} {s : Shared} {tg : Expr} {it : Addr} {u : Value} {o : Obj} {n : String} {vs : Array Value} {Q : Unit → Shared → Prop} (ho : s.heap.get? it = some o) (hc : o.cls = .type n) (hd : o.data = .fields vs)
    (hn : ["enumerate", "zip", "dict_itemiterator", "dict_reverseitemiterator", "odict_iterator", "itertools.zip_longest", "itertools.pairwise"].contains n = false) (hQ : Q () s) : wpAny M A (letOwnedTupleGo tg (.ref it) u) Q E s := by
  unfold letOwnedTupleGo
  cases tg <;> first
    | exact wpAny_pure hQ
    | (cases u <;> first
        | exact wpAny_pure hQ
        | (refine wpAny_bind (wpAny_load ho ?_)
           rw [hc, hd]
           show wpAny M A (if (["enumerate", "zip", "dict_itemiterator", "dict_reverseitemiterator", "odict_iterator", "itertools.zip_longest", "itertools.pairwise"].contains n && vs[0]? == some (rawInt _)) = true then _ else _) Q E s
           rw [if_neg (by intro h; rw [hn, Bool.false_and] at h; cases h)]
           exact wpAny_pure hQ))

/-- the list at a, as it stands at each turn (a loop may append to it) -/
def Itl (K : PySem.W.Frag) (a : Addr) : It :=
  ⟨fun i H => ∃ xs x, SqL K H a xs ∧ xs[i]? = some x, fun i H x H' => H' = H ∧ ∀ xs, SqL K H a xs → xs[i]? = some x, fun i H => ∃ xs, SqL K H a xs ∧ xs.length ≤ i⟩
def Itt (K : PySem.W.Frag) (a : Addr) : It :=
  ⟨fun i H => ∃ xs x, SqT K H a xs ∧ xs[i]? = some x, fun i H x H' => H' = H ∧ ∀ xs, SqT K H a xs → xs[i]? = some x, fun i H => ∃ xs, SqT K H a xs ∧ xs.length ≤ i⟩
/-- lo, lo + 1, .. (n of them) -/
def Itr (lo : Int) (n : Nat) : It := ⟨fun i _ => i < n, fun i H x H' => H' = H ∧ x = .int (lo + i), fun i _ => n ≤ i⟩
theorem turn_list {P : Program} {w : World} {K : PySem.W.Frag} {tg : Expr} (a it : Addr) : Turn P w K tg (Itl K a) [it] it (fun i h => h.IsListIter it a i) where
  mem := by simp
  obj := fun i h st b hb => by
    have e : b = it := by simpa using hb
    subst e
    obtain ⟨o, e, c, d⟩ := st
    exact ⟨o, e, fun v z => by rw [d] at z; cases z⟩
  keep := fun i h h' st k => st.at fun o e => k it (by simp) o e
  item := by
    intro X hP hw hK hc i pins s σ H E I hf st hg
    subst hP hw hK
    obtain ⟨xs, x, hq, hx⟩ := hg
    obtain ⟨its, rv, p, hz⟩ := I.list hq
    obtain ⟨u, hu, ru⟩ := rv.get hx
    obtain ⟨f0, f1, f2, f3, f4, f5⟩ := hf it (by simp)
    refine wpAny_pyNext_list_item st p.isList (x := u) (by simpa using hu) fun h' st' sb => ?_
    have I1 : Inv X pins σ H { s with heap := h' } := I.turned (t' := s.toks) (fun b o hb e => (sb.2 b hb).trans e) f0 f1 f3 f4 f5
    obtain ⟨o, e, c, d⟩ := id st'
    exact ⟨u, rfl, go_of (s := { s with heap := h' }) e c d (by decide) ⟨x, H, I1, ru, ⟨rfl, fun ys hy => by rw [I.list_inj hy hq]; exact hx⟩, st', fun b hb => (hf b hb).1⟩⟩
  done := by
    intro X hP hw hK hc i pins s σ H E I hf st hg
    subst hP hw hK
    obtain ⟨xs, hq, hx⟩ := hg
    obtain ⟨its, rv, p, hz⟩ := I.list hq
    obtain ⟨f0, f1, f2, f3, f4, f5⟩ := hf it (by simp)
    have hl := rv.length
    exact wpAny_pyNext_list_end (I.ok.hd hc) st p.isList (by simp; omega) fun h' eb => ⟨rfl, I.turned (t' := s.toks) (fun b o hb e => eb b o hb e) f0 f1 f3 f4 f5⟩
  self := fun _ _ _ _ _ st h => wpAny_pyIter_listiter st h
theorem turn_tuple {P : Program} {w : World} {K : PySem.W.Frag} {tg : Expr} (a it : Addr) : Turn P w K tg (Itt K a) [it] it (fun i h => h.IsTupleIter it a i) where
  mem := by simp
  obj := fun i h st b hb => by
    have e : b = it := by simpa using hb
    subst e
    obtain ⟨o, e, c, d⟩ := st
    exact ⟨o, e, fun v z => by rw [d] at z; cases z⟩
  keep := fun i h h' st k => st.at fun o e => k it (by simp) o e
  item := by
    intro X hP hw hK hc i pins s σ H E I hf st hg
    subst hP hw hK
    obtain ⟨xs, x, hq, hx⟩ := hg
    obtain ⟨its, rv, p, hz⟩ := I.tuple hq
    obtain ⟨u, hu, ru⟩ := rv.get hx
    obtain ⟨f0, f1, f2, f3, f4, f5⟩ := hf it (by simp)
    refine wpAny_pyNext_tuple_item st (show s.heap.IsTuple a its.toArray from p) (x := u) (by simpa using hu) fun h' st' sb => ?_
    have I1 : Inv X pins σ H { s with heap := h' } := I.turned (t' := s.toks) (fun b o hb e => (sb.2 b hb).trans e) f0 f1 f3 f4 f5
    obtain ⟨o, e, c, d⟩ := id st'
    exact ⟨u, rfl, go_of (s := { s with heap := h' }) e c d (by decide) ⟨x, H, I1, ru, ⟨rfl, fun ys hy => by rw [I.tuple_inj hy hq]; exact hx⟩, st', fun b hb => (hf b hb).1⟩⟩
  done := by
    intro X hP hw hK hc i pins s σ H E I hf st hg
    subst hP hw hK
    obtain ⟨xs, hq, hx⟩ := hg
    obtain ⟨its, rv, p, hz⟩ := I.tuple hq
    obtain ⟨f0, f1, f2, f3, f4, f5⟩ := hf it (by simp)
    have hl := rv.length
    exact wpAny_pyNext_tuple_end (I.ok.hd hc) st (show s.heap.IsTuple a its.toArray from p) (by simp; omega) fun h' eb => ⟨rfl, I.turned (t' := s.toks) (fun b o hb e => eb b o hb e) f0 f1 f3 f4 f5⟩
  self := fun _ _ _ _ _ st h => wpAny_pyIter_tupleiter st h
theorem turn_range {P : Program} {w : World} {K : PySem.W.Frag} {tg : Expr} (it : Addr) (lo : Int) (n : Nat) : Turn P w K tg (Itr lo n) [it] it (fun i h => IsRangeIter h it (lo + (i : Nat) * 1) ((n : Int) - (i : Nat)) 1) where
  mem := by simp
  obj := fun i h st b hb => by
    have e : b = it := by simpa using hb
    subst e
    exact ⟨_, st, fun v z => by
      have z' : Data.fields _ = Data.cell v := z
      cases z'⟩
  keep := fun i h h' st k => k it (by simp) _ st
  item := by
    intro X hP hw hK hc i pins s σ H E I hf st hg
    subst hP hw hK
    obtain ⟨f0, f1, f2, f3, f4, f5⟩ := hf it (by simp)
    have W := Walks.range (prog := X.prog) (w := X.w) (I.ok.hd hc) it lo 1 n
    refine W.item i s _ _ hg st fun v h' tk hv st' kk => ?_
    obtain ⟨t, rfl⟩ := hv
    have I1 : Inv X pins σ H { s with heap := h', toks := tk } := I.turned (fun b o hb e => kk b o (by simpa using hb) e) f0 f1 f3 f4 f5
    refine ⟨_, rfl, go_of (s := { s with heap := h', toks := tk }) (n := "range_iterator") st' rfl rfl (by decide) ⟨.int (lo + i), H, I1, ⟨t, ?_⟩, ⟨rfl, rfl⟩, st', fun b hb => (hf b hb).1⟩⟩
    rw [Int.mul_one]
  done := by
    intro X hP hw hK hc i pins s σ H E I hf st hg
    subst hP hw hK
    obtain ⟨f0, f1, f2, f3, f4, f5⟩ := hf it (by simp)
    exact wpAny_pyNext_range_end (I.ok.hd hc) st (by have : n ≤ i := hg; omega) fun h' eb => ⟨rfl, I.turned (t' := s.toks) (fun b o hb e => eb b o hb e) f0 f1 f3 f4 f5⟩
  self := fun _ _ _ _ _ st h => wpAny_pyIter_rangeiter st h
end L2

namespace L2
open PySem PySem.Spec PyProof.Rows
section
variable {X : Cx} {tg : Expr}
def iList (K : PySem.W.Frag) (tl : TE) : TI := fun σ H R => tl σ H fun x H1 => ∃ a, x = .ref a ∧ (∃ xs, SqL K H1 a xs) ∧ R (Itl K a) H1
def iTup (K : PySem.W.Frag) (tl : TE) : TI := fun σ H R => tl σ H fun x H1 => ∃ a, x = .ref a ∧ (∃ xs, SqT K H1 a xs) ∧ R (Itt K a) H1
theorem pi_list {l : Expr} {tl : TE} (hl : PE X l tl) : PI X tg l (iList X.K tl) := by
  intro pins s σ H R I h
  refine thn (hl pins s σ H _ I h) fun v s1 ⟨x, H1, I1, r1, q1⟩ => ?_
  obtain ⟨a, e, ⟨xs, hq⟩, q⟩ := q1
  subst e
  cases r1
  obtain ⟨its, rv, p, hz⟩ := I1.list hq
  refine wpAny_pyIter_list p.isList ?_
  refine ⟨s1.heap.objs.size, [s1.heap.objs.size], _, _, H1, rfl, I1.kept (t' := s1.toks) fun b o e => Heap.get?_push_of_some _ e, turn_list a _, ⟨_, Heap.get?_push_size _ rfl, rfl, rfl⟩, fun b hb => ?_, q⟩
  have e : b = s1.heap.objs.size := by simpa using hb
  subst e
  exact I1.fpOk (Nat.le_refl _) (I1.hok.fresh (Nat.le_refl _))
theorem pi_tup {l : Expr} {tl : TE} (hl : PE X l tl) : PI X tg l (iTup X.K tl) := by
  intro pins s σ H R I h
  refine thn (hl pins s σ H _ I h) fun v s1 ⟨x, H1, I1, r1, q1⟩ => ?_
  obtain ⟨a, e, ⟨xs, hq⟩, q⟩ := q1
  subst e
  cases r1
  obtain ⟨its, rv, p, hz⟩ := I1.tuple hq
  refine wpAny_pyIter_tuple (show s1.heap.IsTuple a its.toArray from p) ?_
  refine ⟨s1.heap.objs.size, [s1.heap.objs.size], _, _, H1, rfl, I1.kept (t' := s1.toks) fun b o e => Heap.get?_push_of_some _ e, turn_tuple a _, ⟨_, Heap.get?_push_size _ rfl, rfl, rfl⟩, fun b hb => ?_, q⟩
  have e : b = s1.heap.objs.size := by simpa using hb
  subst e
  exact I1.fpOk (Nat.le_refl _) (I1.hok.fresh (Nat.le_refl _))
/-- a range object just made, walked -/
theorem range_it {pins : List (Addr × Obj)} {σ : St} {H : Hp} {s : Shared} {R : It → Hp → Prop} {E : Value → Shared → Prop} {lo hi : Int} {t u v : Tok} {tk : Nat} (I : Inv X pins σ H s) (h1 : -(2 ^ 62) ≤ lo) (h2 : lo < 2 ^ 62) (h3 : -(2 ^ 62) ≤ hi) (h4 : hi < 2 ^ 62)
    (q : R (Itr lo (hi - lo).toNat) H) : wpAny (model X.prog X.w) X.A (pyIter (.ref s.heap.objs.size)) (PIE X pins σ tg R) E { s with heap := s.heap.push { cls := .type "range", data := .fields #[.int lo t, .int hi u, .int 1 v] }, toks := tk } := by
  refine wpAny_pyIter_range (IsRange.new ..) (small_one h1 h2 h3 h4) ?_
  have I1 : Inv X pins σ H { s with heap := s.heap.push { cls := .type "range", data := .fields #[.int lo t, .int hi u, .int 1 v] }, toks := tk } := I.kept fun b o e => Heap.get?_push_of_some _ e
  refine ⟨(s.heap.push { cls := .type "range", data := .fields #[.int lo t, .int hi u, .int 1 v] }).objs.size, [(s.heap.push { cls := .type "range", data := .fields #[.int lo t, .int hi u, .int 1 v] }).objs.size], _, _, H, rfl,
    I1.kept (t' := tk) fun b o e => Heap.get?_push_of_some _ e, turn_range _ lo (hi - lo).toNat, ?_, fun b hb => ?_, q⟩
  · have e1 : lo + ((0 : Nat) : Int) * 1 = lo := by simp
    have e2 : (((hi - lo).toNat : Nat) : Int) - ((0 : Nat) : Int) = Builtin.Range.rangeSize lo hi 1 := by rw [rangeSize_one]; split <;> omega
    show IsRangeIter _ _ (lo + ((0 : Nat) : Int) * 1) ((((hi - lo).toNat : Nat) : Int) - ((0 : Nat) : Int)) 1
    rw [e1, e2]
    exact Heap.get?_push_size _ rfl
  · have e : b = (s.heap.push { cls := .type "range", data := .fields #[.int lo t, .int hi u, .int 1 v] }).objs.size := by simpa using hb
    subst e
    exact I1.fpOk (Nat.le_refl _) (I1.hok.fresh (Nat.le_refl _))
def iRng1 (ta : TA) : TI := fun σ H R => ta σ H fun vs H1 => ∃ j : Int, vs = [.int j] ∧ -(2 ^ 62) ≤ j ∧ j < 2 ^ 62 ∧ R (Itr 0 j.toNat) H1
def iRng2 (ta : TA) : TI := fun σ H R => ta σ H fun vs H1 => ∃ i j : Int, vs = [.int i, .int j] ∧ (-(2 ^ 62) ≤ i ∧ i < 2 ^ 62 ∧ -(2 ^ 62) ≤ j ∧ j < 2 ^ 62) ∧ R (Itr i (j - i).toNat) H1
theorem pi_range1 {a : Expr} {ta : TA} {p pos : Pos} (hg : Gl X "range") (hm : X.mg "range" = none) (ha : PA X [a] ta) (hs : starEach [a] X.env = [(false, eval a X.env)] := by rfl) : PI X tg (.Call (.Name "range" p) [a] [] pos) (iRng1 ta) := by
  intro pins s σ H R I h
  refine Call_ (ld_blt I hg hm boot_range (PyProof.Rows.callWith_type1 (thn (ha pos pins s σ H _ I h) fun us s1 ⟨vs, H1, I1, r1, q1⟩ => ?_) hs rfl))
  obtain ⟨j, e, q1, q2, q⟩ := q1
  subst e
  cases r1 with
  | cons r rr =>
    cases rr
    obtain ⟨t, rfl⟩ := r
    exact call_range_1 (range_it I1 (by omega) (by omega) q1 q2 (by simpa using q))
theorem pi_range2 {a b : Expr} {ta : TA} {p pos : Pos} (hg : Gl X "range") (hm : X.mg "range" = none) (ha : PA X [a, b] ta) (hs : starEach [a, b] X.env = [(false, eval a X.env), (false, eval b X.env)] := by rfl) (hs2 : starEach [b] X.env = [(false, eval b X.env)] := by rfl) :
    PI X tg (.Call (.Name "range" p) [a, b] [] pos) (iRng2 ta) := by
  intro pins s σ H R I h
  refine Call_ (ld_blt I hg hm boot_range (PyProof.Rows.callWith_type1 (thn (ha pos pins s σ H _ I h) fun us s1 ⟨vs, H1, I1, r1, q1⟩ => ?_) (by rw [hs, hs2]) (by rw [hs2]; rfl)))
  obtain ⟨i, j, e, ⟨q1, q2, q3, q4⟩, q⟩ := q1
  subst e
  cases r1 with
  | cons r rr =>
    cases rr with
    | cons r' rr =>
      cases rr
      obtain ⟨t, rfl⟩ := r
      obtain ⟨t', rfl⟩ := r'
      exact call_range_2 (range_it I1 q1 q2 q3 q4 q)

/-! ### for -/
/-- W: the invariant by the turn and a measure; N: what the body is to reach -/
def tFor (wi : TI) (g : TG) (tb : TS) : TS := fun D σ H => wi σ H fun J H1 => ∃ W : Nat → Nat → St → Hp → Prop, (∃ m, W 0 m σ H1) ∧ ∀ i m σ H, W i m σ H →
  (J.stop i H ∧ D.nx σ H) ∨ (J.go i H ∧ ∃ N : St → Hp → Prop, (∀ σ' H', N σ' H' → ∃ m', m' < m ∧ W (i + 1) m' σ' H') ∧ ∀ x H', J.yld i H x H' → g x σ H' fun σ2 H2 => tb { D with nx := N, ct := N, bk := D.nx } σ2 H2)
/-- the records at fp as they stand -/
def pinsAt (fp : List Addr) (h : Heap) : List (Addr × Obj) := fp.filterMap fun b => (h.get? b).map fun o => (b, o)
theorem mem_pinsAt {fp : List Addr} {h : Heap} {b : Addr} {o : Obj} (hb : b ∈ fp) (e : h.get? b = some o) : (b, o) ∈ pinsAt fp h := List.mem_filterMap.mpr ⟨b, hb, by rw [e]; rfl⟩
theorem of_pinsAt {fp : List Addr} {h : Heap} {p : Addr × Obj} (hp : p ∈ pinsAt fp h) : p.1 ∈ fp ∧ h.get? p.1 = some p.2 := by
  obtain ⟨b, hb, e⟩ := List.mem_filterMap.mp hp
  cases q : h.get? b with
  | none => rw [q] at e; cases e
  | some o =>
    rw [q] at e
    have e' : (b, o) = p := Option.some.inj e
    subst e'
    exact ⟨hb, q⟩
theorem Inv.pinned {pins : List (Addr × Obj)} {σ : St} {H : Hp} {s : Shared} {fp : List Addr} (I : Inv X pins σ H s) (hf : ∀ b ∈ fp, FpOk X pins H b) (ho : ∀ b ∈ fp, ∃ o, s.heap.get? b = some o ∧ ∀ v, o.data ≠ .cell v) : Inv X (pins ++ pinsAt fp s.heap) σ H s :=
  I.pins_of fun p hp => (List.mem_append.mp hp).elim (fun z => I.pin p (List.mem_append_right _ z)) fun z => by
    obtain ⟨hb, e⟩ := of_pinsAt z
    obtain ⟨f0, f1, f2, _⟩ := hf p.1 hb
    obtain ⟨o, e', d⟩ := ho p.1 hb
    rw [e] at e'; cases e'
    exact ⟨e, f0, f1, f2, d⟩
theorem Inv.unpinned {pins pl : List (Addr × Obj)} {σ : St} {H : Hp} {s : Shared} (I : Inv X (pins ++ pl) σ H s) : Inv X pins σ H s := I.pins_of fun p hp => I.pin p (List.mem_append_right _ (List.mem_append_left _ hp))
theorem ps_for {iter : Expr} {body : List Stmt} {wi : TI} {g : TG} {tb : TS} {pos : Pos} (hp : PassesOwn (model X.prog X.w) X.A X.env X.xe) (hc : X.calm = true) (hi : PI X tg iter wi) (hg : PG X tg g) (hb : PSs X body tb)
    (hs : ∀ x, foldedSetIterable iter X.env x = pure x := by intro _; rfl) : PS X (.For tg iter body [] pos) (tFor wi g tb) := by
  intro pins s σ H D I h
  refine wpAny_For (thn (hi pins s σ H _ I h) fun v s1 h1 => thn h1 fun itv s2 h2 => ?_) hs
  obtain ⟨it, fp, tn, J, H2, e, I2, T, st2, f2, W, ⟨m0, w0⟩, turn⟩ := h2
  subst e
  -- what stays true of the iterator's objects through the loop
  have stat : ∀ {H' : Hp}, (∀ b ∈ fp, H' b = none) → ∀ b ∈ fp, FpOk X pins H' b := fun hn b hb => ⟨hn b hb, (f2 b hb).2⟩
  refine codeAny_forLoop_any (fun n s' => ∃ i σ' H', Inv X pins σ' H' s' ∧ tn i s'.heap ∧ (∀ b ∈ fp, H' b = none) ∧ W i n σ' H') ?_ m0 ⟨0, σ, H2, I2, st2, fun b hb => (f2 b hb).1, w0⟩
  rintro n s3 ⟨i, σ3, H3, I3, st3, fr3, w3⟩
  rcases turn i n σ3 H3 w3 with ⟨stop, qn⟩ | ⟨go, N, hN, step⟩
  · refine wpAny_passesOwn hp (thn (T.done X rfl rfl rfl hc i pins s3 σ3 H3 X.xe I3 (stat fr3) st3 stop) fun r s4 ⟨hr, I4⟩ => ?_)
    subst hr
    exact wpAny_execs_nil ⟨σ3, H3, I4, qn⟩
  · refine wpAny_passesOwn hp (thn (T.item X rfl rfl rfl hc i pins s3 σ3 H3 X.xe I3 (stat fr3) st3 go) fun r s4 ⟨u, hr, h4⟩ => ?_)
    subst hr
    refine wpAny_passesOwn hp (thn h4 fun _ s5 ⟨x, H5, I5, r5, y5, st5, fr5⟩ => ?_)
    have I5' := I5.pinned (stat fr5) (T.obj _ _ st5)
    refine wpAny_passesOwn hp (thn (hg _ s5 σ3 H5 x u _ I5' r5 (step x H5 y5)) fun _ s6 ⟨σ6, H6, I6, q6⟩ => ?_)
    refine wpAny_passesOwn hp (thn (hb _ s6 σ6 H6 _ I6 q6) fun f s7 q7 => ?_)
    have again : ∀ {σ7 : St} {H7 : Hp}, Inv X (pins ++ pinsAt fp s5.heap) σ7 H7 s7 → N σ7 H7 → ∃ m, m < n ∧ ∃ i σ' H', Inv X pins σ' H' s7 ∧ tn i s7.heap ∧ (∀ b ∈ fp, H' b = none) ∧ W i m σ' H' := fun {σ7 H7} I7 n7 => by
      obtain ⟨m', hm, w7⟩ := hN σ7 H7 n7
      refine ⟨m', hm, i + 1, σ7, H7, I7.unpinned, T.keep _ _ _ st5 fun b hb o e => (I7.pin (b, o) (List.mem_append_right _ (List.mem_append_right _ (mem_pinsAt hb e)))).1, fun b hb => ?_, w7⟩
      obtain ⟨o, e, d⟩ := T.obj _ _ st5 b hb
      exact (I7.pin (b, o) (List.mem_append_right _ (List.mem_append_right _ (mem_pinsAt hb e)))).2.1
    cases f with
    | next => obtain ⟨σ7, H7, I7, n7⟩ := q7; exact again I7 n7
    | cont => obtain ⟨σ7, H7, I7, n7⟩ := q7; exact again I7 n7
    | brk => obtain ⟨σ7, H7, I7, q7⟩ := q7; exact ⟨σ7, H7, I7.unpinned, q7⟩
    | ret v => obtain ⟨x7, σ7, H7, I7, r7, q7⟩ := q7; exact ⟨x7, σ7, H7, I7.unpinned, r7, q7⟩
end

/-! ### the forms one uses -/
/-- over a list that the body leaves as it is -/
theorem for_list {K : PySem.W.Frag} {a : Addr} {xs : List V} {g : TG} {tb : TS} {D : Ends} {σ : St} {H : Hp} (Pv : Nat → St → Hp → Prop) (h0 : Pv 0 σ H) (hl : ∀ i σ H, i ≤ xs.length → Pv i σ H → SqL K H a xs)
    (hs : ∀ i x σ H, xs[i]? = some x → Pv i σ H → g x σ H fun σ2 H2 => tb { D with nx := Pv (i + 1), ct := Pv (i + 1), bk := D.nx } σ2 H2) (hd : ∀ σ H, Pv xs.length σ H → D.nx σ H) :
    ∃ W : Nat → Nat → St → Hp → Prop, (∃ m, W 0 m σ H) ∧ ∀ i m σ H, W i m σ H →
      ((Itl K a).stop i H ∧ D.nx σ H) ∨ ((Itl K a).go i H ∧ ∃ N : St → Hp → Prop, (∀ σ' H', N σ' H' → ∃ m', m' < m ∧ W (i + 1) m' σ' H') ∧ ∀ x H', (Itl K a).yld i H x H' → g x σ H' fun σ2 H2 => tb { D with nx := N, ct := N, bk := D.nx } σ2 H2) := by
  refine ⟨fun i m σ H => m = xs.length - i ∧ i ≤ xs.length ∧ Pv i σ H, ⟨xs.length, by simp, Nat.zero_le _, h0⟩, ?_⟩
  rintro i m σ H ⟨rfl, hi, p⟩
  have q := hl i σ H hi p
  by_cases hlt : i < xs.length
  · refine .inr ⟨⟨xs, xs[i], q, by simp [hlt]⟩, Pv (i + 1), fun σ' H' p' => ⟨xs.length - (i + 1), by omega, rfl, hlt, p'⟩, fun x H' y => ?_⟩
    obtain ⟨e, y⟩ := y
    subst e
    exact hs i x σ _ (y xs q) p
  · have e : i = xs.length := by omega
    subst e
    exact .inl ⟨⟨xs, q, Nat.le_refl _⟩, hd σ H p⟩
theorem for_tup {K : PySem.W.Frag} {a : Addr} {xs : List V} {g : TG} {tb : TS} {D : Ends} {σ : St} {H : Hp} (Pv : Nat → St → Hp → Prop) (h0 : Pv 0 σ H) (hl : ∀ i σ H, i ≤ xs.length → Pv i σ H → SqT K H a xs)
    (hs : ∀ i x σ H, xs[i]? = some x → Pv i σ H → g x σ H fun σ2 H2 => tb { D with nx := Pv (i + 1), ct := Pv (i + 1), bk := D.nx } σ2 H2) (hd : ∀ σ H, Pv xs.length σ H → D.nx σ H) :
    ∃ W : Nat → Nat → St → Hp → Prop, (∃ m, W 0 m σ H) ∧ ∀ i m σ H, W i m σ H →
      ((Itt K a).stop i H ∧ D.nx σ H) ∨ ((Itt K a).go i H ∧ ∃ N : St → Hp → Prop, (∀ σ' H', N σ' H' → ∃ m', m' < m ∧ W (i + 1) m' σ' H') ∧ ∀ x H', (Itt K a).yld i H x H' → g x σ H' fun σ2 H2 => tb { D with nx := N, ct := N, bk := D.nx } σ2 H2) := by
  refine ⟨fun i m σ H => m = xs.length - i ∧ i ≤ xs.length ∧ Pv i σ H, ⟨xs.length, by simp, Nat.zero_le _, h0⟩, ?_⟩
  rintro i m σ H ⟨rfl, hi, p⟩
  have q := hl i σ H hi p
  by_cases hlt : i < xs.length
  · refine .inr ⟨⟨xs, xs[i], q, by simp [hlt]⟩, Pv (i + 1), fun σ' H' p' => ⟨xs.length - (i + 1), by omega, rfl, hlt, p'⟩, fun x H' y => ?_⟩
    obtain ⟨e, y⟩ := y
    subst e
    exact hs i x σ _ (y xs q) p
  · have e : i = xs.length := by omega
    subst e
    exact .inl ⟨⟨xs, q, Nat.le_refl _⟩, hd σ H p⟩
theorem for_range {lo : Int} {n : Nat} {g : TG} {tb : TS} {D : Ends} {σ : St} {H : Hp} (Pv : Nat → St → Hp → Prop) (h0 : Pv 0 σ H)
    (hs : ∀ i σ H, i < n → Pv i σ H → g (.int (lo + i)) σ H fun σ2 H2 => tb { D with nx := Pv (i + 1), ct := Pv (i + 1), bk := D.nx } σ2 H2) (hd : ∀ σ H, Pv n σ H → D.nx σ H) :
    ∃ W : Nat → Nat → St → Hp → Prop, (∃ m, W 0 m σ H) ∧ ∀ i m σ H, W i m σ H →
      ((Itr lo n).stop i H ∧ D.nx σ H) ∨ ((Itr lo n).go i H ∧ ∃ N : St → Hp → Prop, (∀ σ' H', N σ' H' → ∃ m', m' < m ∧ W (i + 1) m' σ' H') ∧ ∀ x H', (Itr lo n).yld i H x H' → g x σ H' fun σ2 H2 => tb { D with nx := N, ct := N, bk := D.nx } σ2 H2) := by
  refine ⟨fun i m σ H => m = n - i ∧ i ≤ n ∧ Pv i σ H, ⟨n, by simp, Nat.zero_le _, h0⟩, ?_⟩
  rintro i m σ H ⟨rfl, hi, p⟩
  by_cases hlt : i < n
  · refine .inr ⟨hlt, Pv (i + 1), fun σ' H' p' => ⟨n - (i + 1), by omega, rfl, hlt, p'⟩, fun x H' y => ?_⟩
    obtain ⟨e, y⟩ := y
    subst e y
    exact hs i σ _ hlt p
  · have e : i = n := by omega
    subst e
    exact .inl ⟨Nat.le_refl _, hd σ H p⟩
/-- while, by a word and a measure of the state -/
theorem while_by {c : TT} {tb : TS} {D : Ends} {σ : St} {H : Hp} (Pv : St → Hp → Prop) (μ : St → Hp → Nat) (h0 : Pv σ H)
    (hs : ∀ σ H, Pv σ H → c σ H fun b H1 => if b = true then tb { D with nx := fun σ' H' => Pv σ' H' ∧ μ σ' H' < μ σ H, ct := fun σ' H' => Pv σ' H' ∧ μ σ' H' < μ σ H, bk := D.nx } σ H1 else D.nx σ H1)
    (mono : ∀ σ H Q Q', (∀ b H1, Q b H1 → Q' b H1) → c σ H Q → c σ H Q') : tWhile c tb D σ H := by
  refine ⟨fun m σ H => m = μ σ H ∧ Pv σ H, ⟨_, rfl, h0⟩, ?_⟩
  rintro m σ H ⟨rfl, p⟩
  refine mono σ H _ _ (fun b H1 q => ?_) (hs σ H p)
  cases b with
  | true => exact ⟨_, fun σ' H' ⟨p', l⟩ => ⟨_, l, rfl, p'⟩, q⟩
  | false => exact q
end L2

namespace L2
open PySem PySem.Spec PyProof.Rows

abbrev R2 := V → V → Hp → VK → Prop
/-- a two-place operation on values: f is binaryOp op, inplaceOp op or compareOp op -/
def OpR (X : Cx) (f : Value → Value → Sem Value) (r : R2) : Prop :=
  ∀ (pins : List (Addr × Obj)) (s : Shared) (σ : St) (H : Hp) (x y : V) (v u : Value) (Q : VK), Inv X pins σ H s → RelV x v → RelV y u → r x y H Q →
    wpAny (model X.prog X.w) X.A (f v u) (EP X pins σ Q) X.xe s
/-- a one-place operation -/
def UnR (X : Cx) (f : Value → Sem Value) (r : V → Hp → VK → Prop) : Prop :=
  ∀ (pins : List (Addr × Obj)) (s : Shared) (σ : St) (H : Hp) (x : V) (v : Value) (Q : VK), Inv X pins σ H s → RelV x v → r x H Q →
    wpAny (model X.prog X.w) X.A (f v) (EP X pins σ Q) X.xe s
/-- a call of a value that is known (a builtin, a type) with values -/
def CallR (X : Cx) (f : Value) (r : List V → Hp → VK → Prop) : Prop :=
  ∀ (pins : List (Addr × Obj)) (s : Shared) (σ : St) (H : Hp) (xs : List V) (us : List Value) (Q : VK), Inv X pins σ H s → Vals xs us → r xs H Q →
    wpAny (model X.prog X.w) X.A (call f us) (EP X pins σ Q) X.xe s
def tOp (r : R2) (ta tb : TE) : TE := fun σ H Q => ta σ H fun x H1 => tb σ H1 fun y H2 => r x y H2 Q
def tUn (r : V → Hp → VK → Prop) (ta : TE) : TE := fun σ H Q => ta σ H fun x H1 => r x H1 Q
/-- ints in, under C, and a value out -/
def rI (C : Int → Int → Prop) (g : Int → Int → V) : R2 := fun x y H Q => ∃ i j, x = .int i ∧ y = .int j ∧ C i j ∧ Q (g i j) H
def rI0 (g : Int → Int → V) : R2 := fun x y H Q => ∃ i j, x = .int i ∧ y = .int j ∧ Q (g i j) H
def rU (g : Int → V) : V → Hp → VK → Prop := fun x H Q => ∃ i, x = .int i ∧ Q (g i) H

section
variable {X : Cx} {a b c : Expr} {ta tb tc : TE} {pos : Pos}

theorem binT (ha : PE X a ta) (hb : PE X b tb) {pins : List (Addr × Obj)} {s : Shared} {σ : St} {H : Hp} {R : V → V → Hp → Prop} (I : Inv X pins σ H s)
    (h : ta σ H fun x H1 => tb σ H1 fun y H2 => R x y H2) {Q : Value → Shared → Prop} {f : Value → Value → Sem Value}
    (hf : ∀ v u s2 x y H2, Inv X pins σ H2 s2 → RelV x v → RelV y u → R x y H2 → wpAny (model X.prog X.w) X.A (f v u) Q X.xe s2) :
    wpAny (model X.prog X.w) X.A (eval a X.env) (fun v s₁ => wpAny (model X.prog X.w) X.A (eval b X.env) (fun u s₂ => wpAny (model X.prog X.w) X.A (f v u) Q X.xe s₂) X.xe s₁) X.xe s := by
  refine thn (ha pins s σ H _ I h) fun v s1 ⟨x, H1, I1, r1, q1⟩ => ?_
  refine thn (hb pins s1 σ H1 _ I1 q1) fun u s2 ⟨y, H2, I2, r2, q2⟩ => ?_
  exact hf v u s2 x y H2 I2 r1 r2 q2

theorem pe_op {op : Operator} {r : R2} (ho : OpR X (binaryOp op) r) (ha : PE X a ta) (hb : PE X b tb) : PE X (.BinOp a op b pos) (tOp r ta tb) := by
  intro pins s σ H Q I h
  exact wpAny_BinOp (binT ha hb I h fun v u s2 x y H2 I2 rx ry q => ho pins s2 σ H2 x y v u Q I2 rx ry q)
theorem pe_un {op : UnaryOp} {r : V → Hp → VK → Prop} (ho : UnR X (unaryOp op) r) (ha : PE X a ta) : PE X (.UnaryOp op a pos) (tUn r ta) := by
  intro pins s σ H Q I h
  exact UnaryOp_ (thn (ha pins s σ H _ I h) fun v s1 ⟨x, H1, I1, r1, q1⟩ => ho pins s1 σ H1 x v Q I1 r1 q1)
/-! ### ints -/
theorem opI {f : Value → Value → Sem Value} {C : Int → Int → Prop} {g : Int → Int → Int}
    (rule : ∀ (i j : Int) (t u : Tok) (s : Shared) (Q : Value → Shared → Prop) (E : Value → Shared → Prop), C i j → Q (.int (g i j) s.toks) { s with toks := s.toks + 1 } → wpAny (model X.prog X.w) X.A (f (.int i t) (.int j u)) Q E s) :
    OpR X f (rI C fun i j => .int (g i j)) := by
  intro pins s σ H x y v u Q I rx ry h
  obtain ⟨i, j, rfl, rfl, hc, q⟩ := h
  obtain ⟨t, rfl⟩ := rx
  obtain ⟨t', rfl⟩ := ry
  exact rule i j t t' s _ _ hc ⟨.int (g i j), H, I.tok _, ⟨_, rfl⟩, q⟩
theorem opI0 {f : Value → Value → Sem Value} {g : Int → Int → Int}
    (rule : ∀ (i j : Int) (t u : Tok) (s : Shared) (Q : Value → Shared → Prop) (E : Value → Shared → Prop), Q (.int (g i j) s.toks) { s with toks := s.toks + 1 } → wpAny (model X.prog X.w) X.A (f (.int i t) (.int j u)) Q E s) :
    OpR X f (rI0 fun i j => .int (g i j)) := by
  intro pins s σ H x y v u Q I rx ry h
  obtain ⟨i, j, rfl, rfl, q⟩ := h
  obtain ⟨t, rfl⟩ := rx
  obtain ⟨t', rfl⟩ := ry
  exact rule i j t t' s _ _ ⟨.int (g i j), H, I.tok _, ⟨_, rfl⟩, q⟩
theorem opB0 {f : Value → Value → Sem Value} {g : Int → Int → Bool}
    (rule : ∀ (i j : Int) (t u : Tok) (s : Shared) (Q : Value → Shared → Prop) (E : Value → Shared → Prop), Q (.bool (g i j)) s → wpAny (model X.prog X.w) X.A (f (.int i t) (.int j u)) Q E s) :
    OpR X f (rI0 fun i j => .bl (g i j)) := by
  intro pins s σ H x y v u Q I rx ry h
  obtain ⟨i, j, rfl, rfl, q⟩ := h
  obtain ⟨t, rfl⟩ := rx
  obtain ⟨t', rfl⟩ := ry
  exact rule i j t t' s _ _ ⟨.bl (g i j), H, I, rfl, q⟩

def CDiv (i j : Int) : Prop := 0 < j ∧ j < 1073741824
def CPow (i j : Int) : Prop := 0 ≤ j ∧ j ≤ 1000000 ∧ i.natAbs < 2 ^ 64
def CMul (i j : Int) : Prop := (-(2 ^ 64) < i ∧ i < 2 ^ 64) ∨ (-(2 ^ 64) < j ∧ j < 2 ^ 64)
theorem CMul.ok {i j : Int} (h : CMul i j) : IntMulOk i j := by
  rcases h with ⟨h1, h2⟩ | ⟨h1, h2⟩
  · exact .of_left (intBits_le_64 h1 h2)
  · exact .of_right (intBits_le_64 h1 h2)
theorem op_add : OpR X (binaryOp .Add) (rI0 fun i j => .int (i + j)) := opI0 fun _ _ _ _ _ _ _ q => add_int q
theorem op_sub : OpR X (binaryOp .Sub) (rI0 fun i j => .int (i - j)) := opI0 fun _ _ _ _ _ _ _ q => sub_int q
theorem op_mul : OpR X (binaryOp .Mult) (rI CMul fun i j => .int (i * j)) := opI fun _ _ _ _ _ _ _ hc q => mul_int q hc.ok
/-- // by a positive divisor -/
theorem op_fdiv : OpR X (binaryOp .FloorDiv) (rI CDiv fun i j => .int (i / j)) := opI fun i j _ _ _ _ _ hc q => by
  have h1 : (0 : Int) < j := hc.1
  have h2 : j < 1073741824 := hc.2
  exact floordiv_int (by omega) (by rw [Int.fdiv_eq_ediv_of_nonneg i (by omega)]; exact q) (.inl (PyProof.noPylong_small (by omega)))
/-- % by a positive divisor of any size -/
theorem op_mod : OpR X (binaryOp .Mod) (rI (fun _ j => 0 < j) fun i j => .int (i % j)) := opI fun i j _ _ _ _ _ hc q => by
  have h1 : (0 : Int) < j := hc
  exact mod_int' (by omega) (by rw [Int.fmod_eq_emod_of_nonneg i (by omega)]; exact q)
theorem op_pow : OpR X (binaryOp .Pow) (rI CPow fun i j => .int (i ^ j.toNat)) := opI fun _ _ _ _ _ _ _ hc q => pow_int_small hc.1 hc.2.1 hc.2.2 q
theorem unI {f : Value → Sem Value} {g : Int → Int}
    (rule : ∀ (i : Int) (t : Tok) (s : Shared) (Q : Value → Shared → Prop) (E : Value → Shared → Prop), Q (.int (g i) s.toks) { s with toks := s.toks + 1 } → wpAny (model X.prog X.w) X.A (f (.int i t)) Q E s) :
    UnR X f (rU fun i => .int (g i)) := by
  intro pins s σ H x v Q I rx h
  obtain ⟨i, rfl, q⟩ := h
  obtain ⟨t, rfl⟩ := rx
  exact rule i t s _ _ ⟨.int (g i), H, I.tok _, ⟨_, rfl⟩, q⟩
theorem un_neg : UnR X (unaryOp .USub) (rU fun i => .int (-i)) := unI fun _ _ _ _ _ q => neg_int q
/-! ### bools among ints: n += (a < b) -/
end

/-! ### comparisons -/
/-- the scalars that == tells apart as data does -/
def scal : V → V → Bool
  | .non, .non => true | .non, .int _ => true | .int _, .non => true | .non, .bl _ => true | .bl _, .non => true | .non, .str _ => true | .str _, .non => true
  | .int _, .int _ => true | .bl _, .bl _ => true | .str _, .str _ => true | .byt _, .byt _ => true
  | .int _, .str _ => true | .str _, .int _ => true | .bl _, .str _ => true | .str _, .bl _ => true
  | _, _ => false
def rEq : R2 := fun x y H Q => scal x y = true ∧ Q (.bl (decide (x = y))) H
def rNe : R2 := fun x y H Q => scal x y = true ∧ Q (.bl (!decide (x = y))) H

theorem dec_int {i j : Int} : decide (V.int i = V.int j) = (i == j) := by
  rw [Bool.eq_iff_iff]
  simp
theorem dec_bl {i j : Bool} : decide (V.bl i = V.bl j) = (i == j) := by
  rw [Bool.eq_iff_iff]
  simp
theorem dec_str {i j : Str} : decide (V.str i = V.str j) = (i == j) := by
  rw [Bool.eq_iff_iff]
  simp
theorem dec_byt {i j : Array UInt8} : decide (V.byt i = V.byt j) = (i.toList == j.toList) := by
  rw [Bool.eq_iff_iff]
  cases i
  cases j
  simp

section
variable {X : Cx} {a b c : Expr} {ta tb tc : TE} {pos : Pos}
theorem fin_bl {pins : List (Addr × Obj)} {σ : St} {H : Hp} {s : Shared} {Q : VK} {k k' : Bool} (I : Inv X pins σ H s) (q : Q (.bl k) H) (e : k = k') : EP X pins σ Q (.bool k') s := by
  subst e
  exact ⟨.bl k, H, I, rfl, q⟩
theorem op_eq : OpR X (compareOp .Eq) rEq := by
  intro pins s σ H x y v u Q I rx ry h
  obtain ⟨hs, q⟩ := h
  cases x with
  | non =>
    cases rx
    cases y with
    | non => cases ry; exact PySem.EqNone.eq_none_none (fin_bl I q (by simp))
    | bl j => cases ry; exact PySem.EqNone.eq_none_bool (fin_bl I q (by simp))
    | int j => obtain ⟨t', rfl⟩ := ry; exact PySem.EqNone.eq_none_int (fin_bl I q (by simp))
    | str j => obtain ⟨t', rfl⟩ := ry; exact PySem.EqNone.eq_none_str (fin_bl I q (by simp))
    | _ => exact absurd (show false = true from hs) Bool.false_ne_true
  | bl i =>
    cases rx
    cases y with
    | non => cases ry; exact PySem.EqNone.eq_bool_none (fin_bl I q (by simp))
    | bl j => cases ry; exact eq_bool (fin_bl I q dec_bl)
    | str j => obtain ⟨t', rfl⟩ := ry; exact PySem.EqMixed.eq_bool_str (fin_bl I q (by simp))
    | _ => exact absurd (show false = true from hs) Bool.false_ne_true
  | int i =>
    obtain ⟨t, rfl⟩ := rx
    cases y with
    | non => cases ry; exact PySem.EqNone.eq_int_none (fin_bl I q (by simp))
    | int j => obtain ⟨t', rfl⟩ := ry; exact eq_int (fin_bl I q dec_int)
    | str j => obtain ⟨t', rfl⟩ := ry; exact PySem.EqMixed.eq_int_str (fin_bl I q (by simp))
    | _ => exact absurd (show false = true from hs) Bool.false_ne_true
  | str i =>
    obtain ⟨t, rfl⟩ := rx
    cases y with
    | non => cases ry; exact PySem.EqNone.eq_str_none (fin_bl I q (by simp))
    | bl j => cases ry; exact PySem.EqMixed.eq_str_bool (fin_bl I q (by simp))
    | int j => obtain ⟨t', rfl⟩ := ry; exact PySem.EqMixed.eq_str_int (fin_bl I q (by simp))
    | str j => obtain ⟨t', rfl⟩ := ry; exact eq_str (fin_bl I q dec_str)
    | _ => exact absurd (show false = true from hs) Bool.false_ne_true
  | byt i =>
    obtain ⟨t, rfl⟩ := rx
    cases y with
    | byt j => obtain ⟨t', rfl⟩ := ry; exact PySem.W.eq_bytes (fin_bl I q dec_byt)
    | _ => exact absurd (show false = true from hs) Bool.false_ne_true
  | _ => cases y <;> exact absurd (show false = true from hs) Bool.false_ne_true
theorem op_ne : OpR X (compareOp .NotEq) rNe := by
  intro pins s σ H x y v u Q I rx ry h
  obtain ⟨hs, q⟩ := h
  cases x with
  | non =>
    cases rx
    cases y with
    | non => cases ry; exact PySem.EqNone.ne_none_none (fin_bl I q (by simp))
    | bl j => cases ry; exact PySem.EqNone.ne_none_bool (fin_bl I q (by simp))
    | int j => obtain ⟨t', rfl⟩ := ry; exact PySem.EqNone.ne_none_int (fin_bl I q (by simp))
    | str j => obtain ⟨t', rfl⟩ := ry; exact PySem.EqNone.ne_none_str (fin_bl I q (by simp))
    | _ => exact absurd (show false = true from hs) Bool.false_ne_true
  | bl i =>
    cases rx
    cases y with
    | non => cases ry; exact PySem.EqNone.ne_bool_none (fin_bl I q (by simp))
    | bl j => cases ry; exact ne_bool (fin_bl I q (congrArg not dec_bl))
    | str j => obtain ⟨t', rfl⟩ := ry; exact PySem.EqMixed.ne_bool_str (fin_bl I q (by simp))
    | _ => exact absurd (show false = true from hs) Bool.false_ne_true
  | int i =>
    obtain ⟨t, rfl⟩ := rx
    cases y with
    | non => cases ry; exact PySem.EqNone.ne_int_none (fin_bl I q (by simp))
    | int j => obtain ⟨t', rfl⟩ := ry; exact ne_int (fin_bl I q (congrArg not dec_int))
    | str j => obtain ⟨t', rfl⟩ := ry; exact PySem.EqMixed.ne_int_str (fin_bl I q (by simp))
    | _ => exact absurd (show false = true from hs) Bool.false_ne_true
  | str i =>
    obtain ⟨t, rfl⟩ := rx
    cases y with
    | non => cases ry; exact PySem.EqNone.ne_str_none (fin_bl I q (by simp))
    | bl j => cases ry; exact PySem.EqMixed.ne_str_bool (fin_bl I q (by simp))
    | int j => obtain ⟨t', rfl⟩ := ry; exact PySem.EqMixed.ne_str_int (fin_bl I q (by simp))
    | str j => obtain ⟨t', rfl⟩ := ry; exact ne_str (fin_bl I q (congrArg not dec_str))
    | _ => exact absurd (show false = true from hs) Bool.false_ne_true
  | byt i =>
    obtain ⟨t, rfl⟩ := rx
    cases y with
    | byt j => obtain ⟨t', rfl⟩ := ry; exact PySem.W.ne_bytes (fin_bl I q (congrArg not dec_byt))
    | _ => exact absurd (show false = true from hs) Bool.false_ne_true
  | _ => cases y <;> exact absurd (show false = true from hs) Bool.false_ne_true

theorem op_lt : OpR X (compareOp .Lt) (rI0 fun i j => .bl (decide (i < j))) := opB0 fun _ _ _ _ _ _ _ q => lt_int q
theorem op_gt : OpR X (compareOp .Gt) (rI0 fun i j => .bl (decide (j < i))) := opB0 fun _ _ _ _ _ _ _ q => gt_int q
theorem op_ge : OpR X (compareOp .GtE) (rI0 fun i j => .bl (decide (j ≤ i))) := opB0 fun _ _ _ _ _ _ _ q => ge_int q
/-- is None, is not None: the right side a value none -/
theorem op_isN : OpR X (compareOp .Is) (fun x y H Q => y = .non ∧ Q (.bl (decide (x = .non))) H) := by
  intro pins s σ H x y v u Q I rx ry h
  obtain ⟨rfl, q⟩ := h
  cases ry
  refine is_none_gen (fin_bl I q ?_)
  cases x <;> first
    | (cases rx; rfl)
    | (obtain ⟨t, rfl⟩ := rx; rfl)
theorem nomark (b : Expr) {op : CmpOp} (h : op ≠ .In := by decide) (h2 : op ≠ .NotIn := by decide) : behindInMarks op b = false := by
  have e1 : (op == CmpOp.In) = false := by cases op <;> first | rfl | exact absurd rfl h
  have e2 : (op == CmpOp.NotIn) = false := by cases op <;> first | rfl | exact absurd rfl h2
  cases b <;> simp [behindInMarks, e1, e2]
/-- a comparison as a value; hm: nomark b, or (for in, not in) by with_unfolding_all rfl -/
theorem pe_cmpR {op : CmpOp} {r : R2} (ho : OpR X (compareOp op) r) (ha : PE X a ta) (hb : PE X b tb) (hm : behindInMarks op b = false) : PE X (.Compare a [op] [b] pos) (tOp r ta tb) := by
  intro pins s σ H Q I h
  exact wpAny_Compare1 (binT ha hb I h fun v u s2 x y H2 I2 rx ry q => ho pins s2 σ H2 x y v u Q I2 rx ry q) hm
/-- a reading of a value as a test -/
def tTest (t : TE) : TT := fun σ H Q => t σ H fun x H' => ∃ k, x = .bl k ∧ Q k H'
theorem pt_cmpR {op : CmpOp} {r : R2} (ho : OpR X (compareOp op) r) (ha : PE X a ta) (hb : PE X b tb) (hm : behindInMarks op b = false) : PT X (.Compare a [op] [b] pos) (tTest (tOp r ta tb)) := by
  intro pins s σ H Q I h
  refine wpAny_isTrue_Compare1 (thn (ha pins s σ H _ I h) fun v s1 ⟨x, H1, I1, r1, q1⟩ => thn (hb pins s1 σ H1 _ I1 q1) fun u s2 ⟨y, H2, I2, r2, q2⟩ =>
    thn (ho pins s2 σ H2 x y v u _ I2 r1 r2 q2) fun c s3 ⟨z, H3, I3, r3, k, e, q3⟩ => ?_) hm
  subst e
  cases r3
  exact wpAny_truthy_bool ⟨H3, I3, q3⟩
/-! ### truth -/
theorem line63 : (sizeLine : Nat) < 2 ^ 63 := by rw [sizeLine_eq]; decide
/-! ### strs and bytes -/
/-! ### scalar builtins, by CallR -/
theorem vals1 {x : V} {us : List Value} (r : Vals [x] us) : ∃ u, us = [u] ∧ RelV x u := by
  cases r with
  | cons r1 r2 => cases r2; exact ⟨_, rfl, r1⟩
theorem vals2 {x y : V} {us : List Value} (r : Vals [x, y] us) : ∃ u w', us = [u, w'] ∧ RelV x u ∧ RelV y w' := by
  cases r with
  | cons r1 r2 =>
    cases r2 with
    | cons r3 r4 => cases r4; exact ⟨_, _, rfl, r1, r3⟩
theorem call_abs : CallR X (.builtin "abs") (fun xs H Q => ∃ i, xs = [.int i] ∧ Q (.int (if i < 0 then -i else i)) H) := by
  intro pins s σ H xs us Q I r h
  obtain ⟨i, rfl, q⟩ := h
  obtain ⟨u, rfl, t, rfl⟩ := vals1 r
  exact call_abs_int fun u tk => ⟨.int (if i < 0 then -i else i), H, I.tok _, ⟨_, rfl⟩, q⟩
theorem call_max2 (hc : X.calm = true) : CallR X (.builtin "max") (fun xs H Q => ∃ i j, xs = [.int i, .int j] ∧ Q (.int (if j > i then j else i)) H) := by
  intro pins s σ H xs us Q I r h
  obtain ⟨i, j, rfl, q⟩ := h
  obtain ⟨u, w', rfl, ⟨t, rfl⟩, ⟨t', rfl⟩⟩ := vals2 r
  refine max_two_ints (I.ok.hd hc) fun h' tk k => ⟨_, H, I.kept k, ?_, q⟩
  by_cases hj : j > i
  · rw [if_pos hj, if_pos hj]; exact ⟨_, rfl⟩
  · rw [if_neg hj, if_neg hj]; exact ⟨_, rfl⟩
end
end L2

namespace L2
open PySem PySem.Spec PyProof.Rows

/-! ### an instance, its attributes a map -/
section
variable {prog : Program} {w : World} {A : Around} {E : Value → Shared → Prop} {s : Shared} {K : PySem.W.Frag} {x dx C f : Addr} {mA : Str → Option Value} {name : Str} {v : Value}

end

/-! ### the attributes as a list of pairs -/
section
variable {P : Program} {w : World} {H H' : Hp} {h h' : Heap} {a C dx : Addr} {fs fs' : List (Str × V)}
end

/-! ### what of the text a class must have -/
section
variable {X : Cx} {pins : List (Addr × Obj)} {σ : St} {H : Hp} {s : Shared} {a C dx : Addr} {fs : List (Str × V)} {f : Str} {v : V} {A : Around} {E : Value → Shared → Prop}

end

/-! ### readings and rules -/
section
variable {X : Cx} {o e value : Expr} {f : Str} {pos pos' tpos : Pos} {ta tv : TE}
end

/-! ### isinstance -/
section
variable {X : Cx} {pins : List (Addr × Obj)} {σ : St} {H : Hp} {s : Shared} {A : Around} {E : Value → Shared → Prop} {Q : Value → Shared → Prop} {c : Value} {b : Bool}
end
end L2

namespace L2
open PySem PySem.Spec PyProof.Rows

/-! ### room -/
structure Room (k : Nat) (A : Around) : Prop where
  hd : A.handled = none
  dp : A.depth + 3 * k + 5 < recursionLimit
  un : A.units + 16 * k + 200 < cLine
  gd : A.guards = some []
theorem Room.mono {j k : Nat} {A : Around} (r : Room k A) (h : j ≤ k) : Room j A := ⟨r.hd, by have := r.dp; omega, by have := r.un; omega, r.gd⟩
theorem Room.deeper {k : Nat} {A : Around} (r : Room (k + 1) A) (env : Env) : Room k (A.deeper env) :=
  ⟨r.hd, by have := r.dp; show A.depth + 1 + 3 * k + 5 < _; omega, by have := r.un; show A.units + 3 + 16 * k + 200 < _; omega, r.gd⟩
theorem Room.depth {k : Nat} {A : Around} (r : Room k A) : A.depth < recursionLimit := by have := r.dp; omega
/-! ### argument lists and displays -/
def tNil : TA := fun _ H Q => Q [] H
def tCons (ta : TE) (tr : TA) : TA := fun σ H Q => ta σ H fun x H1 => tr σ H1 fun xs H2 => Q (x :: xs) H2
section
variable {X : Cx} {e : Expr} {es : List Expr} {te : TE} {t : TA} {pos : Pos}
theorem pa_nil : PA X [] tNil := fun _ _ _ _ H Q I h => Calls.spliced_nil ⟨[], H, I, .nil, h⟩
theorem pa_cons (ha : PE X e te) (hr : PA X es t) (hs : starEach (e :: es) X.env = (false, eval e X.env) :: starEach es X.env := by rfl) : PA X (e :: es) (tCons te t) := by
  intro pos pins s σ H Q I h
  rw [hs]
  show wpAny _ _ (spliced ((false, eval e X.env) :: backTo pos (starEach es X.env))) _ _ s
  refine Calls.spliced_cons (thn (ha pins s σ H _ I h) fun u s1 ⟨x, H1, I1, r1, q1⟩ => ?_)
  exact thn (hr pos pins s1 σ H1 _ I1 q1) fun us s2 ⟨xs, H2, I2, r2, q2⟩ => ⟨x :: xs, H2, I2, .cons r1 r2, q2⟩

/-- a tuple, a list of written items -/
def tTup (t : TA) : TE := fun σ H Q => t σ H fun xs H1 => xs.length ≤ sizeLine ∧ ∀ p, H1 p = none → Q (.ref p) (upd H1 p (.tup xs))
def tLst (t : TA) : TE := fun σ H Q => t σ H fun xs H1 => xs.length ≤ sizeLine ∧ ∀ p, H1 p = none → Q (.ref p) (upd H1 p (.lst xs))
theorem pe_tup {x1} (h : PA X es t) : PE X (.Tuple es x1 pos) (tTup t) := by
  intro pins s σ H Q I hq
  refine wpAny_Tuple_spliced (thn (h pos pins s σ H _ I hq) fun us s1 ⟨xs, H1, I1, r, z, q⟩ => ⟨by rw [← r.length]; exact z, ?_⟩)
  have hf : H1 s1.heap.objs.size = none := I1.hok.fresh (Nat.le_refl _)
  refine ⟨.ref s1.heap.objs.size, upd H1 s1.heap.objs.size (.tup xs), I1.laid (t' := s1.toks) (fun b u e => Heap.get?_push_of_some _ e) (Nat.le_refl _) ?_, rfl, q _ hf⟩
  exact ⟨z, us, r, ⟨_, Heap.get?_push_size _ rfl, rfl, _, rfl, rfl⟩⟩
theorem pe_lst (h : PA X es t) : PE X (.List es pos) (tLst t) := by
  intro pins s σ H Q I hq
  refine wpAny_List_spliced (thn (h pos pins s σ H _ I hq) fun us s1 ⟨xs, H1, I1, r, z, q⟩ => ⟨by rw [← r.length]; exact z, ?_⟩)
  have hf : H1 s1.heap.objs.size = none := I1.hok.fresh (Nat.le_refl _)
  refine ⟨.ref s1.heap.objs.size, upd H1 s1.heap.objs.size (.lst xs), I1.laid (t' := s1.toks) (fun b u e => Heap.get?_push_of_some _ e) (Nat.le_refl _) ?_, rfl, q _ hf⟩
  exact ⟨z, us, 0, r, Heap.get?_push_size _ rfl⟩
end

/-! ### what a def promises -/
/-- a def's promise: the bound arguments in the parameters' order, the heap, the wanted end, the wanted exception -/
abbrev Sp := List V → Hp → VK → XK → Prop
/-- how an exception lies behind a call (file 08 gives it): the callers' frames, abstract heap and state ahead of the call, the wish, the exception, the state -/
abbrev CXT := List Env → Hp → Shared → XK → Value → Shared → Prop

/-- the state at a call -/
structure Env0 (P : Program) (w : World) (K : PySem.W.Frag) (mg : Str → Option Value) (base : Heap) (A : Around) (outer : List Env) (s : Shared) (H : Hp) : Prop where
  frames : A.frames = some outer
  mod : Mod K mg base
  bs : ∀ b o, base.get? b = some o → s.heap.get? b = some o ∧ H b = none
  bsz : base.objs.size ≤ s.heap.objs.size
  funs : s.heap.FunFrames base outer
  frf : ∀ b ∈ frs outer, H b = none
  hok : HOk P w H s.heap
  bare : AllBare s.gens
/-- a call's end -/
def CE (outer : List Env) (P : Program) (w : World) (H : Hp) (s : Shared) (Q : VK) (u : Value) (s' : Shared) : Prop :=
  ∃ v H', s'.os = s.os ∧ AllBare s'.gens ∧ Un (frs outer) [] H H' s.heap s'.heap ∧ HOk P w H' s'.heap ∧ RelV v u ∧ Q v H'
def CR (CX : CXT) (outer : List Env) (P : Program) (w : World) (H : Hp) (s : Shared) (Q : VK) (E : XK) (r : Result) (s' : Shared) : Prop :=
  match r with
  | .ok (.ret u) => CE outer P w H s Q u s'
  | .ok _ => False
  | .error e => CX outer H s E e s'
structure FnOk (P : Program) (w : World) (K : PySem.W.Frag) (mg : Str → Option Value) (base : Heap) (CX : CXT) (k : Nat) (f : Addr) (fd : FuncData) (ps : List Str) (sp : Sp) : Prop where
  len : ∀ vs H Q E, sp vs H Q E → vs.length = ps.length
  run : ∀ (A : Around) (outer : List Env) (s : Shared) (H : Hp) (args : Args) (us : List Value) (vs : List V) (Q : VK) (E : XK), Room k A → Env0 P w K mg base A outer s H → BindsTo s fd args (ps.zip us) → Vals vs us → sp vs H Q E →
    codeAny (model P w) A (.call (.ref f) args) (CR CX outer P w H s Q E) s
theorem FnOk.mono {P : Program} {w : World} {K : PySem.W.Frag} {mg : Str → Option Value} {base : Heap} {CX : CXT} {j k : Nat} {f : Addr} {fd : FuncData} {ps : List Str} {sp : Sp} (F : FnOk P w K mg base CX j f fd ps sp) (h : j ≤ k) :
    FnOk P w K mg base CX k f fd ps sp := ⟨F.len, fun A outer s H args us vs Q E hr => F.run A outer s H args us vs Q E (hr.mono h)⟩
/-- a weaker promise -/
theorem FnOk.imp {P : Program} {w : World} {K : PySem.W.Frag} {mg : Str → Option Value} {base : Heap} {CX : CXT} {k : Nat} {f : Addr} {fd : FuncData} {ps : List Str} {sp sp' : Sp} (F : FnOk P w K mg base CX k f fd ps sp)
    (h : ∀ vs H Q E, sp' vs H Q E → sp vs H Q E) : FnOk P w K mg base CX k f fd ps sp' :=
  ⟨fun vs H Q E q => F.len vs H Q E (h _ _ _ _ q), fun A outer s H args us vs Q E hr he hb hv hs => F.run A outer s H args us vs Q E hr he hb hv (h _ _ _ _ hs)⟩

section
variable {X : Cx} {pins : List (Addr × Obj)} {σ : St} {H : Hp} {s s' : Shared}
/-- from a body: what a callee wants -/
theorem Inv.env0 (I : Inv X pins σ H s) : Env0 X.prog X.w X.K X.mg X.base X.A X.stack s H :=
  ⟨I.ok.frames, I.ok.mod, I.bs, Nat.le_trans I.ok.bsz I.sz, I.stack, I.stkFree, I.hok, I.bare⟩
/-- behind a call -/
theorem Inv.after {Q : VK} {u : Value} (I : Inv X pins σ H s) (h : CE X.stack X.prog X.w H s Q u s') : EP X pins σ Q u s' := by
  obtain ⟨v, H', os, bare, un, hok, r, q⟩ := h
  obtain ⟨hh, g, d, t, os'⟩ := s'
  obtain rfl : os' = s.os := os
  exact ⟨v, H', I.call (h' := hh) (g' := g) (d' := d) (t' := t) (ch := []) un hok bare (fun b z => absurd z (by simp)), r, q⟩
end

/-! ### calls -/
/-- f(..): the written arguments, then the defaults dvs; E: what is wanted of an exception -/
def tCall (sp : Sp) (dvs : List V) (E : XK) (t : TA) : TE := fun σ H Q => t σ H fun vs H1 => sp (vs ++ dvs) H1 Q E
/-- how the parameters are bound: us the positional arguments, kw the keywords' values by name, ds the defaults that fill up -/
def Binds (K : PySem.W.Frag) (fd : FuncData) (ps : List Str) (ds : List Value) : Prop :=
  ∀ (s : Shared) (us : List Value), K.In s.heap → (us ++ ds).length = ps.length → BindsTo s fd ⟨us, []⟩ (ps.zip (us ++ ds))
/-- every parameter is given -/
theorem Binds.all {K : PySem.W.Frag} {fd : FuncData} {ps : List Str} (h : ∀ us : List Value, us.length = ps.length → bindArgs fd ⟨us, []⟩ = pure (ps.zip us)) : Binds K fd ps [] := fun s us _ hl => by
  rw [List.append_nil] at hl ⊢
  exact .of_eq (h us hl)

/-- an exception of a callee reaches what this body wants of exceptions -/
def Passes (CX : CXT) (X : Cx) (E : XK) : Prop := ∀ (pins : List (Addr × Obj)) (σ : St) (H : Hp) (s : Shared) (e : Value) (s' : Shared), Inv X pins σ H s → CX X.stack H s E e s' → X.xe e s'

section
variable {X : Cx} {CX : CXT} {k : Nat} {f C : Addr} {fd : FuncData} {ps : List Str} {sp : Sp} {dvs : List V} {ds : List Value} {E : XK} {x m : Str} {p pos apos : Pos} {e o : Expr} {es : List Expr} {ta : TE} {t : TA}

/-- the callee runs -/
theorem run_fn {pins : List (Addr × Obj)} {σ : St} {H : Hp} {s : Shared} {Q : VK} {us : List Value} {vs : List V} (F : FnOk X.prog X.w X.K X.mg X.base CX k f fd ps sp) (hr : Room k X.A) (hb : Binds X.K fd ps ds) (hd : Vals dvs ds) (hx : Passes CX X E)
    (I : Inv X pins σ H s) (r : Vals vs us) (h : sp (vs ++ dvs) H Q E) : wpAny (model X.prog X.w) X.A (call (.ref f) us) (EP X pins σ Q) X.xe s := by
  have r2 : Vals (vs ++ dvs) (us ++ ds) := r.append hd
  have hl : (us ++ ds).length = ps.length := by rw [← r2.length]; exact F.len _ _ _ _ h
  refine wpAny_call (codeAny_mono (F.run X.A X.stack s H ⟨us, []⟩ (us ++ ds) (vs ++ dvs) Q E hr I.env0 (hb s us I.kIn hl) r2 h) fun r s' hq => ?_)
  cases r with
  | error e => exact hx pins σ H s e s' I hq
  | ok fl =>
    cases fl with
    | ret u => exact I.after hq
    | next => exact False.elim hq
    | brk => exact False.elim hq
    | cont => exact False.elim hq

theorem pe_call (F : FnOk X.prog X.w X.K X.mg X.base CX k f fd ps sp) (hr : Room k X.A) (hg : Gl X x) (hm : X.mg x = some (.ref f)) (hk : PySem.W.keepIn X.K (.ref f) = true) (hb : Binds X.K fd ps ds) (hd : Vals dvs ds) (hx : Passes CX X E)
    (ha : PA X (e :: es) t) (hdb : (x == ("__debug__" : Str)) = false := by decide) (he : starEach (e :: es) X.env = (false, eval e X.env) :: starEach es X.env := by rfl) (hpl : (backTo pos (starEach es X.env)).any (·.1) = false := by rfl) :
    PE X (.Call (.Name x p) (e :: es) [] pos) (tCall sp dvs E t) := by
  intro pins s σ H Q I h
  refine wpAny_Call_Name_kw (ld_glob I hg hm ?_ hdb)
  refine PySem.W.callWith_K (h₀ := X.base) I.ok.mod.kin hk (thn (ha pos pins s σ H _ I h) fun us s1 ⟨vs, H1, I1, r, q⟩ => ⟨I1.kIn, ?_⟩) he hpl
  exact run_fn F hr hb hd hx I1 r q
end

/-! ### keywords -/
section
variable {X : Cx} {CX : CXT} {k : Nat} {f C : Addr} {fd : FuncData} {ps ks : List Str} {sp : Sp} {E : XK} {x m : Str} {p pos apos kpos : Pos} {e o : Expr} {es : List Expr} {kws : List Keyword} {te ta : TE} {t tk : TA} {nm : Option Str}
variable {g : List Value → List Value → List Value} {gV : List V → List V → List V}
end

/-! ### a def's body keeps its promise -/
/-- names: the parameters first -/
structure FnScope (N P : List Str) (sc : Scope) : Prop where
  kind : sc.kind = .function
  co : sc.isCoroutine = false
  gen : sc.isGenerator = false
  nd : N.Nodup
  pre : N.take P.length = P
  par : ∀ x ∈ P, sc.names.lookup x = some .local ∨ sc.names.lookup x = some .cell
  nofree : ∀ y ∈ sc.names, y.2 ≠ .free

theorem bindL_out {kindOf : Str → Option NameKind} {x : Str} : ∀ {binds : List (Str × Value)} {m : Str → Option Value}, (∀ v, (x, v) ∉ binds) → bindL kindOf binds m x = m x
  | [], _, _ => rfl
  | (n, v) :: r, m, h => by
    unfold bindL
    rw [bindL_out fun w hw => h w (List.mem_cons_of_mem _ hw)]
    split
    · have : x ≠ n := by rintro rfl; exact h v List.mem_cons_self
      simp [this]
    · rfl
theorem bindC_out {kindOf : Str → Option NameKind} {x : Str} : ∀ {binds : List (Str × Value)} {m : Str → Option Value}, (∀ v, (x, v) ∉ binds) → bindC kindOf binds m x = m x
  | [], _, _ => rfl
  | (n, v) :: r, m, h => by
    unfold bindC
    rw [bindC_out fun w hw => h w (List.mem_cons_of_mem _ hw)]
    split
    · rfl
    · have : x ≠ n := by rintro rfl; exact h v List.mem_cons_self
      simp [this]
theorem bindL_get {kindOf : Str → Option NameKind} {x : Str} {v : Value} : ∀ {P : List Str} {vs : List Value} {i : Nat} {m : Str → Option Value}, P.Nodup → P[i]? = some x → vs[i]? = some v → kindOf x = some .local →
    bindL kindOf (P.zip vs) m x = some v
  | [], _, _, _, _, h, _, _ => by simp at h
  | _ :: _, [], _, _, _, _, h, _ => by simp at h
  | p :: P, w :: vs, 0, m, nd, h1, h2, hk => by
    simp at h1 h2; subst h1; subst h2
    show bindL kindOf ((p, w) :: P.zip vs) m p = _
    unfold bindL
    rw [bindL_out fun v hv => (List.nodup_cons.mp nd).1 (List.of_mem_zip hv).1, if_pos hk]
    simp
  | p :: P, w :: vs, i + 1, m, nd, h1, h2, hk => by
    show bindL kindOf ((p, w) :: P.zip vs) m x = _
    unfold bindL
    exact bindL_get (i := i) (List.nodup_cons.mp nd).2 (by simpa using h1) (by simpa using h2) hk
theorem bindC_get {kindOf : Str → Option NameKind} {x : Str} {v : Value} : ∀ {P : List Str} {vs : List Value} {i : Nat} {m : Str → Option Value}, P.Nodup → P[i]? = some x → vs[i]? = some v → kindOf x ≠ some .local →
    bindC kindOf (P.zip vs) m x = some v
  | [], _, _, _, _, h, _, _ => by simp at h
  | _ :: _, [], _, _, _, _, h, _ => by simp at h
  | p :: P, w :: vs, 0, m, nd, h1, h2, hk => by
    simp at h1 h2; subst h1; subst h2
    show bindC kindOf ((p, w) :: P.zip vs) m p = _
    unfold bindC
    rw [bindC_out fun v hv => (List.nodup_cons.mp nd).1 (List.of_mem_zip hv).1, if_neg hk]
    simp
  | p :: P, w :: vs, i + 1, m, nd, h1, h2, hk => by
    show bindC kindOf ((p, w) :: P.zip vs) m x = _
    unfold bindC
    exact bindC_get (i := i) (List.nodup_cons.mp nd).2 (by simpa using h1) (by simpa using h2) hk

/-- the names' values at the entry -/
def start (N : List Str) (vs : List V) : St := vs.map some ++ List.replicate (N.length - vs.length) none

/-- the context of a def's body, at its entry; an exception leaves the frame, then lies as CX says -/
def cxOf (CX : CXT) (P : Program) (w : World) (K : PySem.W.Frag) (mg : Str → Option Value) (base : Heap) (N : List Str) (qual : Str) (scope : Scope) (f : Addr) (cd : Value) (A : Around) (outer : List Env) (s : Shared) (H : Hp) (E : XK) : Cx where
  prog := P
  w := w
  K := K
  mg := mg
  base := base
  A := A.deeper (envOfC qual scope s.heap.objs.size f cd)
  N := N
  s₀ := s
  H₀ := H
  env := envOfC qual scope s.heap.objs.size f cd
  outer := outer
  stack := envOfC qual scope s.heap.objs.size f cd :: outer
  ex := []
  calm := true
  fn := fun _ => true
  pn := []
  xe := fun e s' => wpAny (model P w) (A.deeper (envOfC qual scope s.heap.objs.size f cd)) (leaving (envOfC qual scope s.heap.objs.size f cd) e) (fun _ s'' => CX outer H s E e s'') (fun e' s'' => CX outer H s E e' s'') s'

theorem cell_has {sc : Scope} {n : Nat} {x : Str} (h : sc.names.lookup x = some .cell) : ∃ c, (cellsFrom n sc.names []).lookup x = some c := by
  have q := PySem.W.cellsFrom_some sc.names n [] (.inl h)
  exact Option.isSome_iff_exists.mp q

theorem inv_start {CX : CXT} {P : Program} {w : World} {K : PySem.W.Frag} {mg : Str → Option Value} {base : Heap} {N ps : List Str} {qual : Str} {scope : Scope} {f : Addr} {cd : Value} {A : Around} {outer : List Env} {s s1 : Shared} {H : Hp} {E : XK} {us : List Value} {vs : List V}
    (S : FnScope N ps scope) (hd : A.handled = none) (e0 : Env0 P w K mg base A outer s H) (hl : vs.length = ps.length) (r : Vals vs us)
    (x : InCallC s s.heap.objs.size (bindL (envOfC qual scope s.heap.objs.size f cd).kindOf (ps.zip us) fun _ => none) (cellsFrom (s.heap.objs.size + 1) scope.names []) (bindC (envOfC qual scope s.heap.objs.size f cd).kindOf (ps.zip us) fun _ => none) s1) :
    Inv (cxOf CX P w K mg base N qual scope f cd A outer s H E) [] (start N vs) H s1 := by
  have hpl : ps.length ≤ N.length := by have := congrArg List.length S.pre; rw [List.length_take] at this; omega
  obtain ⟨h1, tk, rfl, hk⟩ := x.done
  have noA : ∀ b : Addr, b ∉ (cxOf CX P w K mg base N qual scope f cd A outer s H E).ex := fun b z => absurd (show b ∈ ([] : List Addr) from z) (by simp)
  refine ⟨⟨e0.mod, S.kind, rfl, rfl, Nat.le_refl _, fun y z c h1 h2 => ?_, fun y hy => ?_, fun y c _ h => ?_, fun _ => hd, Around.frames_deeper e0.frames, .inr ⟨rfl, rfl⟩, fun b z => absurd z (noA b), e0.bs, e0.bsz, fun b _ _ => noA b, fun b z => absurd z (noA b), e0.funs, e0.frf⟩,
    rfl, e0.bare, Un.kept hk, ⟨_, x.toInCall.ns, fun i y v h1 h2 h3 => ?_⟩, fun y c h => ⟨_, x.cell y c h⟩, e0.hok.fresh (Nat.le_refl _), fun y c h => ?_, fun p hp => absurd (show p ∈ ([] : List (Addr × Obj)) from hp) (by simp), e0.hok.kept hk, ?_⟩
  · exact name_of_addr x.apart (PySem.mem_of_lookup h1) (PySem.mem_of_lookup h2)
  · have hy : scope.names.lookup y = some .cell ∨ scope.names.lookup y = some .free := hy
    rcases hy with hy | hy
    · exact cell_has hy
    · exact absurd rfl (S.nofree _ (PySem.mem_of_lookup hy))
  · exact Nat.le_of_lt (x.above y c (PySem.mem_of_lookup h))
  · have hi : i < vs.length := by
      unfold start at h2
      by_cases hi : i < vs.length
      · exact hi
      · rw [List.getElem?_append_right (by simpa using hi)] at h2
        rw [List.getElem?_replicate] at h2
        split at h2 <;> cases h2
    have ha : vs[i]? = some v := by
      unfold start at h2
      rw [List.getElem?_append_left (by simpa using hi), List.getElem?_map] at h2
      cases e : vs[i]? with
      | none => rw [e] at h2; cases h2
      | some a => rw [e] at h2; cases h2; rfl
    obtain ⟨u, hu, rv⟩ := r.get ha
    have hp : ps[i]? = some y := by
      rw [← S.pre, List.getElem?_take_of_lt (by omega)]; exact h1
    have ndP : ps.Nodup := by rw [← S.pre]; exact S.nd.sublist (List.take_sublist _ _)
    refine ⟨u, rv, ?_⟩
    rcases S.par y (List.mem_of_getElem? hp) with k | k
    · exact .inl ⟨k, bindL_get ndP hp hu k⟩
    · obtain ⟨c, e⟩ := cell_has (n := s.heap.objs.size + 1) k
      refine .inr ⟨.inl k, c, e, ?_⟩
      have q := x.cell y c e
      rw [bindC_get ndP hp hu (by show scope.names.lookup y ≠ _; rw [k]; decide)] at q
      exact q
  · exact e0.hok.fresh (Nat.le_of_lt (x.above y c (PySem.mem_of_lookup h)))
  · unfold start
    show _ = N.length
    rw [List.length_append, List.length_map, List.length_replicate]
    omega

/-- THE RULE: a def (or a method) of the text, by its body. The body's reading t is chosen for each entry; it is run at the parameters' values -/
theorem fn_of {CX : CXT} {P : Program} {w : World} {K : PySem.W.Frag} {mg : Str → Option Value} {base : Heap} {k : Nat} {f : Addr} {name qual : Str} {params : Arguments} {body : List Stmt} {scope : Scope} {dV kV doc pm cdv ct oc : Value} {an od : Option Addr}
    {osl : Array (Option Value)} {N ps : List Str} {sp : Sp} (lk : K.lookup f = some ⟨oc, od, .func (PySem.W.fnOf name qual params body scope dV kV doc pm an cdv ct), osl⟩) (hcd : PySem.W.codeIn K cdv qual = true) (S : FnScope N ps scope)
    (len : ∀ vs H Q E, sp vs H Q E → vs.length = ps.length)
    (hbody : ∀ (A : Around) (outer : List Env) (s : Shared) (H : Hp) (vs : List V) (Q : VK) (E : XK), Room k (A.deeper (envOfC qual scope s.heap.objs.size f cdv)) → sp vs H Q E →
      ∃ t, PSs (cxOf CX P w K mg base N qual scope f cdv A outer s H E) body t ∧ t { nx := fun _ H' => Q .non H', rt := Q } (start N vs) H) :
    FnOk P w K mg base CX (k + 1) f (PySem.W.fnOf name qual params body scope dV kV doc pm an cdv ct) ps sp := by
  refine ⟨len, fun A outer s H args us vs Q E hr e0 hb r hsp => ?_⟩
  have hl := len _ _ _ _ hsp
  have KX : K.In s.heap := e0.mod.kin.keeps fun b o e => (e0.bs b o e).1
  have lim : s.heap.NoLimit := e0.mod.nolimit.keeps fun b o e => (e0.bs b o e).1
  have hkind : ∀ y ∈ ps.zip us, scope.names.lookup y.1 = some .local ∨ (scope.names.lookup y.1 = some .cell ∧ ((cellsFrom (s.heap.objs.size + 1) scope.names []).lookup y.1).isSome = true) := fun ⟨n, v⟩ hy => by
    rcases S.par n (List.of_mem_zip hy).1 with q | q
    · exact .inl q
    · exact .inr ⟨q, PySem.W.cellsFrom_some _ _ _ (.inl q)⟩
  refine codeAny_call_function hr.depth (KX _ _ lk) rfl S.co S.gen rfl (PySem.W.codeRec_of KX hcd) (hb _ _ _ _ ?_)
  refine wpAny_newFunctionEnv_cells S.kind hkind fun env he s1 x => ?_
  subst he
  refine ⟨lim.keeps x.toInCall.keep, codeAny_func ?_⟩
  obtain ⟨t, ht, hq⟩ := hbody A outer s H vs Q E (hr.deeper _) hsp
  have I : Inv (cxOf CX P w K mg base N qual scope f cdv A outer s H E) [] (start N vs) H s1 := inv_start S hr.hd e0 hl r x
  refine wpAny_mono (ht [] s1 (start N vs) H _ I hq) (fun fl s' hs => ?_) fun e s' hs => hs
  have fin : ∀ {σ' : St} {H' : Hp} {v : V} {u : Value}, Inv (cxOf CX P w K mg base N qual scope f cdv A outer s H E) [] σ' H' s' → RelV v u → Q v H' → CE outer P w H s Q u s' :=
    fun {σ' H' v u} J rv q => ⟨v, H', J.os, J.bare, J.base, J.hok, rv, q⟩
  cases fl with
  | ret u =>
    obtain ⟨v, σ', H', J, rv, q⟩ := hs
    exact fin J rv q
  | next =>
    obtain ⟨σ', H', J, q⟩ := hs
    exact fin (v := V.non) (u := Value.none) J rfl q
  | brk =>
    obtain ⟨_, _, _, q⟩ := hs
    exact False.elim q
  | cont =>
    obtain ⟨_, _, _, q⟩ := hs
    exact False.elim q
end L2

namespace L2
open PySem PySem.Spec PyProof.Rows
section
variable {X : Cx} {x : Str} {p pos : Pos} {e : Expr} {es : List Expr} {t : TA} {id T : String} {r : List V → Hp → VK → Prop}

def tCB (r : List V → Hp → VK → Prop) (t : TA) : TE := fun σ H Q => t σ H fun vs H1 => r vs H1 Q
/-- f(e, ..), f a built-in function -/
theorem pe_callB (hc : CallR X (.builtin id) r) (hg : Gl X x) (hm : X.mg x = none) (hv : bootBuiltins x = some (.builtin id)) (ha : PA X (e :: es) t) (hn : x ≠ "__name__" := by decide) (hdb : (x == ("__debug__" : Str)) = false := by decide)
    (he : starEach (e :: es) X.env = (false, eval e X.env) :: starEach es X.env := by rfl) (hpl : (backTo pos (starEach es X.env)).any (·.1) = false := by rfl) : PE X (.Call (.Name x p) (e :: es) [] pos) (tCB r t) := by
  intro pins s σ H Q I h
  refine wpAny_Call_Name_kw (ld_blt I hg hm hv ?_ hn hdb)
  exact PyProof.Rows.callWith_builtin1 (thn (ha pos pins s σ H _ I h) fun us s1 ⟨vs, H1, I1, r1, q1⟩ => hc pins s1 σ H1 vs us Q I1 r1 q1) he hpl
/-- T(e, ..), T a built-in type -/
theorem pe_callTy (hc : CallR X (.type T) r) (hg : Gl X x) (hm : X.mg x = none) (hv : bootBuiltins x = some (.type T)) (ha : PA X (e :: es) t) (hn : x ≠ "__name__" := by decide) (hdb : (x == ("__debug__" : Str)) = false := by decide)
    (he : starEach (e :: es) X.env = (false, eval e X.env) :: starEach es X.env := by rfl) (hpl : (backTo pos (starEach es X.env)).any (·.1) = false := by rfl) : PE X (.Call (.Name x p) (e :: es) [] pos) (tCB r t) := by
  intro pins s σ H Q I h
  refine wpAny_Call_Name_kw (ld_blt I hg hm hv ?_ hn hdb)
  exact PyProof.Rows.callWith_type1 (thn (ha pos pins s σ H _ I h) fun us s1 ⟨vs, H1, I1, r1, q1⟩ => hc pins s1 σ H1 vs us Q I1 r1 q1) he hpl
end
end L2

namespace HT
open PySem PyProof.Rows

section
open PySem.SeqAt
open PySem.AutoSeq1 (wpAny_loadPart')
open PySem.MeetsSeq PySem.MeetsSeq2 PySem.MeetsSeq3

end

section
variable {prog : Program} {w : World} {A : Around} {E : Value → Shared → Prop} {s : Shared}

/-! ### t[a:b], not the whole -/
/-- a slice's bound as a place among n (d where it is left out) -/
def sIx (n d : Nat) : Option Int → Nat
  | none => d
  | some v => if v < 0 then (v + (n : Int)).toNat else min v.toNat n
theorem sIx_none (n d : Nat) : sIx n d none = d := rfl
theorem sIx_nat (n d k : Nat) : sIx n d (some (k : Int)) = min k n := by
  show (if (k : Int) < 0 then ((k : Int) + (n : Int)).toNat else min (k : Int).toNat n) = min k n
  rw [if_neg (by omega), Int.toNat_natCast]
theorem sIx_le (n d : Nat) (hd : d ≤ n) (o : Option Int) : sIx n d o ≤ n := by
  cases o with
  | none => exact hd
  | some v =>
    show (if v < 0 then (v + (n : Int)).toNat else min v.toNat n) ≤ n
    by_cases hv : v < 0
    · rw [if_pos hv]; omega
    · rw [if_neg hv]; exact Nat.min_le_right _ _
theorem clip_eq (v : Int) (n d : Nat) : (if v < 0 then max (v + (n : Int)) 0 else min v (n : Int)) = ((sIx n d (some v) : Nat) : Int) := by
  show (if v < 0 then max (v + (n : Int)) 0 else min v (n : Int)) = (((if v < 0 then (v + (n : Int)).toNat else min v.toNat n) : Nat) : Int)
  by_cases hv : v < 0
  · simp only [if_pos hv]; omega
  · simp only [if_neg hv]; omega
theorem adjust_gen (lo hi : Option Int) (n : Nat) : Builtin.Slice.sliceAdjust lo hi 1 (n : Int) = (((sIx n 0 lo : Nat) : Int), ((sIx n n hi : Nat) : Int)) := by
  have h1 : ¬ ((1 : Int) < 0) := by omega
  unfold Builtin.Slice.sliceAdjust
  simp only [h1, if_false]
  refine Prod.ext ?_ ?_
  · cases lo with
    | none => rfl
    | some v => exact clip_eq v n 0
  · cases hi with
    | none => rfl
    | some v => exact clip_eq v n n
theorem places_gen (i j : Nat) : Builtin.Slice.slicePlaces (i : Int) (j : Int) 1 = j - i := by
  unfold Builtin.Slice.slicePlaces
  have h1 : (1 : Int) > 0 := by omega
  simp only [h1, if_true, Int.ediv_one]
  split <;> omega
theorem slicePart_ {v : Value} {o : Option Int} {Q : Option Int → Shared → Prop} (p : IsPart v o) (h : Q o s) : wpAny (model prog w) A (Builtin.Slice.slicePartIndex v) Q E s := by
  cases p with
  | none => exact slicePart_none h
  | int i t => exact slicePart_int h
theorem sliceApplied_gen {sl : Addr} {vl vu : Value} {lo hi : Option Int} {n : Nat} {Q : Int × Int × Nat → Shared → Prop} (hs : s.heap.IsSliceOf sl vl vu .none) (pl : IsPart vl lo) (pu : IsPart vu hi)
    (h : Q (((sIx n 0 lo : Nat) : Int), 1, sIx n n hi - sIx n 0 lo) s) : wpAny (model prog w) A (Builtin.Slice.sliceApplied (.ref sl) (pure (n : Int))) Q E s := by
  obtain ⟨os, hos, hcs, hds⟩ := id hs
  unfold Builtin.Slice.sliceApplied Builtin.Slice.sliceFields
  refine wpAny_bind (wpAny_bind (wpAny_field hos hds (x := vl) rfl (wpAny_bind (wpAny_field hos hds (x := vu) rfl (wpAny_bind (wpAny_field hos hds (x := .none) rfl (wpAny_pure ?_)))))))
  refine wpAny_bind (slicePart_none ?_)
  show wpAny _ _ (if ((1 : Int) == 0) = true then _ else _) _ _ s
  rw [if_neg (by decide)]
  refine wpAny_bind (slicePart_ pl (wpAny_bind (slicePart_ pu (wpAny_bind (wpAny_pure ?_)))))
  show wpAny _ _ (match Builtin.Slice.sliceAdjust lo hi 1 (n : Int) with | (lo, hi) => pure (lo, (1 : Int), Builtin.Slice.slicePlaces lo hi 1)) _ _ s
  rw [adjust_gen lo hi n]
  show wpAny _ _ (pure (((sIx n 0 lo : Nat) : Int), (1 : Int), Builtin.Slice.slicePlaces ((sIx n 0 lo : Nat) : Int) ((sIx n n hi : Nat) : Int) 1)) _ _ s
  rw [places_gen]
  exact wpAny_pure h
theorem pick_gen (xs : Array Value) (i k : Nat) : ((List.range k).filterMap fun (m : Nat) => xs[((i : Int) + (m : Int) * 1).toNat]?).toArray = ((xs.toList.drop i).take k).toArray := by
  have e : (fun (m : Nat) => xs[((i : Int) + (m : Int) * 1).toNat]?) = fun m => xs[i + m]? := by
    funext m
    have : ((i : Int) + (m : Int) * 1).toNat = i + m := by omega
    rw [this]
  rw [e]
  have := pick_run xs i k
  rw [List.filterMap_map] at this
  have e2 : ((fun x => xs[x]?) ∘ fun x => i + x) = fun m => xs[i + m]? := rfl
  rw [e2] at this
  rw [this]

theorem getItem_tuple_cut {t sl : Addr} {items : Array Value} {vl vu : Value} {lo hi : Option Int} {Q : Value → Shared → Prop} (ht : IsTup s.heap t items) (hs : s.heap.IsSliceOf sl vl vu .none) (pl : IsPart vl lo) (pu : IsPart vu hi)
    (hw : ¬ (sIx items.size 0 lo = 0 ∧ sIx items.size items.size hi = items.size))
    (h : Q (.ref s.heap.objs.size) { s with heap := s.heap.push { cls := .type "tuple", data := .seq ((items.toList.drop (sIx items.size 0 lo)).take (sIx items.size items.size hi - sIx items.size 0 lo)).toArray } })
    (hsz : items.size ≤ sizeLine) : wpAny (model prog w) A (getItem (.ref t) (.ref sl)) Q E s := by
  have htake : sizeOk (.seq ((items.toList.drop (sIx items.size 0 lo)).take (sIx items.size items.size hi - sIx items.size 0 lo)).toArray) := by
    show ((items.toList.drop (sIx items.size 0 lo)).take (sIx items.size items.size hi - sIx items.size 0 lo)).toArray.size ≤ sizeLine
    rw [List.size_toArray, List.length_take, List.length_drop, Array.length_toList]
    omega
  have hj : sIx items.size items.size hi ≤ items.size := sIx_le _ _ (Nat.le_refl _) hi
  obtain ⟨os, hos, hcs, hds⟩ := id hs
  have hTs : s.TypeIs (.ref sl) "slice" := ⟨os, hos, hcs⟩
  unfold getItem
  try with_reducible refine wpAny_holding ?_
  first | refine wpAny_bind (wpAny_pure ?_) | skip
  refine wpAny_bind (wpAny_sequenceKey ht.typeIs (by decide) ?_)
  refine wpAny_bind (wpAny_callSpecial?_slot (name := Str.ofString "__getitem__") ht.typeIs PyProof.Rows.slot_tuple_getitem
    (wpAny_call_entry PyProof.Rows.slot_tuple_getitem ht.typeIs entry_tuple_getitem ?_ (args_tuple_getitem _ _)))
  show wpAny _ _ (Builtin.Tuple.tupleItemsOf (.ref t) >>= _) _ _ s
  refine wpAny_bind (tupleItemsOf_ ht ?_)
  refine wpAny_bind (wpAny_typeOf hTs ?_)
  rw [if_pos (by decide)]
  refine wpAny_bind (sliceApplied_gen hs pl pu ?_)
  have hno : ¬ ((((sIx items.size 0 lo : Nat) : Int) == 0 && (1 : Int) == 1 && (sIx items.size items.size hi - sIx items.size 0 lo) == items.size) = true) := by
    intro q
    rw [Bool.and_eq_true, Bool.and_eq_true] at q
    have q1 : ((sIx items.size 0 lo : Nat) : Int) = 0 := eq_of_beq q.1.1
    have q2 : sIx items.size items.size hi - sIx items.size 0 lo = items.size := eq_of_beq q.2
    exact hw ⟨by omega, by omega⟩
  show wpAny _ _ (if (((sIx items.size 0 lo : Nat) : Int) == 0 && (1 : Int) == 1 && (sIx items.size items.size hi - sIx items.size 0 lo) == items.size) = true then _ else _) _ _ s
  rw [if_neg hno, pick_gen]
  first
    | exact wpAny_bind (m := Builtin.Tuple.tupleExact _) (wpAny_newObj_type (wpAny_pure ⟨_, rfl, wpAny_pure h⟩) htake)
    | exact wpAny_bind (m := Builtin.Tuple.tupleExact _) (wpAny_newObj_type (wpAny_bind (wpAny_pure (wpAny_pure ⟨_, rfl, wpAny_pure h⟩))) htake)
    | exact wpAny_bind (wpAny_bind (m := Builtin.Tuple.tupleExact _) (wpAny_newObj_type (wpAny_pure (wpAny_pure ⟨_, rfl, wpAny_pure h⟩)) htake))
    | exact wpAny_bind (wpAny_bind (m := Builtin.Tuple.tupleExact _) (wpAny_newObj_type (wpAny_pure ⟨_, rfl, wpAny_pure h⟩) htake))
end
end HT

namespace L2
open PySem PySem.Spec PyProof.Rows

/-! ### the parts of a slice -/
abbrev TO := St → Hp → (Option Int → Hp → Prop) → Prop
/-- a slice's part (left out, or an int) -/
def PO (X : Cx) (e : Option Expr) (t : TO) : Prop :=
  ∀ (pins : List (Addr × Obj)) (s : Shared) (σ : St) (H : Hp) (Q : Option Int → Hp → Prop), Inv X pins σ H s → t σ H Q →
    wpAny (model X.prog X.w) X.A (evalPart e X.env) (fun u s' => ∃ o H', Inv X pins σ H' s' ∧ IsPart u o ∧ Q o H') X.xe s
def tNoPart : TO := fun _ H Q => Q none H
def tPart (t : TE) : TO := fun σ H Q => t σ H fun x H1 => ∃ i, x = .int i ∧ Q (some i) H1

theorem intsAre_of {ns : List Int} : ∀ {us : List Value}, Vals (ns.map V.int) us → IntsAre us ns := by
  induction ns with
  | nil => intro us r; rw [List.map_nil] at r; cases r; exact .nil
  | cons n ns ih =>
    intro us r
    rw [List.map_cons] at r
    cases r with
    | cons r1 r2 =>
      obtain ⟨t, e⟩ := r1
      subst e
      exact .cons n t (ih r2)

section
variable {X : Cx} {e : Expr} {te : TE} {lo hi : Option Expr} {tl th : TO} {pos p2 : Pos}

theorem po_none : PO X none tNoPart := by
  intro pins s σ H Q I h
  rw [evalPart_none]
  exact wpAny_pure ⟨none, H, I, .none, h⟩
theorem po_some (h : PE X e te) : PO X (some e) (tPart te) := by
  intro pins s σ H Q I hw
  rw [evalPart_some]
  refine thn (h pins s σ H _ I hw) fun u s1 ⟨x, H1, I1, r1, q1⟩ => ?_
  obtain ⟨i, rfl, q⟩ := q1
  obtain ⟨t, rfl⟩ := r1
  exact ⟨some i, H1, I1, .int i t, q⟩

/-- what a slice of a value is, by values: the slice object stands at sl -/
def SlR (X : Cx) (r : V → Option Int → Option Int → Hp → VK → Prop) : Prop :=
  ∀ (pins : List (Addr × Obj)) (s : Shared) (σ : St) (H : Hp) (x : V) (v vl vu : Value) (lo hi : Option Int) (sl : Addr) (Q : VK), Inv X pins σ H s → RelV x v → s.heap.IsSliceOf sl vl vu .none → IsPart vl lo → IsPart vu hi → r x lo hi H Q →
    ∃ T id, typeLookup (.type T) "__getitem__" = pure (some (.builtin id)) ∧ s.TypeIs v T ∧ wpAny (model X.prog X.w) X.A (getItem v (.ref sl)) (EP X pins σ Q) X.xe s
def tSl (r : V → Option Int → Option Int → Hp → VK → Prop) (te : TE) (tl th : TO) : TE := fun σ H Q => te σ H fun x H1 => tl σ H1 fun l H2 => th σ H2 fun u H3 => r x l u H3 Q
/-- a[lo:hi], any a -/
theorem pe_slice {r : V → Option Int → Option Int → Hp → VK → Prop} (hr : SlR X r) (he : PE X e te) (hl : PO X lo tl) (hu : PO X hi th) : PE X (.Subscript e (.Slice lo hi none p2) pos) (tSl r te tl th) := by
  intro pins s σ H Q I h
  refine Subscript_ (thn (he pins s σ H _ I h) fun v s1 ⟨x, H1, I1, r1, q1⟩ => ?_)
  refine wpAny_Slice (thn (hl pins s1 σ H1 _ I1 q1) fun vl s2 ⟨l, H2, I2, pl, q2⟩ => thn (hu pins s2 σ H2 _ I2 q2) fun vu s3 ⟨u, H3, I3, pu, q3⟩ => ?_)
  rw [evalPart_none]
  refine wpAny_pure ?_
  have I4 : Inv X pins σ H3 { s3 with heap := s3.heap.push { cls := .type "slice", data := .fields #[vl, vu, .none] } } := I3.kept (t' := s3.toks) fun b ob q => Heap.get?_push_of_some _ q
  obtain ⟨T, id, hT, ht, hg⟩ := hr pins { s3 with heap := s3.heap.push { cls := .type "slice", data := .fields #[vl, vu, .none] } } σ H3 x v vl vu l u s3.heap.objs.size Q I4 r1 (Heap.IsSliceOf.new ..) pl pu q3
  show wpAny (model X.prog X.w) X.A (subscriptTail e (.Slice lo hi none p2) v (.ref s3.heap.objs.size)) (EP X pins σ Q) X.xe { s3 with heap := s3.heap.push { cls := .type "slice", data := .fields #[vl, vu, .none] } }
  exact tail_any (ops := [.ref s3.heap.objs.size, v]) ht hT hg (by with_unfolding_all rfl)

/-- the items of xs[lo:hi] -/
def cutV (xs : List V) (lo hi : Option Int) : List V := (xs.drop (HT.sIx xs.length 0 lo)).take (HT.sIx xs.length xs.length hi - HT.sIx xs.length 0 lo)
theorem cutV_length (xs : List V) (lo hi : Option Int) : (cutV xs lo hi).length ≤ xs.length := by
  unfold cutV
  rw [List.length_take, List.length_drop]
  omega
/-- t[lo:hi], not the whole of it (the whole would be t itself) -/
def rSlT (K : PySem.W.Frag) : V → Option Int → Option Int → Hp → VK → Prop := fun x lo hi H Q => ∃ a xs, x = .ref a ∧ SqT K H a xs ∧
  ¬ (HT.sIx xs.length 0 lo = 0 ∧ HT.sIx xs.length xs.length hi = xs.length) ∧ ∀ p, H p = none → Q (.ref p) (upd H p (.tup (cutV xs lo hi)))
theorem sl_tup : SlR X (rSlT X.K) := by
  intro pins s σ H x v vl vu lo hi sl Q I rx hs pl pu h
  obtain ⟨a, xs, rfl, hx, hw, q⟩ := h
  cases rx
  obtain ⟨its, r, ht, hz⟩ := I.tuple hx
  have hlen : its.toArray.size = xs.length := by rw [List.size_toArray]; exact r.length.symm
  refine ⟨"tuple", _, PyProof.Rows.slot_tuple_getitem.lookup, ht.typeIs, ?_⟩
  refine HT.getItem_tuple_cut ht hs pl pu (by rw [hlen]; exact hw) ?_ (by rw [hlen]; exact hz)
  rw [hlen]
  refine ⟨.ref s.heap.objs.size, _, I.laid (t' := s.toks) (o := .tup (cutV xs lo hi)) (fun b ob q => Heap.get?_push_of_some _ q) (Nat.le_refl _) ?_, rfl, q _ (I.hok.fresh (Nat.le_refl _))⟩
  exact ⟨Nat.le_trans (cutV_length xs lo hi) hz, _, (r.drop (HT.sIx xs.length 0 lo)).take (HT.sIx xs.length xs.length hi - HT.sIx xs.length 0 lo), IsTupN.new _ _⟩

/-! ### t < u, t + u -/
end
end L2

namespace L2
open PySem PySem.Spec PyProof.Rows

/-! ### places -/
/-- the place that an index of any sign means -/
def ixN (n : Nat) (i : Int) : Option Nat := if 0 ≤ i then (if i < n then some i.toNat else none) else if -(n : Int) ≤ i then some (i + n).toNat else none
def atI {α : Type} (xs : List α) (i : Int) : Option α := (ixN xs.length i).bind fun j => xs[j]?
theorem ixN_seq {n : Nat} {i : Int} {j : Nat} (h : ixN n i = some j) : seqIndex? i n = some j ∧ j < n ∧ -(n : Int) ≤ i ∧ i < n := by
  unfold ixN at h
  by_cases h0 : 0 ≤ i
  · rw [if_pos h0] at h
    by_cases h1 : i < n
    · rw [if_pos h1] at h
      have e : i.toNat = j := Option.some.inj h
      exact ⟨by rw [seqIndex_of h0 h1, e], by omega, by omega, h1⟩
    · rw [if_neg h1] at h; cases h
  · rw [if_neg h0] at h
    by_cases h1 : -(n : Int) ≤ i
    · rw [if_pos h1] at h
      have e : (i + n).toNat = j := Option.some.inj h
      exact ⟨by rw [seqIndex_neg (by omega) h1, e], by omega, h1, by omega⟩
    · rw [if_neg h1] at h; cases h
theorem atI_get {α : Type} {xs : List α} {i : Int} {v : α} (h : atI xs i = some v) : ∃ j, seqIndex? i xs.length = some j ∧ xs[j]? = some v ∧ j < xs.length ∧ -(xs.length : Int) ≤ i ∧ i < xs.length := by
  unfold atI at h
  cases e : ixN xs.length i with
  | none => rw [e] at h; cases h
  | some j =>
    rw [e] at h
    obtain ⟨h1, h2, h3, h4⟩ := ixN_seq e
    exact ⟨j, h1, h, h2, h3, h4⟩
theorem atI_nat {α : Type} {xs : List α} {j : Nat} {v : α} (h : xs[j]? = some v) : atI xs (j : Int) = some v := by
  have hj : j < xs.length := (List.getElem?_eq_some_iff.mp h).1
  have e : ixN xs.length (j : Int) = some j := by
    unfold ixN
    rw [if_pos (by omega), if_pos (by omega)]; simp
  unfold atI; rw [e]; exact h
/-! ### what may be subscripted -/
/-- what stands as an index of a plain subscript -/
def PlainIx (b : Expr) : Prop := ∀ o i, subscripted b false o i = operate [o, i] (getItem o i)
/-- a subscript by values -/
def IxR (X : Cx) (r : R2) : Prop :=
  ∀ (value slice : Expr) (pins : List (Addr × Obj)) (s : Shared) (σ : St) (H : Hp) (x y : V) (v u : Value) (Q : VK), Inv X pins σ H s → RelV x v → RelV y u → r x y H Q →
    subscripted slice false v u = operate [v, u] (getItem v u) → wpAny (model X.prog X.w) X.A (subscriptTail value slice v u) (EP X pins σ Q) X.xe s
section
variable {X : Cx} {a b : Expr} {ta tb : TE} {pos : Pos}
/-- a[b] -/
theorem pe_ix {r : R2} (hr : IxR X r) (ha : PE X a ta) (hb : PE X b tb) (hs : PlainIx b) : PE X (.Subscript a b pos) (tOp r ta tb) := by
  intro pins s σ H Q I h
  exact Subscript_ (binT ha hb I h fun v u s2 x y H2 I2 rx ry q => hr a b pins s2 σ H2 x y v u Q I2 rx ry q (hs _ _))

def rIxL (K : PySem.W.Frag) : R2 := fun x y H Q => ∃ p xs i v, x = .ref p ∧ y = .int i ∧ SqL K H p xs ∧ atI xs i = some v ∧ Q v H
def rIxT (K : PySem.W.Frag) : R2 := fun x y H Q => ∃ p xs i v, x = .ref p ∧ y = .int i ∧ SqT K H p xs ∧ atI xs i = some v ∧ Q v H
theorem ix_list : IxR X (rIxL X.K) := by
  intro value slice pins s σ H x y v u Q I rx ry h hs
  obtain ⟨p, xs, i, z, rfl, rfl, hq, he, q⟩ := h
  cases rx
  obtain ⟨t, rfl⟩ := ry
  obtain ⟨its, r, pl, hz⟩ := I.list hq
  obtain ⟨j, h1, h2, h3, h4, h5⟩ := atI_get he
  obtain ⟨w, ew, rw'⟩ := r.get h2
  have hl := r.length
  have hn := line63
  have fin : EP X pins σ Q w s := ⟨z, H, I, rw', q⟩
  by_cases h0 : 0 ≤ i
  · have hj : i.toNat = j := by
      rw [seqIndex_of h0 h5] at h1
      exact Option.some.inj h1
    exact item_listR pl.isList h0 (by omega) (by rw [hj]; simpa using ew) fin hs
  · have hj : (i + (its.toArray.size : Int)).toNat = j := by
      rw [seqIndex_neg (by omega) h4] at h1
      rw [List.size_toArray, ← hl]
      exact Option.some.inj h1
    exact subscriptTail_builtinR (x := w) pl.isList.typeIs slot_list_getitem.lookup
      (wpAny_getItem_list_neg (Q := fun r s' => r = w ∧ EP X pins σ Q r s') pl.isList (by omega) (by rw [List.size_toArray] <;> omega) (by omega) (by rw [hj]; simpa using ew) ⟨rfl, fin⟩) hs
theorem ix_tup : IxR X (rIxT X.K) := by
  intro value slice pins s σ H x y v u Q I rx ry h hs
  obtain ⟨p, xs, i, z, rfl, rfl, hq, he, q⟩ := h
  cases rx
  obtain ⟨t, rfl⟩ := ry
  obtain ⟨its, r, pl, hz⟩ := I.tuple hq
  obtain ⟨j, h1, h2, h3, h4, h5⟩ := atI_get he
  obtain ⟨w, ew, rw'⟩ := r.get h2
  have hl := r.length
  have hn := line63
  have fin : EP X pins σ Q w s := ⟨z, H, I, rw', q⟩
  exact subscriptTail_builtinR (x := w) pl.typeIs slot_tuple_getitem.lookup
    (getItem_tuple (j := j) (Q := fun r s' => r = w ∧ EP X pins σ Q r s') pl (by omega) (by omega) (by rw [List.size_toArray, ← hl]; exact h1) (by simpa using ew) ⟨rfl, fin⟩) hs
/-! ### xs[i] = v, any sign -/
/-- the list's object behind a store -/
theorem mapSeq_set (its : List Value) (n j : Nat) (u : Value) : Obj.mapSeq (·.setIfInBounds j u) { cls := .type "list", data := .seq its.toArray n } = { cls := .type "list", data := .seq (its.set j u).toArray n } := by
  simp [Obj.mapSeq]
theorem Inv.lst {pins : List (Addr × Obj)} {σ : St} {H : Hp} {s : Shared} {p : Addr} {xs : List V} (I : Inv X pins σ H s) (h : H p = some (.lst xs)) :
    ∃ (its : List Value) (n : Nat), Vals xs its ∧ s.heap.get? p = some { cls := .type "list", data := .seq its.toArray n } ∧ xs.length ≤ sizeLine := by
  obtain ⟨z, its, n, r, e⟩ := I.hok p _ h
  exact ⟨its, n, r, e, z⟩
/-- the list at p is written by an update of its object -/
theorem Inv.lstUpd {pins : List (Addr × Obj)} {σ : St} {H : Hp} {s : Shared} {p : Addr} {xs ys : List V} {its its' : List Value} {n n' : Nat} {f : Obj → Obj} (I : Inv X pins σ H s) (h : H p = some (.lst xs))
    (ho : s.heap.get? p = some { cls := .type "list", data := .seq its.toArray n }) (hf : f { cls := .type "list", data := .seq its.toArray n } = { cls := .type "list", data := .seq its'.toArray n' }) (r : Vals ys its') (hz : ys.length ≤ sizeLine) (t : Nat) :
    Inv X pins σ (upd H p (.lst ys)) { s with heap := s.heap.update p f, toks := t } := by
  have e : (s.heap.update p f).get? p = some { cls := .type "list", data := .seq its'.toArray n' } := by
    rw [Heap.get?_update_self f ho (by rw [hf] <;> rfl), hf]
  refine I.write (x := p) (e := p) (by rw [h]; trivial) (.inl rfl) (fun b u hb q => (Heap.get?_update_other _ _ (Ne.symm hb)).trans q) ⟨_, e⟩ ?_
  exact ⟨hz, its', n', r, e⟩
def rSetL : V → V → V → Hp → (Hp → Prop) → Prop := fun o i v H Q => ∃ p xs k j, o = .ref p ∧ i = .int k ∧ H p = some (.lst xs) ∧ ixN xs.length k = some j ∧ Q (upd H p (.lst (xs.set j v)))
theorem set_list : PSet X rSetL := by
  intro pins s σ H o i v ov iv u Q I ro ri rv h
  obtain ⟨p, xs, k, j, rfl, rfl, hp, hj, q⟩ := h
  cases ro
  obtain ⟨t, rfl⟩ := ri
  obtain ⟨its, n, r, ho, hz⟩ := I.lst hp
  obtain ⟨h1, h2, h3, h4⟩ := ixN_seq hj
  have hl := r.length
  have hn := line63
  have I' : Inv X pins σ (upd H p (.lst (xs.set j v))) { s with heap := s.heap.update p (Obj.mapSeq (·.setIfInBounds j u)) } :=
    I.lstUpd hp ho (mapSeq_set its n j u) (r.set rv j) (by rw [List.length_set]; exact hz) s.toks
  by_cases h0 : 0 ≤ k
  · have hk : k.toNat = j := by
      rw [seqIndex_of h0 h4] at h1
      exact Option.some.inj h1
    exact PySem.W.ki_setAt ho h0 (by omega) (by rw [List.size_toArray, ← hl]; exact h4) (by rw [hk]; exact ⟨_, I', q⟩)
  · have hk : (k + (its.toArray.size : Int)).toNat = j := by
      rw [seqIndex_neg (by omega) h3] at h1
      rw [List.size_toArray, ← hl]
      exact Option.some.inj h1
    exact PySem.W.ki_setBack ho (by omega) (by rw [List.size_toArray, ← hl]; exact h3) (by omega) (by rw [hk]; exact ⟨_, I', q⟩)

/-! ### slices -/
theorem slice_bounds (lo hi : Option Int) (n : Nat) : (sliceBounds lo hi none n).1 = ((HT.sIx n 0 lo : Nat) : Int) ∧ (sliceBounds lo hi none n).2.1 = ((HT.sIx n n hi : Nat) : Int) ∧ (sliceBounds lo hi none n).2.2 = 1 := by
  refine ⟨?_, ?_, rfl⟩
  · cases lo with
    | none => simp [sliceBounds, HT.sIx]
    | some i =>
      simp only [sliceBounds, HT.sIx, Option.getD_none, show (1 : Int) > 0 by decide, if_true]
      by_cases h : i < 0
      · simp only [h, if_true] <;> omega
      · simp only [h, if_false] <;> omega
  · cases hi with
    | none => simp [sliceBounds, HT.sIx]
    | some i =>
      simp only [sliceBounds, HT.sIx, Option.getD_none, show (1 : Int) > 0 by decide, if_true]
      by_cases h : i < 0
      · simp only [h, if_true] <;> omega
      · simp only [h, if_false] <;> omega
theorem slicePick_cut (its : List Value) (lo hi : Option Int) : slicePick its.toArray lo hi none = ((its.drop (HT.sIx its.length 0 lo)).take (HT.sIx its.length its.length hi - HT.sIx its.length 0 lo)).toArray := by
  obtain ⟨h1, h2, h3⟩ := slice_bounds lo hi its.toArray.size
  unfold slicePick
  rw [h1, h2, h3]
  simp only [sliceRange_one, pick_run, List.size_toArray] <;> rfl
/-- xs[lo:hi] of a list: a new list -/
def rSlL (K : PySem.W.Frag) : V → Option Int → Option Int → Hp → VK → Prop := fun x lo hi H Q => ∃ a xs, x = .ref a ∧ SqL K H a xs ∧ ∀ p, H p = none → Q (.ref p) (upd H p (.lst (cutV xs lo hi)))
theorem sl_list : SlR X (rSlL X.K) := by
  intro pins s σ H x v vl vu lo hi sl Q I rx hs pl pu h
  obtain ⟨a, xs, rfl, hx, q⟩ := h
  cases rx
  obtain ⟨its, r, ht, hz⟩ := I.list hx
  have hlen := r.length
  refine ⟨"list", _, slot_list_getitem.lookup, ht.isList.typeIs, ?_⟩
  refine wpAny_getItem_list_slice ht.isList hs pl pu .none (by simp) ?_ (by rw [List.size_toArray] <;> omega)
  rw [slicePick_cut, ← hlen]
  refine ⟨.ref s.heap.objs.size, _, I.laid (t' := s.toks) (o := .lst (cutV xs lo hi)) (fun b ob q => Heap.get?_push_of_some _ q) (Nat.le_refl _) ?_, rfl, q _ (I.hok.fresh (Nat.le_refl _))⟩
  exact ⟨Nat.le_trans (cutV_length xs lo hi) hz, _, 0, (r.drop (HT.sIx xs.length 0 lo)).take (HT.sIx xs.length xs.length hi - HT.sIx xs.length 0 lo), Heap.get?_push_size _ rfl⟩

/-! ### in, not in: flat items -/
/-! ### len, list(x), tuple(x) of any list or tuple that is read -/
theorem call_len_seq : CallR X (.builtin "len") (fun xs H Q => ∃ p ys, xs = [.ref p] ∧ (SqL X.K H p ys ∨ SqT X.K H p ys) ∧ Q (.int ys.length) H) := by
  intro pins s σ H xs us Q I r h
  obtain ⟨p, ys, rfl, hq, q⟩ := h
  obtain ⟨u, rfl, rx⟩ := vals1 r
  cases rx
  have hn := line63
  rcases hq with hq | hq
  · obtain ⟨its, r', pl, hz⟩ := I.list hq
    have hlen := r'.length
    exact Calls.call_len_list pl.isList (by simp only [List.size_toArray] <;> omega) ⟨.int ys.length, H, I.tok _, ⟨s.toks + 1, by rw [List.size_toArray, hlen]⟩, q⟩
  · obtain ⟨its, r', pl, hz⟩ := I.tuple hq
    have hlen := r'.length
    exact len_tuple pl (by simp only [List.size_toArray] <;> omega) ⟨.int ys.length, H, I.tok _, ⟨s.toks + 1, by rw [List.size_toArray, hlen]⟩, q⟩
theorem call_list_of : CallR X (.type "list") (fun xs H Q => ∃ p ys, xs = [.ref p] ∧ (SqL X.K H p ys ∨ SqT X.K H p ys) ∧ ∀ l, H l = none → Q (.ref l) (upd H l (.lst ys))) := by
  intro pins s σ H xs us Q I r h
  obtain ⟨p, ys, rfl, hq, q⟩ := h
  obtain ⟨u, rfl, rx⟩ := vals1 r
  cases rx
  have fin : ∀ (its : List Value), Vals ys its → ys.length ≤ sizeLine → ∀ (h' : Heap) (c' : Nat), (∀ b o', s.heap.get? b = some o' → h'.get? b = some o') →
      h'.get? s.heap.objs.size = some { cls := .type "list", dict := none, data := .seq its.toArray c', slots := #[] } → EP X pins σ Q (.ref s.heap.objs.size) { s with heap := h' } := fun its r' hz h' c' kp e =>
    ⟨.ref s.heap.objs.size, _, I.laid (t' := s.toks) kp (Nat.le_refl _) (show ObjOk X.prog X.w _ h' _ (.lst ys) from ⟨hz, its, c', r', e⟩), rfl, q _ (I.hok.fresh (Nat.le_refl _))⟩
  rcases hq with hq | hq
  · obtain ⟨its, r', pl, hz⟩ := I.list hq
    have hlen := r'.length
    obtain ⟨o, ho, hc, n, hd⟩ := pl.isList
    exact call_list_seq p (.inl rfl) ho hc hd (fun h' c' kp e => fin its r' hz h' c' kp e) (by simp only [List.size_toArray] <;> omega)
  · obtain ⟨its, r', pl, hz⟩ := I.tuple hq
    have hlen := r'.length
    obtain ⟨o, ho, hc, n, hd⟩ := pl
    exact call_list_seq p (.inr rfl) ho hc hd (fun h' c' kp e => fin its r' hz h' c' kp e) (by simp only [List.size_toArray] <;> omega)
theorem call_tuple_of : CallR X (.type "tuple") (fun xs H Q => ∃ p ys, xs = [.ref p] ∧ ((SqL X.K H p ys ∧ ∀ l, H l = none → Q (.ref l) (upd H l (.tup ys))) ∨ (SqT X.K H p ys ∧ Q (.ref p) H))) := by
  intro pins s σ H xs us Q I r h
  obtain ⟨p, ys, rfl, h⟩ := h
  obtain ⟨u, rfl, rx⟩ := vals1 r
  cases rx
  rcases h with ⟨hq, q⟩ | ⟨hq, q⟩
  · obtain ⟨its, r', pl, hz⟩ := I.list hq
    have hlen := r'.length
    refine call_tuple_list pl.isList (fun h' kp => ?_) (by simp only [List.size_toArray] <;> omega)
    have I1 : Inv X pins σ H { s with heap := h' } := I.kept (t' := s.toks) kp
    have I2 : Inv X pins σ (upd H h'.objs.size (.tup ys)) { s with heap := h'.push { cls := .type "tuple", data := .seq its.toArray } } :=
      I1.laid (t' := s.toks) (fun b o e => Heap.get?_push_of_some _ e) (Nat.le_refl _) (show ObjOk X.prog X.w _ _ _ (.tup ys) from ⟨hz, its, r', IsTupN.new _ _⟩)
    exact ⟨.ref h'.objs.size, _, I2, rfl, q _ (I1.hok.fresh (Nat.le_refl _))⟩
  · obtain ⟨its, r', pl, hz⟩ := I.tuple hq
    exact call_tuple_same pl ⟨.ref p, H, I, rfl, q⟩

/-! ### the call of a builtin's method: o.m(..) -/
variable {o e : Expr} {es : List Expr} {to : TE} {t : TA} {name : Str} {apos cpos : Pos} {T id : String} {r : V → List V → Hp → VK → Prop}
/- xs.append(e), list.index on a module's tuple .. are MtR facts of 06m -/
end
end L2

namespace L2
open PySem PySem.Spec PyProof.Rows

def MtM (X : Cx) (id : String) (r : V → List V → Hp → VK → Prop) : Prop :=
  ∀ (pins : List (Addr × Obj)) (s : Shared) (σ : St) (H : Hp) (x : V) (xs : List V) (v : Value) (us : List Value) (Q : VK), Inv X pins σ H s → RelV x v → Vals xs us → r x xs H Q →
    wpAny (model X.prog X.w) X.A (call (.builtin id) (v :: us)) (EP X pins σ Q) X.xe s

/-! ### lists of values -/
theorem Vals.one : ∀ {x : V} {us : List Value}, Vals [x] us → ∃ u, us = [u] ∧ RelV x u
  | _, _, .cons r .nil => ⟨_, rfl, r⟩
theorem Vals.reverse {xs : List V} {us : List Value} (h : Vals xs us) : Vals xs.reverse us.reverse := by
  induction h with
  | nil => exact .nil
  | cons r t ih => rw [List.reverse_cons, List.reverse_cons]; exact Vals.append ih (.cons r .nil)
theorem Vals.rep {xs : List V} {us : List Value} (h : Vals xs us) : ∀ k : Nat, Vals (List.replicate k xs).flatten (List.replicate k us).flatten
  | 0 => .nil
  | k + 1 => by
    rw [List.replicate_succ, List.replicate_succ, List.flatten_cons, List.flatten_cons]
    exact Vals.append h (Vals.rep h k)
theorem foldl_rep (its : List Value) : ∀ (k : Nat) (acc : List Value),
    List.foldl (fun x1 x2 => x1 ++ x2) acc.toArray (List.replicate k its.toArray) = (acc ++ (List.replicate k its).flatten).toArray
  | 0, acc => by simp
  | k + 1, acc => by
    have e : acc.toArray ++ its.toArray = (acc ++ its).toArray := by simp
    have e2 : (acc ++ its) ++ (List.replicate k its).flatten = acc ++ (List.replicate (k + 1) its).flatten := by
      rw [List.replicate_succ, List.flatten_cons, List.append_assoc]
    rw [← e2, ← foldl_rep its k (acc ++ its), ← e, List.replicate_succ, List.foldl_cons]

section
variable {X : Cx} {pins : List (Addr × Obj)} {σ : St} {H : Hp} {s : Shared} {l b : Addr} {xs ys zs : List V}

/-! ### the two steps: a tracked list is rewritten, a new list is laid -/
theorem Inv.lset {its its' : List Value} {n : Nat} {f : Array Value → Array Value} {t' : Nat} (I : Inv X pins σ H s) (hH : H l = some (.lst xs))
    (e : s.heap.get? l = some { cls := .type "list", data := .seq its.toArray n }) (hf : f its.toArray = its'.toArray) (hv : Vals ys its') (hz : ys.length ≤ sizeLine) :
    Inv X pins σ (upd H l (.lst ys)) { s with heap := s.heap.update l (Obj.mapSeq f), toks := t' } := by
  have q := PySem.IsL.update e f
  rw [hf] at q
  refine I.write (x := l) (e := l) (by rw [hH]; exact trivial) (.inl rfl) (fun b' u hb hu => (Heap.get?_update_other s.heap (Obj.mapSeq f) (Ne.symm hb)).trans hu) ⟨_, q⟩ ?_
  exact ⟨hz, its', _, hv, q⟩
theorem Inv.lnew {its : List Value} {t' : Nat} (I : Inv X pins σ H s) (hv : Vals ys its) (hz : ys.length ≤ sizeLine) :
    Inv X pins σ (upd H s.heap.objs.size (.lst ys)) { s with heap := s.heap.push { cls := .type "list", data := .seq its.toArray }, toks := t' } :=
  I.laid (fun _ _ q => Heap.get?_push_of_some _ q) (Nat.le_refl _) ⟨hz, its, 0, hv, Heap.get?_push_size _ rfl⟩
theorem Inv.fresh (I : Inv X pins σ H s) : H s.heap.objs.size = none := I.hok.fresh (Nat.le_refl _)
theorem Inv.lstM (I : Inv X pins σ H s) (hH : H l = some (.lst xs)) : xs.length ≤ sizeLine ∧ ∃ (its : List Value) (n : Nat), Vals xs its ∧ xs.length = its.length ∧ s.heap.get? l = some { cls := .type "list", data := .seq its.toArray n } := by
  obtain ⟨z, its, n, r, e⟩ := I.hok l _ hH
  exact ⟨z, its, n, r, r.length, e⟩

theorem notLongL {n : Nat} (h : n ≤ sizeLine) : Builtin.List.listTooLong n = false := by
  unfold Builtin.List.listTooLong
  exact decide_eq_false (by omega)
end

section
variable {X : Cx}

/-! ### methods -/
def rAppend : V → List V → Hp → VK → Prop := fun x vs H Q => ∃ l xs y, x = .ref l ∧ vs = [y] ∧ H l = some (.lst xs) ∧ xs.length < sizeLine ∧ Q .non (upd H l (.lst (xs ++ [y])))
theorem mt_append : MtM X "list.append" rAppend := by
  intro pins s σ H x vs v us Q I rx rv h
  obtain ⟨l, xs, y, rfl, rfl, hH, hz, q⟩ := h
  cases rx
  obtain ⟨u, rfl, ru⟩ := rv.one
  obtain ⟨z, its, n, r, hl, e⟩ := I.lstM hH
  refine call_meets F.slot_list_append ⟨_, e, rfl⟩ F.entry_list_append (F.args_list_append_2 _ _) (PySem.list_append l its.toArray n u (by rw [List.size_toArray]; omega)) ⟨e, ?_⟩
  refine ⟨.non, _, I.lset (its' := its ++ [u]) hH e (by simp) (r.append (.cons ru .nil)) ?_, rfl, q⟩
  rw [List.length_append, List.length_singleton]
  omega

/-! ### list + list, list += list, list * int -/
def rCat : R2 := fun x y H Q => ∃ l b xs zs, x = .ref l ∧ y = .ref b ∧ H l = some (.lst xs) ∧ H b = some (.lst zs) ∧ xs.length + zs.length ≤ sizeLine ∧ ∀ p, H p = none → Q (.ref p) (upd H p (.lst (xs ++ zs)))
theorem op_cat : OpR X (binaryOp .Add) rCat := by
  intro pins s σ H x y v u Q I rx ry h
  obtain ⟨l, b, xs, zs, rfl, rfl, hH, hB, hz, q⟩ := h
  cases rx
  cases ry
  obtain ⟨z, its, n, r, hl, e⟩ := I.lstM hH
  obtain ⟨z2, its2, n2, r2, hl2, e2⟩ := I.lstM hB
  refine PySem.P.add_list e e2 ?_ (by rw [List.size_toArray, List.size_toArray]; omega)
  have ea : its.toArray ++ its2.toArray = (its ++ its2).toArray := by simp
  rw [ea]
  exact ⟨.ref _, _, I.lnew (t' := s.toks) (r.append r2) (by rw [List.length_append]; omega), rfl, q _ I.fresh⟩
/-- a list times an int (a negative one is nothing) -/
def rRep : R2 := fun x y H Q => ∃ l k xs, x = .ref l ∧ y = .int k ∧ H l = some (.lst xs) ∧ -(2 ^ 63) ≤ k ∧ k < 2 ^ 63 ∧ xs.length * k.toNat ≤ sizeLine ∧
  ∀ p, H p = none → Q (.ref p) (upd H p (.lst (List.replicate k.toNat xs).flatten))
theorem len_rep {α : Type} (xs : List α) (k : Nat) : (List.replicate k xs).flatten.length = k * xs.length := by
  induction k with
  | zero => simp
  | succ k ih => rw [List.replicate_succ, List.flatten_cons, List.length_append, ih, Nat.succ_mul, Nat.add_comm]
theorem op_rep : OpR X (binaryOp .Mult) rRep := by
  intro pins s σ H x y v u Q I rx ry h
  obtain ⟨l, k, xs, rfl, rfl, hH, h1, h2, hz, q⟩ := h
  cases rx
  obtain ⟨t, rfl⟩ := ry
  obtain ⟨z, its, n, r, hl, e⟩ := I.lstM hH
  have hlen : its.toArray.size * k.toNat ≤ sizeLine := by rw [List.size_toArray, ← hl]; exact hz
  have hcap : ¬ its.toArray.size * k.toNat > (2 ^ 63 - 1) / 8 := by
    have : (sizeLine : Nat) ≤ (2 ^ 63 - 1) / 8 := by decide
    omega
  have hfit : ¬ (!Builtin.List.listFitsIndex k) = true := by
    rw [fitsIndex_both h1 h2]
    exact Bool.false_ne_true
  have hlong : ¬ Builtin.List.listTooLong (its.toArray.size * k.toNat) = true := by
    rw [notLongL hlen]
    exact Bool.false_ne_true
  have hnew : List.foldl (fun x1 x2 => x1 ++ x2) #[] (List.replicate (if its.toArray.isEmpty = true then 0 else k.toNat) its.toArray) = (List.replicate k.toNat its).flatten.toArray := by
    have f0 : ∀ m : Nat, List.foldl (fun x1 x2 => x1 ++ x2) #[] (List.replicate m its.toArray) = (List.replicate m its).flatten.toArray := fun m => by
      have := foldl_rep its m []
      rw [List.nil_append] at this
      exact this
    rw [f0]
    cases its with
    | nil => simp
    | cons a r' => rw [if_neg (by simp)]
  refine wpAny_binaryOp_repeat_ref (T := "list") (U := "int") (by decide) ⟨_, e, rfl⟩ (fun s' => typeIs_int s' k t) noFill_list_mul F.fills_int_mul F.slot_int_rmul repeat_list F.slot_int_index.lookup
    (call_meets F.slot_int_rmul (typeIs_int s k t) F.entry_int_rmul (F.args_int_rmul_2 _ _) (int___rmul___int_list k t l its.toArray n)
      ⟨e, rfl, ⟨_, e, rfl⟩, call_meets F.slot_list_mul ⟨_, e, rfl⟩ F.entry_list_mul (F.args_list_mul_2 _ _) (AutoListH.list___mul___list_int_3 l its.toArray n k t hfit hcap hlong) ⟨e, ?_⟩⟩)
  rw [hnew]
  exact ⟨.ref _, _, I.lnew (t' := s.toks) (r.rep k.toNat) (by rw [len_rep, Nat.mul_comm]; exact hz), rfl, q _ I.fresh⟩

/-! ### del xs[i] -/
end

/-! ### xs[a:b] = ys -/
section
variable {prog : Program} {w : World} {A : Around} {E : Value → Shared → Prop} {s : Shared}
end

section
variable {X : Cx}
end
end L2
namespace L2
open PySem PySem.Spec PyProof.Rows

/-! ### lists of pairs as tables -/
section
variable {κ : Type} [DecidableEq κ]
end


/-! ### a tracked dict, its keys ints and texts or tuples of these -/
section
variable {P : Program} {w : World} {H : Hp} {h : Heap} {a : Addr}
end

section
variable {X : Cx} {pins : List (Addr × Obj)} {σ : St} {H : Hp} {s : Shared} {a : Addr} {y v : V} {u r : Value} {o : Option V} {A : Around} {E : Value → Shared → Prop}

end

section
variable {X : Cx} {pins : List (Addr × Obj)} {σ : St} {H : Hp} {s : Shared} {a : Addr} {kvs : List (Key × V)} {k : Key} {u : Value} {A : Around} {E : Value → Shared → Prop}
end


/-! ### readings and rules -/
section
variable {X : Cx} {o i e value : Expr} {pos pos' tpos : Pos} {td ty tv : TE}
end


/-! ### displays -/
section
variable {X : Cx} {pos : Pos}
end

/-! ### methods -/
section
variable {X : Cx} {pins : List (Addr × Obj)} {σ : St} {H : Hp} {s : Shared} {a : Addr} {y d : V} {u r : Value} {o : Option V} {A : Around} {E : Value → Shared → Prop}
end

section
variable {X : Cx} {o e f : Expr} {apos cpos : Pos} {td ty tx : TE}
end

/-! ### dict(d): a copy -/
section
variable {X : Cx} {pins : List (Addr × Obj)} {σ : St} {H : Hp} {s : Shared} {a : Addr} {kvs : List (Key × V)} {A : Around} {E : Value → Shared → Prop}
end


section
variable {X : Cx} {pins : List (Addr × Obj)} {σ : St} {H : Hp} {s : Shared} {a : Addr} {y : V} {u : Value} {A : Around} {E : Value → Shared → Prop}
end
end L2

namespace Att
open PySem PySem.W PySem.Calls PyProof.Rows

/-! ### the script -/
theorem ints_of_wellAll {P : Params} {h : Heap} : ∀ (ns : List Int) (vs : List Value), WellAll P h vs (ns.map WData.int) → IntsAre vs ns := by
  intro ns
  induction ns with
  | nil =>
    intro vs w
    rw [List.map_nil] at w
    cases w
    exact .nil
  | cons n ns ih =>
    intro vs w
    rw [List.map_cons] at w
    cases w with
    | cons a b =>
      cases a
      exact .cons _ _ (ih _ b)

theorem script_of {l : OpenLaw} {n : Nat} (hn : l.most = some n) {P : Params} {h : Heap} {args : List WData} {vals : List Value}
    (hpre : l.row.toRowW.claim.pre args = true) (hwl : WellAll P h vals args) :
    ∃ a vs ns, vals = [Value.ref a] ∧ args = [WData.list (ns.map WData.int)] ∧ h.get? a = some { cls := .type "list", data := .seq vs.toArray } ∧ IntsAre vs ns ∧ ns.length ≤ n := by
  have hsh : WShape.hasAll [] args [.list .int] = true := (pre_splitW hpre).1
  have hc : l.pre.holds [] { args := args } = true := (pre_splitW hpre).2
  obtain ⟨d, r, rfl, h1, h2⟩ := hasAllW_cons hsh
  obtain rfl := hasAllW_nil h2
  obtain ⟨xs, rfl, h3⟩ := hasW_list h1
  obtain ⟨ns, rfl⟩ := items_int h3
  have hlen : ns.length ≤ n := by
    unfold OpenLaw.pre at hc
    have h4 : (WTm.not (.lt (.lit (.int (n : Int))) (.len (.arg 0)))).holds [] { args := [.list (ns.map .int)] } = true := by
      have h4 := (holds_andW hc).1
      rw [hn] at h4
      exact h4
    have h5 := condW_of h4 (w_not (w_lt w_lit (w_len_list (w_arg rfl))))
    rw [List.length_map] at h5
    refine Nat.le_of_not_lt fun q => ?_
    have q' : (n : Int) < ((ns.length : Nat) : Int) := by omega
    first
      | (rw [decide_eq_true q'] at h5; exact absurd h5 (by decide))
      | (simp at h5; omega)
  cases hwl with
  | cons w1 w2 =>
    cases w2
    cases w1 with
    | list ho hall => exact ⟨_, _, ns, rfl, rfl, ho, ints_of_wellAll ns _ hall, hlen⟩

theorem post_true (l : OpenLaw) (args : List WData) : l.row.toRowW.claim.post args (.bool true) args = true :=
  postW_of (r := l.row.toRowW) (X := (true == true))
    (show WShape.has [] (.bool true) .bool = true by first | rfl | decide | simp [WShape.has, WShape.arms, WShape.armsAll])
    (show (WTm.eq .res (.lit (.bool true))).value [] { args := args, res := some (.bool true), after := args } = some (.bool (true == true)) from w_eq_bool (w_res rfl) w_lit) rfl

/-! ### the attachment: holds_open's last premise (the goal 'hc' behind k_head) from a wpAny of the law's body -/
/-- the same from a codeAny of the CALL (for a layer whose function contracts speak of calls) -/
theorem attach_call {l : OpenLaw} {n : Nat} {q : Program} {loose : List Str} {XP : (Str → Option Value) → Heap → Prop} {YP : World → Heap → Prop} {d : DefRec}
    (hn : l.most = some n) (hdf : d.params.defaults = [])
    (call : ∀ (w : World) (s₀ s₁ : Shared) (mg mb : Str → Option Value) (fa : Addr) (o : Obj) (pm cd doc : Value) (a : Addr) (vs : List Value) (ns : List Int),
      Ground q loose [] XP w s₀ mg mb s₁.heap → YP w s₁.heap →
      s₁.heap.get? fa = some o → o.data = .func (docDef d.name d.params d.body d.scope pm cd doc) → s₁.heap.CodeRec cd d.name → mg d.name = some (.ref fa) →
      s₁.heap.get? a = some { cls := .type "list", data := .seq vs.toArray } → IntsAre vs ns → ns.length ≤ n → s₁.gens = #[] →
      codeAny (model l.prog w) callerA (.call (.ref fa) ⟨[.ref a], []⟩) (fun r s' => r = .ok (.ret (.bool true)) ∧ OldK s₁.heap s'.heap ∧ s'.os = s₁.os ∧ AllBare s'.gens) s₁) :
    WalkO q loose XP YP l.row.toRowW d [] (fun f vs => PySem.call f vs) := by
  intro w s₀ s₁ mg mb G Y fa o pm cd doc dV kV ho hd hcd hD hmg hg args vals as hpre hlay hrd hwl hlo
  obtain rfl : dV = .none := Dflts.none hD hdf
  obtain rfl : kV = .none := Dflts.noKw hD
  obtain ⟨a, vs, ns, rfl, rfl, hobj, hints, hlen⟩ := script_of hn hpre hwl
  refine enter_call (codeAny_mono (call w s₀ s₁ mg mb fa o pm cd doc a vs ns G Y ho (fd_plain hd) hcd hmg hobj hints hlen hg) fun r s' hq => ?_)
  obtain ⟨rfl, h2, h3, h4⟩ := hq
  exact ⟨.inl ⟨.bool true, .bool true, [], rfl, fun _ => rfl, .bool true, post_true l _, fun _ => ⟨List.Pairwise.nil, fun _ hm => (nomatch hm)⟩⟩, h2, h3, h4⟩

/-! ### rules over ANY heap (no ledger) from facts about the written part K: the library's own take a ledger (News) for what they write -/
section
variable {prog : Program} {w : World} {A : Around} {E : Value → Shared → Prop} {s : Shared} {K : Frag}

/-! the whole heap as the ledger: makes every rule that writes through a ledger a rule over any heap -/
end
end Att

namespace L2
open PySem PySem.Spec PyProof.Rows

theorem vals_ints : ∀ {vs : List Value} {ns : List Int}, IntsAre vs ns → Vals (ns.map V.int) vs
  | _, _, .nil => .nil
  | _, _, .cons n t h => .cons ⟨t, rfl⟩ (vals_ints h)

/-- nothing is tracked but the script, known to the object (or it is an object of the module) -/
def Only (H : Hp) : Prop := ∀ b, H b = none ∨ ∃ o xs, H b = some (.frz o (.lst xs))

/-- THE HEAD: the law's promise, at the heap behind the top. F, the promise of the law's def, may use that base is part of the heap (so K.In base, base.Ns mainGlobals mg stand in Mod) -/
theorem law_call {P : Program} {w : World} {K : PySem.W.Frag} {mg mb : Str → Option Value} {CX : CXT} {k : Nat} {fa a : Addr} {fd : FuncData} {x : Str} {sp : Sp} {s₁ : Shared} {vs : List Value} {ns : List Int}
    (KX : K.In s₁.heap) (hns : s₁.heap.Ns mainGlobals mg) (hb : s₁.heap.Ns builtinsNs mb) (hbb : ∀ x : Str, x ≠ "__name__" → mb x = bootBuiltins x) (hlim : s₁.heap.NoLimit) (hg : s₁.gens = #[])
    (ha : s₁.heap.get? a = some { cls := .type "list", data := .seq vs.toArray }) (hi : IntsAre vs ns) (hl : ns.length ≤ sizeLine) (hr : Room k callerA)
    (F : ∀ base : Heap, K.In base → base.Ns mainGlobals mg → FnOk P w K mg base CX k fa fd [x] sp) (hbind : ∀ (s : Shared) (u : Value), BindsTo s fd ⟨[u], []⟩ [(x, u)])
    (hsp : ∀ H : Hp, Only H → SqL K H a (ns.map V.int) → sp [.ref a] H (fun v _ => v = .bl true) fun _ _ _ => False)
    (hCX : ∀ H e s', CX [] H s₁ (fun _ _ _ => False) e s' → False) :
    codeAny (model P w) callerA (.call (.ref fa) ⟨[.ref a], []⟩) (fun r s' => r = .ok (.ret (.bool true)) ∧ OldK s₁.heap s'.heap ∧ s'.os = s₁.os ∧ AllBare s'.gens) s₁ := by
  have rv := vals_ints hi
  have lenV := hi.length
  -- from an abstract heap in which nothing but the script may be tracked
  have core : ∀ H : Hp, Only H → SqL K H a (ns.map V.int) → HOk P w H s₁.heap → (∀ b, H b ≠ none → b = a) → (H a ≠ none → K.lookup a = none) →
      codeAny (model P w) callerA (.call (.ref fa) ⟨[.ref a], []⟩) (fun r s' => r = .ok (.ret (.bool true)) ∧ OldK s₁.heap s'.heap ∧ s'.os = s₁.os ∧ AllBare s'.gens) s₁ := by
    intro H hO hS hok hA hK
    have base_of : ∀ {b : Addr} {o : Obj}, s₁.heap.get? b = some o → H b = none → (hidT s₁.heap H).get? b = some o := fun e n => hidT_get e n
    have noA : ∀ {b : Addr} {o : Obj} {es : Array DictEntry} {ep : Nat}, s₁.heap.get? b = some o → o.data = .dict es ep → H b = none := fun {b o es ep} e d => by
      cases q : H b with
      | none => rfl
      | some u =>
        have e' : b = a := hA b (by rw [q]; simp)
        subst e'
        rw [ha] at e; cases e
        have d' : Data.seq vs.toArray _ = Data.dict es ep := d
        cases d'
    have nsK : ∀ {b : Addr} {m : Str → Option Value}, s₁.heap.Ns b m → (hidT s₁.heap H).Ns b m := fun {b m} ⟨o, es, ep, e, d, r⟩ => ⟨o, es, ep, base_of e (noA e d), d, r⟩
    have hKb : K.In (hidT s₁.heap H) := fun b o e => base_of (KX b o e) (by
      cases q : H b with
      | none => rfl
      | some u =>
        have e' : b = a := hA b (by rw [q]; simp)
        subst e'
        rw [hK (by rw [q]; simp)] at e; cases e)
    have hM : Mod K mg (hidT s₁.heap H) := ⟨hKb, nsK hns, ⟨mb, nsK hb, hbb⟩, let ⟨mc, h1, h2⟩ := hlim; ⟨mc, nsK h1, h2⟩⟩
    have e0 : Env0 P w K mg (hidT s₁.heap H) callerA [] s₁ H := ⟨rfl, hM, fun b o e => of_hidT e, Nat.le_of_eq (hidT_size _ _), trivial, fun b hb => absurd (show b ∈ ([] : List Addr) from hb) (by simp), hok, .of_eq hg⟩
    refine codeAny_mono ((F _ hKb (nsK hns)).run callerA [] s₁ H ⟨[.ref a], []⟩ [.ref a] [.ref a] _ _ hr e0 (hbind s₁ (.ref a)) (.cons rfl .nil) (hsp H hO hS)) fun r s' h => ?_
    cases r with
    | error e => exact (hCX H e s' h).elim
    | ok fl =>
      cases fl with
      | next => exact False.elim h
      | brk => exact False.elim h
      | cont => exact False.elim h
      | ret u =>
        obtain ⟨v, H', os, bare, un, hok', r', q⟩ := h
        have q' : v = .bl true := q
        subst q'
        obtain rfl : u = Value.bool true := r'
        refine ⟨rfl, OldK.of_keep fun b o e => ?_, os, bare⟩
        cases q : H b with
        | none => exact un.keep b o e q (by intro z; exact absurd (show b ∈ ([] : List Addr) from z) (by simp)) (by simp)
        | some u =>
          rcases hO b with z | ⟨ob, xs, z⟩
          · rw [q] at z; cases z
          · have z2 := un.frzs b ob _ z
            obtain ⟨e1, _⟩ := hok b _ z
            obtain ⟨e2, _⟩ := hok' b _ z2
            rw [e] at e1; cases e1
            exact e2
  cases hk : K.lookup a with
  | some o =>
    -- the script is one of the module's own objects
    have e := KX a o hk
    rw [ha] at e
    cases e
    refine core (fun _ => none) (fun _ => .inl rfl) (.inr ⟨_, vs.toArray, _, hk, rfl, rfl, rfl, by rw [List.size_toArray, lenV]; exact hl, by simpa using rv⟩) (fun b u z => by have z' : (none : Option HO) = some u := z; cases z') (fun b z => absurd rfl z) fun z => absurd rfl z
  | none =>
    refine core (fun b => if b = a then some (.frz { cls := .type "list", data := .seq vs.toArray } (.lst (ns.map V.int))) else none) (fun b => ?_) (.inl (.inr ⟨{ cls := .type "list", data := .seq vs.toArray }, if_pos rfl⟩)) (fun b u z => ?_) (fun b z => ?_) fun _ => hk
    · by_cases hb : b = a
      · exact .inr ⟨_, _, if_pos hb⟩
      · exact .inl (if_neg hb)
    · by_cases hb : b = a
      · have z' := (if_pos hb).symm.trans z
        cases z'
        subst hb
        exact ⟨ha, by rw [List.length_map]; exact hl, vs, _, rv, ha⟩
      · have z' := (if_neg hb).symm.trans z
        cases z'
    · by_cases hb : b = a
      · exact hb
      · exact absurd (if_neg hb) z
end L2

namespace L2
open PySem PySem.Spec PyProof.Rows

abbrev KOf {K : PySem.W.Frag} {h : Heap} (_ : K.In h) : PySem.W.Frag := K

/-- the goal that k_head leaves (case hc), from the law's promise. F gives the function object fd (K's own) once, then the promise over every base -/
theorem walk_of {l : PySem.W.OpenLaw} {n k : Nat} {q : Program} {loose : List Str} {XP : (Str → Option Value) → Heap → Prop} {YP : World → Heap → Prop} {d : DefRec} {K : Params → PySem.W.Frag} {CX : World → CXT} {sp : World → Sp} {x : Str}
    (hn : l.most = some n) (hn2 : n ≤ sizeLine) (hdf : d.params.defaults = []) (hr : Room k callerA)
    (hY : ∀ (w : World) (h : Heap), YP w h → (K w.params).In h)
    (F : ∀ (w : World) (mg : Str → Option Value) (fa : Addr) (h : Heap), (K w.params).In h → h.Ns mainGlobals mg → mg d.name = some (.ref fa) →
      ∃ fd : FuncData, (∀ (s : Shared) (u : Value), BindsTo s fd ⟨[u], []⟩ [(x, u)]) ∧
        ∀ base : Heap, (K w.params).In base → base.Ns mainGlobals mg → FnOk l.prog w (K w.params) mg base (CX w) k fa fd [x] (sp w))
    (hsp : ∀ (w : World) (H : Hp) (a : Addr) (ns : List Int), ns.length ≤ n → Only H → SqL (K w.params) H a (ns.map V.int) → sp w [.ref a] H (fun v _ => v = .bl true) fun _ _ _ => False)
    (hCX : ∀ (w : World) (H : Hp) (s : Shared) (e : Value) (s' : Shared), CX w [] H s (fun _ _ _ => False) e s' → False) :
    PySem.W.WalkO q loose XP YP l.row.toRowW d [] (fun f vs => PySem.call f vs) := by
  refine Att.attach_call hn hdf fun w s₀ s₁ mg mb fa o pm cd doc a vs ns G Y ho hd hcd hmg hobj hints hlen hg => ?_
  have KX := hY w _ Y
  obtain ⟨fd, hb, hF⟩ := F w mg fa _ KX G.T.g hmg
  exact law_call KX G.T.g G.T.b G.T.builtins G.T.nolimit hg hobj hints (Nat.le_trans hlen hn2) hr hF hb (fun H hO hS => hsp w H a ns hlen hO hS) fun H e s' => hCX w H s₁ e s'
end L2

/- THE LAST THEOREM (shape; LID, My.* are yours):
   My.Adr: a structure of the addresses that your layer names (classes, functions); My.Txt K t: a structure (Prop) of the equations over K;
   My.txt_mk : {K} {implicit addresses ..} (e1 : nsIn K mainGlobals "law" = some (some (.ref f))) (e2 : K.lookup f = some ⟨oc, od, .func (fnOf "law" "law" params body scope dV kV doc pm an cdv ct), sl⟩) (e3 : codeIn K cdv "law" = true) .. : ∃ t, My.Txt K t

(the tactic k_is has no namespace: write k_is) -/

/-! SHORT WORDS over the layer: a def of the text, its body, what a loop and a test want. -/
namespace L2
open PySem PySem.Spec PyProof.Rows

/-! ### the text by places -/
def defArgs (s : Stmt) : Arguments := match s with
  | .FunctionDef _ a _ _ _ _ _ _ _ _ => a
  | _ => { posonlyargs := [], args := [], vararg := none, kwonlyargs := [], kw_defaults := [], kwarg := none, defaults := [] }
def defBody (s : Stmt) : List Stmt := match s with
  | .FunctionDef _ _ b _ _ _ _ _ _ _ => b
  | _ => []
def defScope (s : Stmt) : Scope := match s with
  | .FunctionDef _ _ _ _ _ _ sc _ _ _ => sc
  | _ => { kind := .function, names := [], isGenerator := false, isCoroutine := false }

/-! ### no exception leaves a def -/
abbrev CX0 : CXT := fun _ _ _ _ _ _ => False
abbrev E0 : XK := fun _ _ _ => False
theorem pass0 {X : Cx} : Passes CX0 X E0 := fun _ _ _ _ _ _ _ h => h.elim

/-! ### a def (or method) of the text as it stands behind the top -/
structure Fun (K : PySem.W.Frag) (x qual : Str) (st : Stmt) (f : Addr) (fd : FuncData) : Prop where
  ex : ∃ (oc : Value) (od : Option Addr) (kV doc pm : Value) (an : Option Addr) (cdv ct : Value) (osl : Array (Option Value)),
    fd = PySem.W.fnOf x qual (defArgs st) (defBody st) (defScope st) .none kV doc pm an cdv ct ∧ K.lookup f = some ⟨oc, od, .func fd, osl⟩ ∧ PySem.W.codeIn K cdv qual = true
  kp : PySem.W.keepIn K (.ref f) = true
section
variable {P : Program} {w : World} {K : PySem.W.Frag} {mg : Str → Option Value} {base : Heap}
/-- THE RULE for a def: its body as a term of rules, and the reading of that term -/
theorem Fun.ok {x qual : Str} {st : Stmt} {f : Addr} {fd : FuncData} {N ps : List Str} {k : Nat} {sp : Sp} (F : Fun K x qual st f fd) (S : FnScope N ps (defScope st)) (len : ∀ vs H Q E, sp vs H Q E → vs.length = ps.length)
    (hbody : ∀ (cdv : Value) (A : Around) (outer : List Env) (s : Shared) (H : Hp) (vs : List V) (Q : VK) (E : XK), Room k (A.deeper (envOfC qual (defScope st) s.heap.objs.size f cdv)) → sp vs H Q E →
      ∃ t, PSs (cxOf CX0 P w K mg base N qual (defScope st) f cdv A outer s H E).nox (defBody st) t ∧ t { nx := fun _ H' => Q .non H', rt := Q } (start N vs) H) : FnOk P w K mg base CX0 (k + 1) f fd ps sp := by
  obtain ⟨oc, od, kV, doc, pm, an, cdv, ct, osl, rfl, lk, hcd⟩ := F.ex
  refine fn_of lk hcd S len fun A outer s H vs Q E hr hsp => ?_
  obtain ⟨t, h, q⟩ := hbody cdv A outer s H vs Q E hr hsp
  exact ⟨t, h.nox, q⟩
/-- how its arguments bind (no defaults): h is «fun _ _ _ _ _ _ us hl => match us, hl with | [_, _], _ => rfl», one _ a parameter -/
theorem Fun.binds {x qual : Str} {st : Stmt} {f : Addr} {fd : FuncData} {ps : List Str} (F : Fun K x qual st f fd)
    (h : ∀ (kV doc pm : Value) (an : Option Addr) (cdv ct : Value) (us : List Value), us.length = ps.length → bindArgs (PySem.W.fnOf x qual (defArgs st) (defBody st) (defScope st) .none kV doc pm an cdv ct) ⟨us, []⟩ = pure (ps.zip us)) : Binds K fd ps [] := by
  obtain ⟨oc, od, kV, doc, pm, an, cdv, ct, osl, rfl, lk, hcd⟩ := F.ex
  exact .all (h kV doc pm an cdv ct)
theorem fun_mk {x qual : Str} {st : Stmt} {f : Addr} {oc : Value} {od an : Option Addr} {osl : Array (Option Value)} {kV doc pm cdv ct : Value} (l : K.lookup f = some ⟨oc, od, .func (PySem.W.fnOf x qual (defArgs st) (defBody st) (defScope st) .none kV doc pm an cdv ct), osl⟩)
    (c : PySem.W.codeIn K cdv qual = true) (k : PySem.W.keepIn K (.ref f) = true) : Fun K x qual st f (PySem.W.fnOf x qual (defArgs st) (defBody st) (defScope st) .none kV doc pm an cdv ct) := ⟨⟨oc, od, kV, doc, pm, an, cdv, ct, osl, rfl, l, c⟩, k⟩
end
/-! ### expressions in short: the name that stands in the i-th slot -/
section
variable {X : Cx}
theorem pv (i : Nat) {x : Str} {pos : Pos} (hN : X.N[i]? = some x := by rfl) (hv : Vis X.env.scope x := by first | exact Or.inl rfl | exact Or.inr (Or.inl rfl) | exact Or.inr (Or.inr rfl)) (hd : (x == ("__debug__" : Str)) = false := by decide)
    (hcd : (x == ("__classdict__" : Str)) = false := by decide) : PE X (.Name x pos) (tVar i) := pe_var hN hv hd hcd
end

/-! ### tests -/
theorem iteF {A B : Prop} (h : B) : if false = true then A else B := by
  rw [if_neg Bool.false_ne_true]
  exact h
theorem iteT {A B : Prop} (h : A) : if true = true then A else B := by
  rw [if_pos rfl]
  exact h
theorem ite2 {c A B : Prop} [Decidable c] (h1 : c → A) (h2 : ¬ c → B) : if c then A else B := by
  by_cases h : c
  · rw [if_pos h]
    exact h1 h
  · rw [if_neg h]
    exact h2 h
theorem iteNS {c A B : Prop} [Decidable c] (hc : c) (h : B) : if (!decide c) = true then A else B := by
  rw [decide_eq_true hc]
  exact iteF h

/-! ### heaps -/
/-- all that was tracked is as it was -/
def Same (H H' : Hp) : Prop := ∀ b o, H b = some o → H' b = some o
theorem Same.refl (H : Hp) : Same H H := fun _ _ h => h
theorem Same.trans {H H1 H2 : Hp} (a : Same H H1) (b : Same H1 H2) : Same H H2 := fun c o h => b c o (a c o h)
theorem Same.seq {K : PySem.W.Frag} {H H' : Hp} {a : Addr} {xs : List V} (e : Same H H') (h : SqL K H a xs) : SqL K H' a xs := by
  rcases h with (h | ⟨o, h⟩) | h
  · exact .inl (.inl (e _ _ h))
  · exact .inl (.inr ⟨o, e _ _ h⟩)
  · exact .inr h

end L2

namespace L2
open PySem PySem.Spec PyProof.Rows
section
variable {X : Cx}
end
/-! ### a dict's pairs: keys that differ -/
section
variable {κ : Type} [DecidableEq κ]
end

end L2

set_option Elab.async false
set_option linter.all false
set_option maxRecDepth 100000
set_option maxHeartbeats 4000000
namespace L2
open PySem PySem.Spec PyProof.Rows
abbrev Bt (n : Nat) (i : Int) : Prop := Builtin.Int.intBits i ≤ n
theorem Bt.mono {m n : Nat} {i : Int} (h : Bt m i) (l : m ≤ n) : Bt n i := Nat.le_trans h l
theorem Bt.log {n : Nat} {i : Int} (h : Bt n i) (l : n ≤ 8999) : i.natAbs.log2 < 9000 := by
  have h1 := intBits_le_iff.mp h
  by_cases z : i.natAbs = 0
  · rw [z]; decide
  · exact Nat.lt_of_lt_of_le ((Nat.log2_lt z).mpr h1) (by omega)
theorem Bt.neg {n : Nat} {i : Int} (h : Bt n i) : Bt n (-i) := intBits_neg_le h
theorem Bt.mul {m n : Nat} {i j : Int} (h : Bt m i) (h' : Bt n j) : Bt (m + n) (i * j) := intBits_mul_le h h'
theorem Bt.of_le {n : Nat} {i j : Int} (h : Bt n j) (l : i.natAbs ≤ j.natAbs) : Bt n i := intBits_le_of_natAbs l h
theorem Bt.of_lt {n : Nat} {i : Int} (l : i.natAbs < 2 ^ n) : Bt n i := intBits_le_iff.mpr l
section
variable {X : Cx}
def CMulB (i j : Int) : Prop := Bt 20000 i ∧ Bt 20000 j
theorem op_mulB : OpR X (binaryOp .Mult) (rI CMulB fun i j => .int (i * j)) := opI fun _ _ _ _ _ _ _ hc q => mul_int q (IntMulOk.of_le hc.1 hc.2 (by decide))
def CDivB (i j : Int) : Prop := 0 < j ∧ Bt 8000 j
theorem op_fdivB : OpR X (binaryOp .FloorDiv) (rI CDivB fun i j => .int (i / j)) := opI fun i j _ _ _ _ _ hc q => by
  refine floordiv_int (by have := hc.1; omega) ?_ (.inl (PyProof.noPylong_of_log2 (hc.2.log (by decide))))
  rw [Int.fdiv_eq_ediv_of_nonneg i (Int.le_of_lt hc.1)]
  exact q
theorem getD_of {α : Type} {xs : List α} {d : α} {j : Nat} (h : j < xs.length) : xs.getD j d = xs[j] := by
  rw [List.getD_eq_getElem?_getD, List.getElem?_eq_getElem h]; rfl
end
end L2

set_option Elab.async false
set_option linter.all false
set_option maxRecDepth 100000
set_option maxHeartbeats 4000000
namespace L2
open PySem PySem.Spec PyProof.Rows
section
variable {X : Cx}
example (K : PySem.W.Frag) : PySem.W.kitOne K (.type "int") (.type "bool") = some false := by rfl
example (K : PySem.W.Frag) : PySem.W.kitOne K (.type "tuple") (.type "tuple") = some true := by rfl
example (K : PySem.W.Frag) : PySem.W.kitOne K (.type "int") (.type "int") = some true := by rfl
end
/-- a def that may be called by its name -/
structure Cal (P : Program) (w : World) (K : PySem.W.Frag) (mg : Str → Option Value) (base : Heap) (x : Str) (ps : List Str) (k : Nat) (sp : Sp) : Prop where
  ex : ∃ f fd, FnOk P w K mg base CX0 k f fd ps sp ∧ mg x = some (.ref f) ∧ PySem.W.keepIn K (.ref f) = true ∧ Binds K fd ps []
structure FunAt (K : PySem.W.Frag) (mg : Str → Option Value) (x : Str) (ps : List Str) (st : Stmt) : Prop where
  ex : ∃ f fd, Fun K x x st f fd ∧ mg x = some (.ref f) ∧ Binds K fd ps []
theorem Cal.mono {P : Program} {w : World} {K : PySem.W.Frag} {mg : Str → Option Value} {base : Heap} {x : Str} {ps : List Str} {j k : Nat} {sp : Sp} (c : Cal P w K mg base x ps j sp) (h : j ≤ k) : Cal P w K mg base x ps k sp :=
  let ⟨f, fd, F, r⟩ := c.ex
  ⟨f, fd, F.mono h, r⟩
theorem FunAt.cal {P : Program} {w : World} {K : PySem.W.Frag} {mg : Str → Option Value} {base : Heap} {x : Str} {ps N : List Str} {st : Stmt} {k : Nat} {sp : Sp} (F : FunAt K mg x ps st) (S : FnScope N ps (defScope st)) (len : ∀ vs H Q E, sp vs H Q E → vs.length = ps.length)
    (hbody : ∀ (f : Addr) (cdv : Value) (A : Around) (outer : List Env) (s : Shared) (H : Hp) (vs : List V) (Q : VK) (E : XK), Room k (A.deeper (envOfC x (defScope st) s.heap.objs.size f cdv)) → sp vs H Q E →
      ∃ t, PSs (cxOf CX0 P w K mg base N x (defScope st) f cdv A outer s H E).nox (defBody st) t ∧ t { nx := fun _ H' => Q .non H', rt := Q } (start N vs) H) : Cal P w K mg base x ps (k + 1) sp := by
  obtain ⟨f, fd, F1, m, b⟩ := F.ex
  exact ⟨f, fd, F1.ok S len (hbody f), m, F1.kp, b⟩
section
variable {X : Cx} {x : Str} {ps : List Str} {k : Nat} {sp : Sp} {e : Expr} {es : List Expr} {t : TA} {p pos : Pos}
theorem cc (c : Cal X.prog X.w X.K X.mg X.base x ps k sp) (hr : Room k X.A) (ha : PA X (e :: es) t) (hg : Gl X x := by rfl) (hd : (x == ("__debug__" : Str)) = false := by decide)
    (hs : starEach (e :: es) X.env = (false, eval e X.env) :: starEach es X.env := by rfl) (hp : (backTo pos (starEach es X.env)).any (·.1) = false := by rfl) : PE X (.Call (.Name x p) (e :: es) [] pos) (tCall sp [] E0 t) := by
  obtain ⟨f, fd, F, m, kp, b⟩ := c.ex
  exact pe_call F hr hg m kp b .nil pass0 ha hd hs hp
end
theorem funAt_mk {K : PySem.W.Frag} {h : Heap} {mg : Str → Option Value} {x : Str} {ps : List Str} {st : Stmt} {f : Addr} {oc : Value} {od an : Option Addr} {osl : Array (Option Value)} {kV doc pm cdv ct : Value} (X : K.In h) (G : h.Ns mainGlobals mg)
    (hb : ∀ (kV doc pm : Value) (an : Option Addr) (cdv ct : Value) (us : List Value), us.length = ps.length → bindArgs (PySem.W.fnOf x x (defArgs st) (defBody st) (defScope st) .none kV doc pm an cdv ct) ⟨us, []⟩ = pure (ps.zip us))
    (a : PySem.W.nsIn K mainGlobals x = some (some (.ref f))) (l : K.lookup f = some ⟨oc, od, .func (PySem.W.fnOf x x (defArgs st) (defBody st) (defScope st) .none kV doc pm an cdv ct), osl⟩)
    (c : PySem.W.codeIn K cdv x = true) (k : PySem.W.keepIn K (.ref f) = true) : FunAt K mg x ps st :=
  let F := fun_mk (st := st) l c k
  ⟨f, _, F, PySem.W.mg_of X G a, F.binds hb⟩

theorem bt_abs : bootBuiltins "abs" = some (.builtin "abs") := by decide +kernel
theorem bt_len : bootBuiltins "len" = some (.builtin "len") := by decide +kernel
theorem bt_isinstance : bootBuiltins "isinstance" = some (.builtin "isinstance") := by decide +kernel
theorem bt_tuple : bootBuiltins "tuple" = some (.type "tuple") := by decide +kernel
theorem bt_list : bootBuiltins "list" = some (.type "list") := by decide +kernel
/-! ### shares in the heap -/
open MA
def ShAt (H : Hp) (v : V) (q : Rat) : Prop := ∃ p, v = .ref p ∧ H p = some (.tup [.int q.num, .int (q.den : Int)])
def SB (n : Nat) (q : Rat) : Prop := Bt n q.num ∧ Bt n (q.den : Int)
theorem same_new {H : Hp} {p : Addr} (h : H p = none) (o : HO) : Same H (upd H p o) := fun b u q => by rw [upd_ne (ne_of_none q h)]; exact q
theorem ShAt.same {H H' : Hp} {v : V} {q : Rat} (h : ShAt H v q) (s : Same H H') : ShAt H' v q := let ⟨p, e, h⟩ := h; ⟨p, e, s _ _ h⟩
theorem SB.mono {m n : Nat} {q : Rat} (h : SB m q) (l : m ≤ n) : SB n q := ⟨h.1.mono l, h.2.mono l⟩
theorem SB.neg {n : Nat} {q : Rat} (h : SB n q) : SB n (-q) := ⟨h.1.neg, h.2⟩
theorem Bt.ediv {n : Nat} {i c : Int} (h : Bt n i) (hc : 0 < c) : Bt n (i / c) := by
  rw [← Int.fdiv_eq_ediv_of_nonneg i (Int.le_of_lt hc)]; exact intBits_fdiv_le h
theorem Bt.gl {n : Nat} {a b : Int} (h : Bt n a) (ha : a ≠ 0) : Bt n (gI a b) :=
  h.of_le (Nat.le_of_dvd (by omega) (Int.natAbs_dvd_natAbs.mpr (gI_dvd_left a b)))
theorem Bt.gr {n : Nat} {a b : Int} (h : Bt n b) (hb : b ≠ 0) : Bt n (gI a b) := by rw [gI_comm]; exact h.gl hb
theorem Bt.addI {m : Nat} {i j : Int} (h : Bt m i) (h' : Bt m j) : Bt (m + 1) (i + j) := by
  have := intBits_add_le h h'; rw [Nat.max_self] at this; exact this
theorem SB.divInt {n : Nat} {t b : Int} (ht : Bt n t) (hb : Bt n b) (h0 : 0 < b) : SB n (Rat.divInt t b) := by
  have e := share_pos (t := t) h0
  have g := gI_pos_right (a := t) (b := b) (by omega)
  exact ⟨by rw [← e.1]; exact ht.ediv g, by rw [← e.2]; exact hb.ediv g⟩
theorem den_ne (q : Rat) : (q.den : Int) ≠ 0 := by have := den_pos q; omega
theorem den_mul_pos (q r : Rat) : 0 < (q.den : Int) * (r.den : Int) := Int.mul_pos (den_pos q) (den_pos r)
theorem SB.mul {m n : Nat} {q r : Rat} (h : SB m q) (h' : SB n r) : SB (m + n) (q * r) := by
  rw [← times_ok q r]
  exact .divInt (h.1.mul h'.1) (h.2.mul h'.2) (den_mul_pos q r)
theorem SB.add {m n : Nat} {q r : Rat} (h : SB m q) (h' : SB n r) : SB (m + n + 1) (q + r) := by
  have e : q + r = Rat.divInt (q.num * r.den + r.num * q.den) (q.den * r.den) := by
    rw [Rat.add_def', ← Int.natCast_mul, Rat.divInt_ofNat]
  rw [e]
  refine .divInt ((h.1.mul h'.2).addI ?_) ((h.2.mul h'.2).mono (by omega)) (den_mul_pos q r)
  have := h'.1.mul h.2
  rw [Nat.add_comm n m] at this
  exact this
theorem SB.sub {m n : Nat} {q r : Rat} (h : SB m q) (h' : SB n r) : SB (m + n + 1) (q - r) := by
  rw [Rat.sub_eq_add_neg]; exact h.add h'.neg
end L2

set_option Elab.async false
set_option linter.all false
set_option maxRecDepth 100000
set_option maxHeartbeats 4000000
namespace L2
open PySem PySem.Spec PyProof.Rows
/-! ### a list comprehension of one clause -/
theorem closure_go {env : Env} : ∀ (ns : List (Str × NameKind)) (cs : List (Str × Addr)), (∀ x ∈ ns, x.2 = .free → ∃ c, env.cells.lookup x.1 = some c) → (∀ x c, cs.lookup x = some c → env.cells.lookup x = some c) →
    ∃ cl, (forIn ns cs (fun (p : Str × NameKind) (r : List (Str × Addr)) => if (p.2 == NameKind.free) = true then (do let c ← cellOf env p.1; pure (ForInStep.yield ((p.1, c) :: r))) else pure (ForInStep.yield r)) : Sem (List (Str × Addr))) = pure cl ∧
      (∀ x c, cl.lookup x = some c → env.cells.lookup x = some c) ∧ (∀ x, (x, NameKind.free) ∈ ns → ∃ c, cl.lookup x = some c) ∧ (∀ x c, cs.lookup x = some c → ∃ c', cl.lookup x = some c')
  | [], cs, _, hcs => ⟨cs, rfl, hcs, fun _ h => (by simp at h), fun x c h => ⟨c, h⟩⟩
  | (n, k) :: r, cs, hall, hcs => by
    by_cases hk : k = .free
    · subst hk
      obtain ⟨c, hc⟩ := hall (n, .free) (by simp) rfl
      have hce : cellOf env n = pure c := by unfold cellOf; rw [hc]
      have hcs' : ∀ x d, ((n, c) :: cs).lookup x = some d → env.cells.lookup x = some d := fun x d h => by
        rw [List.lookup_cons] at h
        cases e : x == n with
        | true => rw [e] at h; cases h; rw [eq_of_beq e]; exact hc
        | false => rw [e] at h; exact hcs x d h
      obtain ⟨cl, e, h1, h2, h3⟩ := closure_go r ((n, c) :: cs) (fun x hx => hall x (by simp [hx])) hcs'
      refine ⟨cl, ?_, h1, fun x hx => ?_, fun x d hd => ?_⟩
      · rw [List.forIn_cons, ← e]
        show (cellOf env n >>= _) >>= _ = _
        rw [hce]
        rfl
      · rcases List.mem_cons.mp hx with z | z
        · cases z
          exact h3 n c (by simp)
        · exact h2 x z
      · cases q : x == n with
        | true => exact h3 x c (by rw [List.lookup_cons, q])
        | false => exact h3 x d (by rw [List.lookup_cons, q]; exact hd)
    · obtain ⟨cl, e, h1, h2, h3⟩ := closure_go r cs (fun x hx => hall x (by simp [hx])) hcs
      refine ⟨cl, ?_, h1, fun x hx => ?_, h3⟩
      · rw [List.forIn_cons, ← e]
        have : (k == NameKind.free) = false := by simpa using hk
        simp only [this, Bool.false_eq_true, if_false]
        rfl
      · rcases List.mem_cons.mp hx with z | z
        · cases z
          exact absurd rfl hk
        · exact h2 x z
theorem closure_of {env : Env} {scope : Scope} (hall : ∀ x ∈ scope.names, x.2 = .free → ∃ c, env.cells.lookup x.1 = some c) :
    ∃ cl, closureFor scope env = pure cl ∧ (∀ x c, cl.lookup x = some c → env.cells.lookup x = some c) ∧ (∀ x, (x, NameKind.free) ∈ scope.names → ∃ c, cl.lookup x = some c) := by
  obtain ⟨cl, e, h1, h2, _⟩ := closure_go (env := env) scope.names [] hall (fun x c h => by simp at h)
  refine ⟨cl, ?_, h1, h2⟩
  simp only [closureFor]
  rw [e]
  rfl
/-- the block of a comprehension -/
def cxComp (X : Cx) (scope : Scope) (N : List Str) (cl : List (Str × Addr)) (C : Addr) (s : Shared) (H : Hp) (ex : List Addr) : Cx :=
  { X with N := N, s₀ := s, H₀ := H, env := compEnvC scope cl C X.env, outer := X.stack, stack := X.stack, ex := ex, fn := fun _ => false, pn := [] }
def PTs (X : Cx) (ifs : List Expr) (t : TT) : Prop :=
  ∀ (pins : List (Addr × Obj)) (s : Shared) (σ : St) (H : Hp) (Q : Bool → Hp → Prop), Inv X pins σ H s → t σ H Q →
    wpAny (model X.prog X.w) X.A (forIn ifs true fun c r => if r = true then do let ok ← isTrue c X.env (eval c X.env); pure (ForInStep.yield ok) else pure (ForInStep.yield r)) (TP X pins σ Q) X.xe s
def tTT : TT := fun _ H Q => Q true H
theorem pts_nil {X : Cx} : PTs X [] tTT := fun pins s σ H Q I h => wpAny_tests_nil ⟨H, I, h⟩
def tComp (σ0 : St → St) (wi : TI) (g : TG) (tc : TT) (te : TE) : TE := fun σ H Q => wi σ H fun J H1 => ∀ p, H1 p = none → ∃ W : Nat → Nat → List V → St → Hp → Prop, (∃ m, W 0 m [] (σ0 σ) (upd H1 p (.lst []))) ∧ ∀ i m ys σ' H', W i m ys σ' H' →
  (J.stop i H' ∧ Q (.ref p) H') ∨ (J.go i H' ∧ ∀ x H2, J.yld i H' x H2 → g x σ' H2 fun σ2 H3 => tc σ2 H3 fun b H4 => if b = true then te σ2 H4 fun v H5 => ys.length < sizeLine ∧ H5 p = some (.lst ys) ∧ (∃ m', m' < m ∧ W (i + 1) m' (ys ++ [v]) σ2 (upd H5 p (.lst (ys ++ [v]))))
    else ∃ m', m' < m ∧ W (i + 1) m' ys σ2 H4)
/-- which of the def's values the block sees -/
def Sees (X : Cx) (scope : Scope) (N : List Str) (σ0 : St → St) : Prop :=
  ∀ σ : St, (σ0 σ).length = N.length ∧ ∀ (i : Nat) (x : Str) (v : V), N[i]? = some x → (σ0 σ)[i]? = some (some v) → scope.names.lookup x = some .free ∧ ∃ j : Nat, X.N[j]? = some x ∧ σ[j]? = some (some v)
theorem lookup_relabel_mem {env : Env} {names : List (Str × NameKind)} {x : Str} : ∀ {k}, (names.map fun (n, k) => if (k == NameKind.free && env.scope.kind == .function && env.kindOf n == some .cell) = true then (n, NameKind.cell) else (n, k)).lookup x = some k → (x, k) ∈ names ∨ (k = .cell ∧ (x, NameKind.free) ∈ names) := by
  induction names with
  | nil => intro k h; simp at h
  | cons a r ih =>
    intro k h
    obtain ⟨n, k0⟩ := a
    rw [List.map_cons] at h
    dsimp only at h
    by_cases hc : (k0 == NameKind.free && env.scope.kind == .function && env.kindOf n == some .cell) = true
    · rw [if_pos hc] at h
      have hk0 : k0 = .free := by
        simp only [Bool.and_eq_true, beq_iff_eq] at hc
        exact hc.1.1
      rw [List.lookup_cons] at h
      cases e : x == n with
      | true =>
        rw [e] at h
        cases h
        exact .inr ⟨rfl, by rw [eq_of_beq e, hk0]; simp⟩
      | false =>
        rw [e] at h
        rcases ih h with z | ⟨z1, z2⟩
        · exact .inl (List.mem_cons_of_mem _ z)
        · exact .inr ⟨z1, List.mem_cons_of_mem _ z2⟩
    · rw [if_neg hc] at h
      rw [List.lookup_cons] at h
      cases e : x == n with
      | true =>
        rw [e] at h
        cases h
        exact .inl (by rw [eq_of_beq e]; simp)
      | false =>
        rw [e] at h
        rcases ih h with z | ⟨z1, z2⟩
        · exact .inl (List.mem_cons_of_mem _ z)
        · exact .inr ⟨z1, List.mem_cons_of_mem _ z2⟩
theorem lookup_relabel_free {env : Env} {x : Str} : ∀ {names : List (Str × NameKind)}, names.lookup x = some .free →
    (names.map fun (n, k) => if (k == NameKind.free && env.scope.kind == .function && env.kindOf n == some .cell) = true then (n, NameKind.cell) else (n, k)).lookup x = some .cell ∨ (names.map fun (n, k) => if (k == NameKind.free && env.scope.kind == .function && env.kindOf n == some .cell) = true then (n, NameKind.cell) else (n, k)).lookup x = some .free
  | [], h => by simp at h
  | (n, k0) :: r, h => by
    rw [List.lookup_cons] at h
    rw [List.map_cons]
    dsimp only
    cases e : x == n with
    | true =>
      rw [e] at h
      cases h
      by_cases hc : (NameKind.free == NameKind.free && env.scope.kind == .function && env.kindOf n == some .cell) = true
      · rw [if_pos hc]; left; rw [List.lookup_cons, e]
      · rw [if_neg hc]; right; rw [List.lookup_cons, e]
    | false =>
      rw [e] at h
      have ih := lookup_relabel_free (env := env) h
      by_cases hc : (k0 == NameKind.free && env.scope.kind == .function && env.kindOf n == some .cell) = true
      · rw [if_pos hc, List.lookup_cons, e]; exact ih
      · rw [if_neg hc, List.lookup_cons, e]; exact ih
theorem mem_of_lookupF {x : Str} {k : NameKind} : ∀ {names : List (Str × NameKind)}, names.lookup x = some k → (x, k) ∈ names := fun h => PySem.mem_of_lookup h
theorem pe_comp {X : Cx} {elt tg iter : Expr} {ifs : List Expr} {scope : Scope} {pos : Pos} {wi : TI} {g : TG} {tc : TT} {te : TE} {N : List Str} {σ0 : St → St}
    (hc : X.calm = true) (hxe : ∀ e s, X.xe e s → False) (hcell : ∀ y ∈ scope.names, y.2 ≠ .cell) (hkind : scope.kind = .function) (hnames : ∀ y ∈ scope.names, y.2 = .local → scope.names.lookup y.1 = some .local)
    (hfr : ∀ y ∈ scope.names, y.2 = .free → X.env.kindOf y.1 = some .cell ∨ X.env.kindOf y.1 = some .free) (hσ : Sees X scope N σ0)
    (hi : PI X tg iter wi)
    (hg : ∀ cl C s H ex, PG (cxComp X scope N cl C s H ex) tg g) (ht : ∀ cl C s H ex, PTs (cxComp X scope N cl C s H ex) ifs tc) (he : ∀ cl C s H ex, PE (cxComp X scope N cl C s H ex) elt te)
    (hs : ∀ x, foldedSetIterable iter X.env x = pure x := by intro _; rfl) : PE X (.ListComp elt [⟨tg, iter, ifs, 0⟩] scope pos) (tComp σ0 wi g tc te) := by
  intro pins s σ H Q I h
  obtain ⟨cl, hclos, hcl1, hcl2⟩ := closure_of (env := X.env) (scope := scope) fun y hy hf => I.ok.has y.1 (hfr y hy hf)
  rw [eval_ListComp]
  refine wpAny_comprehension_free (use := none) rfl hs hclos hkind hnames (thn (hi pins s σ H _ I h) fun v s1 h1 => thn h1 fun itv s2 h2 => ?_)
  obtain ⟨it, fp, tn, J, H2, e, I2, T, st2, f2, h3⟩ := h2
  subst e
  have hpn : H2 s2.heap.objs.size = none := I2.hok.fresh (Nat.le_refl _)
  obtain ⟨W, ⟨m0, w0⟩, turn⟩ := h3 _ hpn
  refine wpAny_newObj_type ?_
  generalize hp : s2.heap.objs.size = p at *
  have I3 : Inv X pins σ (upd H2 p (.lst [])) { s2 with heap := s2.heap.push { cls := .type "list", dict := none, data := .seq ([] : List Value).toArray } } := by
    refine I2.laid (a := p) (o := .lst []) (t' := s2.toks) (fun b u q => Heap.get?_push_of_some _ q) (Nat.le_of_eq hp) ⟨Nat.zero_le _, [], 0, .nil, ?_⟩
    rw [← hp]
    exact Heap.get?_push_size _ rfl
  have hf3 : ∀ b ∈ fp, FpOk X pins (upd H2 p (.lst [])) b := fun b hb => by
    obtain ⟨o, ho, _⟩ := T.obj _ _ st2 b hb
    have : b ≠ p := by rw [← hp]; exact Nat.ne_of_lt (Heap.lt_size ho)
    exact ⟨by rw [upd_ne this]; exact (f2 b hb).1, (f2 b hb).2⟩
  generalize hs3 : ({ s2 with heap := s2.heap.push { cls := .type "list", dict := none, data := .seq ([] : List Value).toArray } } : Shared) = s3 at *
  have st3 : tn 0 s3.heap := by rw [← hs3]; exact T.keep _ _ _ st2 fun b _ o e => Heap.get?_push_of_some _ e
  generalize hH3 : upd H2 p (.lst []) = H3 at *
  refine wpAny_newFunctionEnv hcell (by intro y hy; simp at hy) (fun h1 hns1 hsb1 => ?_) hkind
  generalize hC : s3.heap.objs.size = C at *
  have keep : ∀ b u, s3.heap.get? b = some u → h1.get? b = some u := fun b u q =>
    hsb1.extBut b u (by rw [← hC]; exact Nat.ne_of_lt (Heap.lt_size q)) (Heap.get?_push_of_some _ q)
  have fpC : ∀ b ∈ fp, b ≠ C := fun b hb => by
    obtain ⟨o, ho, _⟩ := T.obj _ _ st3 b hb
    rw [← hC]; exact Nat.ne_of_lt (Heap.lt_size ho)
  have hCn : H3 C = none := I3.hok.fresh (Nat.le_of_eq hC)
  -- the block's own invariant, at its entry
  have ok' : (cxComp X scope N cl C s3 H3 fp).Ok := by
    refine ⟨I3.mod, hkind, I3.ok.glob, I3.ok.blt, Nat.le_of_eq hC, fun x y c a b => I3.ok.inj x y c (hcl1 x c a) (hcl1 y c b), fun x hx => ?_, fun _ _ z => Bool.noConfusion (show false = true from z), I3.ok.hd, I3.ok.frames, .inl rfl, fun b hb => ⟨fpC b hb, fun x c q => (hf3 b hb).2.2.2.2.1 x c (hcl1 x c q)⟩,
      I3.bs, Nat.le_trans I3.ok.bsz I3.sz, fun b o e hb => ?_, fun b hb z => ?_, I3.stack, I3.stkFree⟩
    · have hx' : (relabel scope X.env).names.lookup x = some .cell ∨ (relabel scope X.env).names.lookup x = some .free := hx
      rcases hx' with z | z
      · rcases lookup_relabel_mem z with y | ⟨_, y⟩
        · exact absurd rfl (hcell _ y)
        · exact hcl2 x y
      · rcases lookup_relabel_mem z with y | ⟨y, _⟩
        · exact hcl2 x y
        · cases y
    · rcases (hf3 b hb).2.2.2.1 with z | z
      · exact I3.ok.noex b o e z
      · exact absurd (Nat.lt_of_lt_of_le (Heap.lt_size e) (Nat.le_trans I3.ok.bsz z)) (Nat.lt_irrefl _)
    · rcases List.mem_cons.mp (I3.stkSub b z) with q | q
      · exact (hf3 b hb).2.1 q
      · exact (hf3 b hb).2.2.1 q
  have J0 : Inv (cxComp X scope N cl C s3 H3 fp) [] (σ0 σ) H3 { s3 with heap := h1, toks := s3.toks + ([] : List (Str × Value)).length } := by
    refine ⟨ok', rfl, I3.bare, Un.kept keep, ⟨_, hns1, fun i x v a b c => ?_⟩, fun x c q => ?_, hCn, fun x c q => I3.freeC x c (hcl1 x c q), fun q hq => absurd (show q ∈ ([] : List (Addr × Obj)) from hq) (by simp), I3.hok.kept keep, (hσ σ).1⟩
    · obtain ⟨hf, j, hj, hv⟩ := (hσ σ).2 i x v a b
      have hm := mem_of_lookupF hf
      obtain ⟨m, hn, hl⟩ := id I3.loc
      have hk := hfr _ hm rfl
      have hvis : Vis X.env.scope x := hk.elim (fun z => .inr (.inl z)) fun z => .inr (.inr z)
      obtain ⟨u, r, lk⟩ := hl j x v hj hv hvis
      refine ⟨u, r, .inr ⟨lookup_relabel_free hf, ?_⟩⟩
      obtain ⟨c', hc'⟩ := hcl2 x hm
      refine ⟨c', hc', ?_⟩
      have hx := hcl1 x c' hc'
      rcases lk with ⟨kl, _⟩ | ⟨_, c2, e2, o2, ho2, hd2⟩
      · rcases hk with z | z <;> rw [kl] at z <;> cases z
      · rw [hx] at e2
        cases e2
        exact ⟨o2, keep _ _ ho2, hd2⟩
    · obtain ⟨v, o, ho, hd⟩ := I3.cell x c (hcl1 x c q)
      exact ⟨v, o, keep _ _ ho, hd⟩
  have st4 : tn 0 h1 := T.keep _ _ _ st3 fun b _ o e => keep b o e
  have stat : ∀ {H' : Hp}, (∀ b ∈ fp, H' b = none) → ∀ b ∈ fp, FpOk (cxComp X scope N cl C s3 H3 fp) [] H' b := fun hn b hb =>
    ⟨hn b hb, fpC b hb, fun z => ok'.exfs b hb z, .inl hb, fun x c q => (hf3 b hb).2.2.2.2.1 x c (hcl1 x c q), fun q hq => absurd (show q ∈ ([] : List (Addr × Obj)) from hq) (by simp)⟩
  -- back to the def
  have back : ∀ {σ' : St} {H' : Hp} {s' : Shared} {pl : List (Addr × Obj)}, Inv (cxComp X scope N cl C s3 H3 fp) pl σ' H' s' → ∀ h', Heap.SameBut C s'.heap h' → Inv X pins σ H' { s' with heap := h' } := fun {σ' H' s' pl} J h' hsb => by
    have I5 : Inv X pins σ H' s' := Inv.call' (ch := fp) I3 J.os J.base J.hok J.bare fun b hb => ⟨(hf3 b hb).2.2.2.1, (hf3 b hb).2.1, (hf3 b hb).2.2.2.2.1, (hf3 b hb).2.2.2.2.2⟩
    refine Inv.turned (it := C) (t' := s'.toks) I5 (fun b o hb e => hsb.extBut b o hb e) J.free (fun z => ?_) (.inr ?_) (fun x c q z => ?_) fun q hq z => ?_
    · exact absurd (show X.env.locals < C by rw [← hC]; exact I3.lt) (by rw [z]; exact Nat.lt_irrefl _)
    · rw [← hC]; exact I3.sz
    · obtain ⟨v, o, ho, _⟩ := I3.cell x c q
      have := Heap.lt_size ho
      rw [z, hC] at this
      exact Nat.lt_irrefl _ this
    · have := Heap.lt_size (I3.pin q hq).1
      rw [z, hC] at this
      exact Nat.lt_irrefl _ this
  have loop : codeAny (model X.prog X.w) X.A (.compLoop (.ListComp elt [⟨tg, iter, ifs, 0⟩] scope pos) 0 (.ref it) (.ref p) (compEnvC scope cl C X.env)) (compPost (model X.prog X.w) X.A X.xe none (EP X pins σ Q) (.ref p) C) { s3 with heap := h1, toks := s3.toks + ([] : List (Str × Value)).length } := by
    refine codeAny_loop rfl (fun n s' => ∃ i ys σ' H', Inv (cxComp X scope N cl C s3 H3 fp) [] σ' H' s' ∧ tn i s'.heap ∧ (∀ b ∈ fp, H' b = none) ∧ W i n ys σ' H') (fun n s' hI => ?_) m0 ⟨0, [], σ0 σ, H3, J0, st4, fun b hb => (hf3 b hb).1, w0⟩
    obtain ⟨i, ys, σ', H', J', st', fr', w'⟩ := hI
    show wpAny _ X.A ((compTurn (.ListComp elt [⟨tg, iter, ifs, 0⟩] scope pos) 0 (.ref it) (.ref p) (compEnvC scope cl C X.env)).onRaise (fun x => do noteFrame x (compEnvC scope cl C X.env); theTreesLotGoes x)) _ _ s'
    refine wpAny_noted ?_
    rw [compTurn_list]
    rcases turn i n ys σ' H' w' with ⟨stop, q⟩ | ⟨go, step⟩
    · refine wpAny_bind (wpAny_standAt (wpAny_bind (wpAny_mono (T.done (cxComp X scope N cl C s3 H3 fp) rfl rfl rfl hc i [] s' σ' H' X.xe J' (stat fr') st' stop) (fun r s4 h4 => ?_) fun _ _ x => (hxe _ _ x).elim)))
      obtain ⟨hr, I4⟩ := h4
      subst hr
      refine wpAny_pure ?_
      obtain ⟨m, hn, _⟩ := id I4.loc
      exact ⟨m, hn, fun h' hsb => ⟨.ref p, H', back I4 h' hsb, rfl, q⟩⟩
    · refine wpAny_bind (wpAny_standAt (wpAny_bind (wpAny_mono (T.item (cxComp X scope N cl C s3 H3 fp) rfl rfl rfl hc i [] s' σ' H' X.xe J' (stat fr') st' go) (fun r s4 h4 => ?_) fun _ _ x => (hxe _ _ x).elim)))
      obtain ⟨u, hr, h4⟩ := h4
      subst hr
      refine wpAny_bind (wpAny_mono h4 (fun _ s5 h5 => ?_) fun _ _ x => (hxe _ _ x).elim)
      obtain ⟨x, H5, I5, r5, y5, st5, fr5⟩ := h5
      have I5' := I5.pinned (stat fr5) (T.obj _ _ st5)
      refine wpAny_bind (wpAny_mono (hg cl C s3 H3 fp _ s5 σ' H5 x u _ I5' r5 (step x H5 y5)) (fun _ s6 h6 => ?_) fun _ _ x => (hxe _ _ x).elim)
      obtain ⟨σ6, H6, I6, q6⟩ := h6
      have again : ∀ {σ7 : St} {H7 : Hp} {s7 : Shared} {ys7 : List V}, Inv (cxComp X scope N cl C s3 H3 fp) ([] ++ pinsAt fp s5.heap) σ7 H7 s7 → (∃ m', m' < n ∧ W (i + 1) m' ys7 σ7 H7) →
          ∃ m, m < n ∧ ∃ i ys σ' H', Inv (cxComp X scope N cl C s3 H3 fp) [] σ' H' s7 ∧ tn i s7.heap ∧ (∀ b ∈ fp, H' b = none) ∧ W i m ys σ' H' := fun {σ7 H7 s7 ys7} I7 n7 => by
        obtain ⟨m', hm, w7⟩ := n7
        refine ⟨m', hm, i + 1, ys7, σ7, H7, I7.unpinned, T.keep _ _ _ st5 fun b hb o e => (I7.pin (b, o) (List.mem_append_right _ (List.mem_append_right _ (mem_pinsAt hb e)))).1, fun b hb => ?_, w7⟩
        obtain ⟨o, e, d⟩ := T.obj _ _ st5 b hb
        exact (I7.pin (b, o) (List.mem_append_right _ (List.mem_append_right _ (mem_pinsAt hb e)))).2.1
      refine wpAny_bind (wpAny_mono (ht cl C s3 H3 fp _ s6 σ6 H6 _ I6 q6) (fun ok s7 h7 => ?_) fun _ _ x => (hxe _ _ x).elim)
      obtain ⟨H7, I7, q7⟩ := h7
      cases ok with
      | false =>
        rw [if_neg Bool.false_ne_true] at q7
        exact wpAny_pure ⟨rfl, again I7 q7⟩
      | true =>
        rw [if_pos rfl] at q7
        refine wpAny_bind (wpAny_bind (wpAny_mono (he cl C s3 H3 fp _ s7 σ6 H7 _ I7 q7) (fun y s8 h8 => ?_) fun _ _ x => (hxe _ _ x).elim))
        obtain ⟨v, H8, I8, r8, hz, hH8, w8⟩ := h8
        refine wpAny_bind (wpAny_mono (mt_append (X := cxComp X scope N cl C s3 H3 fp) _ s8 σ6 H8 (.ref p) [v] (.ref p) [y] (fun x H9 => x = .non ∧ H9 = upd H8 p (.lst (ys ++ [v]))) I8 rfl (.cons r8 .nil) ⟨p, ys, v, rfl, rfl, hH8, hz, rfl, rfl⟩) (fun _ s9 h9 => ?_) fun _ _ x => (hxe _ _ x).elim)
        obtain ⟨z, H9, I9, _, _, e9⟩ := h9
        subst e9
        exact wpAny_pure (wpAny_pure ⟨rfl, again I9 w8⟩)
  exact codeAny_compStart_list loop (T.self X.A 0 _ _ _ st4 loop)
end L2
namespace L2
open PySem PySem.Spec PyProof.Rows
section
variable {X : Cx}
end
end L2

set_option Elab.async false
set_option linter.all false
set_option maxRecDepth 100000
set_option maxHeartbeats 4000000
namespace L2
open PySem PySem.Spec PyProof.Rows
section
variable {X : Cx}
end
end L2
namespace L2
open MA
end L2
namespace My
open PySem L2 MA
section
variable {P : Program} {w : World} {K : PySem.W.Frag} {mg : Str → Option Value} {base : Heap}
structure Txt (mg : Str → Option Value) : Prop where
  z_abs : mg "abs" = none
  z_len : mg "len" = none
  z_isinstance : mg "isinstance" = none
  z_range : mg "range" = none
  z_int : mg "int" = none
  z_bool : mg "bool" = none
  z_tuple : mg "tuple" = none
  z_list : mg "list" = none
  z_all : mg "all" = none
def spMeasure : Sp := fun vs H Q _ => ∃ a b : Int, vs = [.int a, .int b] ∧ Q (.int (gI a b)) H
def sp2 (f : Rat → Rat → Rat) (pre : Rat → Rat → Prop) : Sp := fun vs H Q _ => ∃ a b q r, vs = [a, b] ∧ ShAt H a q ∧ ShAt H b r ∧ SB 3000 q ∧ SB 3000 r ∧ pre q r ∧ ∀ v H', Same H H' → ShAt H' v (f q r) → Q v H'
abbrev spPlus : Sp := sp2 (fun q r => q + r) (fun _ _ => True)
abbrev spMinus : Sp := sp2 (fun q r => q - r) (fun _ _ => True)
abbrev spTimes : Sp := sp2 (fun q r => q * r) (fun _ _ => True)
/-- a list of shares and what they stand for -/
def Shs (H : Hp) : List V → List Rat → Prop := Paired (ShAt H)
theorem Shs.same {H H' : Hp} (s : Same H H') : ∀ {xs : List V} {qs : List Rat}, Shs H xs qs → Shs H' xs qs
  | _, _, .nil => .nil
  | _, _, .cons r t => .cons (r.same s) (Shs.same s t)
theorem Paired.at' {α β : Type} {R : α → β → Prop} : ∀ {xs : List α} {ys : List β} {i : Nat} {x : α}, Paired R xs ys → xs[i]? = some x → ∃ y, ys[i]? = some y ∧ R x y
  | _, _, _, _, .nil, e => by simp at e
  | _, _, 0, _, .cons r _, e => by simp at e; subst e; exact ⟨_, rfl, r⟩
  | _, _, i + 1, x, .cons _ t, e => by
    obtain ⟨u, h1, h2⟩ := Paired.at' (i := i) (x := x) t (by simpa using e)
    exact ⟨u, by simpa using h1, h2⟩
theorem cell_at {ns : List Int} (a : Int) (h : 0 < ns.length) : ∃ z : Int, atI (ns.map V.int) (a % (((ns.map V.int).length : Nat) : Int)) = some (.int z) := by
  rw [List.length_map]
  have h0 := Int.emod_nonneg a (show ((ns.length : Nat) : Int) ≠ 0 by omega)
  have h1 := Int.emod_lt_of_pos a (show 0 < ((ns.length : Nat) : Int) by omega)
  have hk : (a % (ns.length : Int)).toNat < ns.length := by omega
  have ek : a % (ns.length : Int) = (((a % (ns.length : Int)).toNat : Nat) : Int) := by omega
  refine ⟨ns[(a % (ns.length : Int)).toNat], ?_⟩
  have q : atI (ns.map V.int) (((a % (ns.length : Int)).toNat : Nat) : Int) = some (.int ns[(a % (ns.length : Int)).toNat]) := atI_nat (by rw [List.getElem?_map, List.getElem?_eq_getElem hk] <;> rfl)
  rw [← ek] at q
  exact q
def spLaw (K : PySem.W.Frag) : Sp := fun vs H Q _ => ∃ (a : Addr) (ns : List Int), vs = [.ref a] ∧ SqL K H a (ns.map V.int) ∧ ns.length ≤ 63 ∧ ∀ H', Q (.bl true) H'
end
end My
namespace L2
open PySem PySem.Spec PyProof.Rows
theorem Sees.none1 {X : Cx} {scope : Scope} {x : Str} : Sees X scope [x] (fun _ => [none]) := fun σ => ⟨rfl, fun i y v _ h2 => by
  match i with
  | 0 => simp at h2
  | n + 1 => simp at h2⟩
theorem pe_comp0 {X : Cx} {elt tg iter : Expr} {ifs : List Expr} {scope : Scope} {pos : Pos} {wi : TI} {g : TG} {tc : TT} {te : TE} {N : List Str} {σ0 : St → St}
    (hc : X.calm = true) (hxe : ∀ e s, X.xe e s → False) (hcell : ∀ y ∈ scope.names, y.2 ≠ .cell) (hkind : scope.kind = .function) (hnames : ∀ y ∈ scope.names, y.2 = .local → scope.names.lookup y.1 = some .local)
    (hnf : ∀ y ∈ scope.names, y.2 ≠ .free) (hσ : Sees X scope N σ0) (hi : PI X tg iter wi)
    (hg : ∀ cl C s H ex, PG (cxComp X scope N cl C s H ex) tg g) (ht : ∀ cl C s H ex, PTs (cxComp X scope N cl C s H ex) ifs tc) (he : ∀ cl C s H ex, PE (cxComp X scope N cl C s H ex) elt te)
    (hs : ∀ x, foldedSetIterable iter X.env x = pure x := by intro _; rfl) : PE X (.ListComp elt [⟨tg, iter, ifs, 0⟩] scope pos) (tComp σ0 wi g tc te) :=
  pe_comp hc hxe hcell hkind hnames (fun y hy hf => absurd hf (hnf y hy)) hσ hi hg ht he hs
theorem add_div (q r : Rat) : q + r = Rat.divInt (q.num * r.den + r.num * q.den) (q.den * r.den) := by
  rw [Rat.add_def', ← Int.natCast_mul, Rat.divInt_ofNat]
end L2

set_option Elab.async false
set_option linter.all false
set_option maxRecDepth 100000
set_option maxHeartbeats 4000000
namespace L2
open PySem PySem.Spec PyProof.Rows
/-! ### repr: what a value is, as plain data -/
mutual
inductive DataV (H : Hp) : V → PyData → Prop
  | non : DataV H .non .none
  | bl (b : Bool) : DataV H (.bl b) (.bool b)
  | int (i : Int) : DataV H (.int i) (.int i)
  | str (x : Str) : DataV H (.str x) (.str x)
  | lst {a : Addr} {xs : List V} {ds : List PyData} : H a = some (.lst xs) → DataL H xs ds → DataV H (.ref a) (.list ds)
  | tup {a : Addr} {xs : List V} {ds : List PyData} : H a = some (.tup xs) → DataL H xs ds → DataV H (.ref a) (.tuple ds)
  | dict {a : Addr} {kvs : List (Key × V)} {ps : List (PyData × PyData)} : H a = some (.dK kvs) → DataL H (kvs.map fun p => kV p.1) (ps.map (·.1)) → DataL H (kvs.map (·.2)) (ps.map (·.2)) → DataV H (.ref a) (.dict ps)
inductive DataL (H : Hp) : List V → List PyData → Prop
  | nil : DataL H [] []
  | cons {x : V} {xs : List V} {d : PyData} {ds : List PyData} : DataV H x d → DataL H xs ds → DataL H (x :: xs) (d :: ds)
end
mutual
def lists : PyData → Bool
  | .list _ => true
  | .tuple xs => listsAll xs
  | .dict kvs => listsKv kvs
  | _ => false
def listsAll : List PyData → Bool
  | [] => false
  | x :: xs => lists x || listsAll xs
def listsKv : List (PyData × PyData) → Bool
  | [] => false
  | (k, v) :: r => lists k || lists v || listsKv r
end
theorem listsKv_eq : ∀ ps : List (PyData × PyData), listsKv ps = false → listsAll (ps.map (·.1)) = false ∧ listsAll (ps.map (·.2)) = false
  | [], _ => ⟨rfl, rfl⟩
  | (k, v) :: r, h => by
    simp only [listsKv, Bool.or_eq_false_iff] at h
    obtain ⟨h1, h2⟩ := listsKv_eq r h.2
    simp only [List.map_cons, listsAll, Bool.or_eq_false_iff]
    exact ⟨⟨h.1.1, h1⟩, ⟨h.1.2, h2⟩⟩
theorem pairs_split {P : Program} {w : World} : ∀ {es : List DictEntry} {vs : List (Key × Value)} {kvs : List (Key × V)}, Pairs (mixKind P w) es vs → KV kvs vs → Vals (kvs.map fun p => kV p.1) (es.map (·.key)) ∧ Vals (kvs.map (·.2)) (es.map (·.val)) := by
  intro es vs kvs h
  induction h generalizing kvs with
  | nil =>
    intro r
    cases r
    exact ⟨.nil, .nil⟩
  | @cons e kv es vs h1 h2 _ ih =>
    intro r
    cases r with
    | @cons p _ kvs' _ hp hr =>
      obtain ⟨a, b⟩ := ih hr
      refine ⟨.cons ?_ a, .cons ?_ b⟩
      · have h1' : keyIs kv.1 e.key = true := h1
        rw [← hp.1] at h1'
        rcases keyIs_shape h1' with ⟨i, t, e1, e2⟩ | ⟨x, t, e1, e2⟩
        · show RelV (kV p.1) e.key
          rw [e1, e2]; exact ⟨t, rfl⟩
        · show RelV (kV p.1) e.key
          rw [e1, e2]; exact ⟨t, rfl⟩
      · show RelV p.2 e.val
        rw [h2]; exact hp.2
mutual
theorem reads_of {P : Program} {w : World} {H : Hp} {h : Heap} (ok : HOk P w H h) : ∀ {v : V} {d : PyData} {u : Value}, DataV H v d → RelV v u → ∃ as, Reads h u d as ∧ (lists d = false → sysModules ∉ as)
  | _, _, _, .non, r => by cases r; exact ⟨[], .none, fun _ => by simp⟩
  | _, _, _, .bl b, r => by cases r; exact ⟨[], .bool b, fun _ => by simp⟩
  | _, _, _, .int i, r => by obtain ⟨t, rfl⟩ := r; exact ⟨[], .int i t, fun _ => by simp⟩
  | _, _, _, .str x, r => by obtain ⟨t, rfl⟩ := r; exact ⟨[], .str x t, fun _ => by simp⟩
  | _, _, _, .lst (a := a) (xs := xs) ha hd, r => by
    cases r
    obtain ⟨_, its, n, rv, e⟩ := ok a _ ha
    obtain ⟨as, hr, _⟩ := readsAll_of ok hd rv
    exact ⟨a :: as, .list e rfl rfl (by simpa using hr), fun z => by simp [lists] at z⟩
  | _, _, _, .tup (a := a) (xs := xs) ha hd, r => by
    cases r
    obtain ⟨_, its, rv, o, e, hc, n, hdt, _⟩ := ok a _ ha
    obtain ⟨as, hr, hs⟩ := readsAll_of ok hd rv
    exact ⟨as, .tuple e hc hdt (by simpa using hr), fun z => hs (by simpa [lists] using z)⟩
  | _, _, _, .dict (a := a) (kvs := kvs) (ps := ps) ha hk hv, r => by
    cases r
    obtain ⟨_, hm, vs, rv, o, es, ep, e, hx, hdt, _, hp, _⟩ := ok a _ ha
    obtain ⟨rk, rvv⟩ := pairs_split hp rv
    obtain ⟨as, hr, hs⟩ := readsAll_of ok hk rk
    obtain ⟨bs, hr', hs'⟩ := readsAll_of ok hv rvv
    refine ⟨a :: as ++ bs, .dict e hx.1 hdt hr hr', fun z => ?_⟩
    obtain ⟨z1, z2⟩ := listsKv_eq ps (by simpa [lists] using z)
    have hne : a ≠ sysModules := by simpa using hm
    simp only [List.cons_append, List.mem_cons, List.mem_append, not_or]
    exact ⟨fun q => hne q.symm, hs z1, hs' z2⟩
theorem readsAll_of {P : Program} {w : World} {H : Hp} {h : Heap} (ok : HOk P w H h) : ∀ {vs : List V} {ds : List PyData} {us : List Value}, DataL H vs ds → Vals vs us → ∃ as, ReadsAll h us ds as ∧ (listsAll ds = false → sysModules ∉ as)
  | _, _, _, .nil, r => by cases r; exact ⟨[], .nil, fun _ => by simp⟩
  | _, _, _, .cons hx hd, r => by
    cases r with
    | cons r1 r2 =>
      obtain ⟨as, h1, s1⟩ := reads_of ok hx r1
      obtain ⟨bs, h2, s2⟩ := readsAll_of ok hd r2
      refine ⟨as ++ bs, .cons h1 h2, fun z => ?_⟩
      simp only [listsAll, Bool.or_eq_false_iff] at z
      simp only [List.mem_append, not_or]
      exact ⟨s1 z.1, s2 z.2⟩
end
theorem bt_repr : bootBuiltins "repr" = some (.builtin "repr") := by decide +kernel
section
variable {X : Cx}
/-- repr(x), x plain data -/
def rRepr : List V → Hp → VK → Prop := fun xs H Q => ∃ v d, xs = [v] ∧ DataV H v d ∧ d.showable = true ∧ (d.hasDict = true → lists d = false) ∧ d.depth ≤ 20 ∧ d.shown.length ≤ sizeLine ∧ Q (.str d.shown) H
theorem call_repr {k : Nat} (hr : Room k X.A) : CallR X (.builtin "repr") rRepr := by
  intro pins s σ H xs us Q I r h
  obtain ⟨v, d, rfl, hd, hs, hl, hdp, hz, q⟩ := h
  obtain ⟨u, rfl, ru⟩ := vals1 r
  obtain ⟨as, rd, hsm⟩ := reads_of I.hok hd ru
  have fin : ∀ h' u tk, (∀ b o, s.heap.get? b = some o → h'.get? b = some o) → EP X pins σ Q (.str d.shown u) { s with heap := h', toks := tk } := fun h' u tk hk =>
    ⟨.str d.shown, H, I.kept (t' := tk) hk, ⟨u, rfl⟩, q⟩
  cases u with
  | ref a => exact repr_of_reads' rd hs (fun z => hsm (hl z)) hr.gd (by have := hr.un; omega) (fun _ _ e => e) fin hz
  | none => cases rd; rw [PyData.shown_none] at fin; exact PySem.P.repr_of_none (fin _ _ _ fun _ _ e => e)
  | bool b => cases rd; rw [PyData.shown_bool] at fin; exact PySem.P.repr_of_bool (fin _ _ _ fun _ _ e => e)
  | int i t => cases rd; rw [PyData.shown_int] at fin; exact PySem.P.repr_of_int (by simpa [PyData.showable] using hs) (fin _ _ _ fun _ _ e => e)
  | str x t => cases rd; rw [PyData.shown_str] at fin hz; exact PySem.P.repr_of_str (fin _ _ _ fun _ _ e => e) hz
  | _ => cases rd
end
end L2

set_option Elab.async false
set_option linter.all false
set_option maxRecDepth 100000
set_option maxHeartbeats 4000000
namespace L2
open PySem PySem.Spec PyProof.Rows MA
/-- plain data that may be shown -/
structure Good (d : PyData) : Prop where
  sh : d.showable = true
  ld : d.hasDict = true → lists d = false
  dp : d.depth ≤ 20
  ln : d.shown.length ≤ sizeLine
structure Sm (n : Nat) (d : PyData) : Prop where
  sh : d.showable = true
  ld : (d.hasDict && lists d) = false
  dp : d.depth ≤ n
  lv : d.leavesShort 40 = true
  bk : d.bulk ≤ n
theorem Sm.good {n : Nat} {d : PyData} (h : Sm n d) (l : n ≤ 100000) (l2 : d.depth ≤ 20) : Good d := by
  refine ⟨h.sh, fun z => ?_, l2, ?_⟩
  · have := h.ld; rw [z] at this; simpa using this
  · have a := PyData.shown_le_bulk 40 (by decide) d h.lv
    have b := h.bk
    have : (40 + 2) * d.bulk ≤ 42 * 100000 := Nat.mul_le_mul (by omega) (by omega)
    rw [sizeLine_eq]
    omega
/-- an int of at most eighteen figures -/
abbrev I18 (i : Int) : Prop := i.natAbs < 1000000000000000000
theorem showable_int {i : Int} (h : I18 i) : PyData.showable (.int i) = true := by
  have h' : i.natAbs < 1000000000000000000 := h
  simp only [PyData.showable, decide_eq_true_eq]
  by_cases z : i.natAbs = 0
  · rw [z]; decide
  · exact (Nat.log2_lt z).mpr (Nat.lt_of_lt_of_le h' (Nat.le_trans (show (1000000000000000000 : Nat) ≤ 2 ^ 60 by decide) (Nat.pow_le_pow_right (by decide) (by decide))))
theorem short_int {i : Int} (h : I18 i) : PyData.leavesShort 40 (.int i) = true := by
  have e := int_text_length_le10 (a := i) (k := 18) (by decide) (by have h' : i.natAbs < 1000000000000000000 := h; exact Nat.lt_of_lt_of_le h' (by decide))
  simp only [PyData.leavesShort, decide_eq_true_eq]
  show (Str.ofString (toString i)).length ≤ 40
  rw [PySem.ofString_length]; omega
theorem sm_int {i : Int} (h : I18 i) (n : Nat) : Sm n (.int i) := ⟨showable_int h, rfl, Nat.zero_le _, short_int h, Nat.zero_le _⟩
/-- an int of at most thirty-six figures -/
abbrev I36 (i : Int) : Prop := i.natAbs < 1000000000000000000000000000000000000
theorem sm_int36 {i : Int} (h : I36 i) (n : Nat) : Sm n (.int i) := by
  have h' : i.natAbs < 1000000000000000000000000000000000000 := h
  refine ⟨?_, rfl, Nat.zero_le _, ?_, Nat.zero_le _⟩
  · simp only [PyData.showable, decide_eq_true_eq]
    by_cases z : i.natAbs = 0
    · rw [z]; decide
    · exact (Nat.log2_lt z).mpr (Nat.lt_of_lt_of_le h' (Nat.le_trans (show (1000000000000000000000000000000000000 : Nat) ≤ 2 ^ 120 by decide) (Nat.pow_le_pow_right (by decide) (by decide))))
  · have e := int_text_length_le10 (a := i) (k := 36) (by decide) (Nat.lt_of_lt_of_le h' (by decide))
    simp only [PyData.leavesShort, decide_eq_true_eq]
    show (Str.ofString (toString i)).length ≤ 40
    rw [PySem.ofString_length]; omega
theorem sm_none (n : Nat) : Sm n .none := ⟨rfl, rfl, Nat.zero_le _, rfl, Nat.zero_le _⟩
theorem sm_tup {ds : List PyData} {n m : Nat} (h : ∀ d ∈ ds, Sm n d) (hd : (PyData.hasDictAll ds && listsAll ds) = false) (hm : n + 1 ≤ m) (hm2 : ds.length * (n + 1) ≤ m) : Sm m (.tuple ds) := by
  have key : ∀ ds : List PyData, (∀ d ∈ ds, Sm n d) → PyData.showableAll ds = true ∧ PyData.depthAll ds ≤ n ∧ PyData.leavesShortAll 40 ds = true ∧ PyData.bulkAll ds ≤ ds.length * (n + 1) := by
    intro ds
    induction ds with
    | nil => intro _; exact ⟨rfl, Nat.zero_le _, rfl, Nat.zero_le _⟩
    | cons d ds ih =>
      intro h
      obtain ⟨a, b, c, e⟩ := ih fun d hd => h d (List.mem_cons_of_mem _ hd)
      have hd := h d List.mem_cons_self
      refine ⟨by simp [PyData.showableAll, hd.sh, a], by simp only [PyData.depthAll]; exact Nat.max_le.mpr ⟨hd.dp, b⟩, by simp [PyData.leavesShortAll, hd.lv, c], ?_⟩
      simp only [PyData.bulkAll, List.length_cons, Nat.add_mul]
      have := hd.bk
      omega
  obtain ⟨a, b, c, e⟩ := key ds h
  exact ⟨by simpa [PyData.showable] using a, by simpa [PyData.hasDict, lists] using hd, by simp only [PyData.depth]; omega, by simpa [PyData.leavesShort] using c, by simp only [PyData.bulk]; omega⟩
end L2
namespace L2
open PySem
theorem bt_sum : bootBuiltins "sum" = some (.builtin "sum") := by decide +kernel
theorem bt_max : bootBuiltins "max" = some (.builtin "max") := by decide +kernel
end L2
namespace My
open PySem L2 MA
structure Txt2 (mg : Str → Option Value) : Prop extends Txt mg where
  z_str : mg "str" = none
  z_repr : mg "repr" = none
  z_dict : mg "dict" = none
  z_sum : mg "sum" = none
  z_sorted : mg "sorted" = none
  z_max : mg "max" = none
  z_min : mg "min" = none
  z_any : mg "any" = none
  z_enumerate : mg "enumerate" = none
  z_zip : mg "zip" = none
  z_set : mg "set" = none
  z_reversed : mg "reversed" = none
  z_ValueError : mg "ValueError" = none
end My

set_option Elab.async false
set_option linter.all false
set_option maxRecDepth 100000
set_option maxHeartbeats 4000000
namespace L2
open PySem PySem.Spec PyProof.Rows
def notStar : Expr → Bool
  | .Starred _ _ => false
  | _ => true
theorem star_cons {e : Expr} {es : List Expr} {env : Env} (h : notStar e = true) : starEach (e :: es) env = (false, eval e env) :: starEach es env := by
  cases e <;> first | rfl | exact absurd h (by simp [notStar])
section
variable {X : Cx} {e : Expr} {es : List Expr} {te : TE} {t : TA} {pos : Pos}
/-- an item of a row, whose rest may be long -/
theorem pa_consN (ha : PE X e te) (hr : PA X es t) (hn : notStar e = true := by rfl) : PA X (e :: es) (tCons te t) := pa_cons ha hr (star_cons hn)
end
end L2
namespace L2
end L2
namespace L2
end L2

set_option Elab.async false
set_option linter.all false
set_option maxRecDepth 100000
set_option maxHeartbeats 4000000
namespace L2
open PySem PySem.Spec PyProof.Rows
theorem comp_core {X : Cx} {elt tg iter : Expr} {ifs : List Expr} {scope : Scope} {pos pos2 : Pos} {wi : TI} {g : TG} {tc : TT} {te : TE} {N : List Str} {σ0 : St → St} {pins : List (Addr × Obj)} {s : Shared} {σ : St} {H : Hp} {Q : VK} {use : Option (Value → Sem Unit)} {QQ : Value → Shared → Prop}
    (hc : X.calm = true) (hxe : ∀ e s, X.xe e s → False) (hcell : ∀ y ∈ scope.names, y.2 ≠ .cell) (hkind : scope.kind = .function) (hnames : ∀ y ∈ scope.names, y.2 = .local → scope.names.lookup y.1 = some .local)
    (hfr : ∀ y ∈ scope.names, y.2 = .free → X.env.kindOf y.1 = some .cell ∨ X.env.kindOf y.1 = some .free) (hσ : Sees X scope N σ0)
    (hi : PI X tg iter wi)
    (hg : ∀ cl C s H ex, PG (cxComp X scope N cl C s H ex) tg g) (ht : ∀ cl C s H ex, PTs (cxComp X scope N cl C s H ex) ifs tc) (he : ∀ cl C s H ex, PE (cxComp X scope N cl C s H ex) elt te)
    (hs : ∀ x, foldedSetIterable iter X.env x = pure x) (I : Inv X pins σ H s) (h : tComp σ0 wi g tc te σ H Q)
    (hend : ∀ (p C : Addr) (H' : Hp) (s' : Shared) (m : Str → Option Value) (f : Flow), Inv X pins σ H' s' → FpOk X pins H' C → s'.heap.Ns C m → (∀ h', Heap.SameBut C s'.heap h' → Inv X pins σ H' { s' with heap := h' }) → Q (.ref p) H' →
      compPost (model X.prog X.w) X.A X.xe use QQ (.ref p) C (.ok f) s') :
    wpAny (model X.prog X.w) X.A (comprehension (.ListComp elt [⟨tg, iter, ifs, 0⟩] scope pos) scope X.env pos2 (newList []) false (eval iter X.env) use) QQ X.xe s := by
  obtain ⟨cl, hclos, hcl1, hcl2⟩ := closure_of (env := X.env) (scope := scope) fun y hy hf => I.ok.has y.1 (hfr y hy hf)
  refine wpAny_comprehension_free (use := use) rfl hs hclos hkind hnames (thn (hi pins s σ H _ I h) fun v s1 h1 => thn h1 fun itv s2 h2 => ?_)
  obtain ⟨it, fp, tn, J, H2, e, I2, T, st2, f2, h3⟩ := h2
  subst e
  have hpn : H2 s2.heap.objs.size = none := I2.hok.fresh (Nat.le_refl _)
  obtain ⟨W, ⟨m0, w0⟩, turn⟩ := h3 _ hpn
  refine wpAny_newObj_type ?_
  generalize hp : s2.heap.objs.size = p at *
  have I3 : Inv X pins σ (upd H2 p (.lst [])) { s2 with heap := s2.heap.push { cls := .type "list", dict := none, data := .seq ([] : List Value).toArray } } := by
    refine I2.laid (a := p) (o := .lst []) (t' := s2.toks) (fun b u q => Heap.get?_push_of_some _ q) (Nat.le_of_eq hp) ⟨Nat.zero_le _, [], 0, .nil, ?_⟩
    rw [← hp]
    exact Heap.get?_push_size _ rfl
  have hf3 : ∀ b ∈ fp, FpOk X pins (upd H2 p (.lst [])) b := fun b hb => by
    obtain ⟨o, ho, _⟩ := T.obj _ _ st2 b hb
    have : b ≠ p := by rw [← hp]; exact Nat.ne_of_lt (Heap.lt_size ho)
    exact ⟨by rw [upd_ne this]; exact (f2 b hb).1, (f2 b hb).2⟩
  generalize hs3 : ({ s2 with heap := s2.heap.push { cls := .type "list", dict := none, data := .seq ([] : List Value).toArray } } : Shared) = s3 at *
  have st3 : tn 0 s3.heap := by rw [← hs3]; exact T.keep _ _ _ st2 fun b _ o e => Heap.get?_push_of_some _ e
  generalize hH3 : upd H2 p (.lst []) = H3 at *
  refine wpAny_newFunctionEnv hcell (by intro y hy; simp at hy) (fun h1 hns1 hsb1 => ?_) hkind
  generalize hC : s3.heap.objs.size = C at *
  have keep : ∀ b u, s3.heap.get? b = some u → h1.get? b = some u := fun b u q =>
    hsb1.extBut b u (by rw [← hC]; exact Nat.ne_of_lt (Heap.lt_size q)) (Heap.get?_push_of_some _ q)
  have fpC : ∀ b ∈ fp, b ≠ C := fun b hb => by
    obtain ⟨o, ho, _⟩ := T.obj _ _ st3 b hb
    rw [← hC]; exact Nat.ne_of_lt (Heap.lt_size ho)
  have hCn : H3 C = none := I3.hok.fresh (Nat.le_of_eq hC)
  -- the block's own invariant, at its entry
  have ok' : (cxComp X scope N cl C s3 H3 fp).Ok := by
    refine ⟨I3.mod, hkind, I3.ok.glob, I3.ok.blt, Nat.le_of_eq hC, fun x y c a b => I3.ok.inj x y c (hcl1 x c a) (hcl1 y c b), fun x hx => ?_, fun _ _ z => Bool.noConfusion (show false = true from z), I3.ok.hd, I3.ok.frames, .inl rfl, fun b hb => ⟨fpC b hb, fun x c q => (hf3 b hb).2.2.2.2.1 x c (hcl1 x c q)⟩,
      I3.bs, Nat.le_trans I3.ok.bsz I3.sz, fun b o e hb => ?_, fun b hb z => ?_, I3.stack, I3.stkFree⟩
    · have hx' : (relabel scope X.env).names.lookup x = some .cell ∨ (relabel scope X.env).names.lookup x = some .free := hx
      rcases hx' with z | z
      · rcases lookup_relabel_mem z with y | ⟨_, y⟩
        · exact absurd rfl (hcell _ y)
        · exact hcl2 x y
      · rcases lookup_relabel_mem z with y | ⟨y, _⟩
        · exact hcl2 x y
        · cases y
    · rcases (hf3 b hb).2.2.2.1 with z | z
      · exact I3.ok.noex b o e z
      · exact absurd (Nat.lt_of_lt_of_le (Heap.lt_size e) (Nat.le_trans I3.ok.bsz z)) (Nat.lt_irrefl _)
    · rcases List.mem_cons.mp (I3.stkSub b z) with q | q
      · exact (hf3 b hb).2.1 q
      · exact (hf3 b hb).2.2.1 q
  have J0 : Inv (cxComp X scope N cl C s3 H3 fp) [] (σ0 σ) H3 { s3 with heap := h1, toks := s3.toks + ([] : List (Str × Value)).length } := by
    refine ⟨ok', rfl, I3.bare, Un.kept keep, ⟨_, hns1, fun i x v a b c => ?_⟩, fun x c q => ?_, hCn, fun x c q => I3.freeC x c (hcl1 x c q), fun q hq => absurd (show q ∈ ([] : List (Addr × Obj)) from hq) (by simp), I3.hok.kept keep, (hσ σ).1⟩
    · obtain ⟨hf, j, hj, hv⟩ := (hσ σ).2 i x v a b
      have hm := mem_of_lookupF hf
      obtain ⟨m, hn, hl⟩ := id I3.loc
      have hk := hfr _ hm rfl
      have hvis : Vis X.env.scope x := hk.elim (fun z => .inr (.inl z)) fun z => .inr (.inr z)
      obtain ⟨u, r, lk⟩ := hl j x v hj hv hvis
      refine ⟨u, r, .inr ⟨lookup_relabel_free hf, ?_⟩⟩
      obtain ⟨c', hc'⟩ := hcl2 x hm
      refine ⟨c', hc', ?_⟩
      have hx := hcl1 x c' hc'
      rcases lk with ⟨kl, _⟩ | ⟨_, c2, e2, o2, ho2, hd2⟩
      · rcases hk with z | z <;> rw [kl] at z <;> cases z
      · rw [hx] at e2
        cases e2
        exact ⟨o2, keep _ _ ho2, hd2⟩
    · obtain ⟨v, o, ho, hd⟩ := I3.cell x c (hcl1 x c q)
      exact ⟨v, o, keep _ _ ho, hd⟩
  have st4 : tn 0 h1 := T.keep _ _ _ st3 fun b _ o e => keep b o e
  have stat : ∀ {H' : Hp}, (∀ b ∈ fp, H' b = none) → ∀ b ∈ fp, FpOk (cxComp X scope N cl C s3 H3 fp) [] H' b := fun hn b hb =>
    ⟨hn b hb, fpC b hb, fun z => ok'.exfs b hb z, .inl hb, fun x c q => (hf3 b hb).2.2.2.2.1 x c (hcl1 x c q), fun q hq => absurd (show q ∈ ([] : List (Addr × Obj)) from hq) (by simp)⟩
  -- back to the def
  have back : ∀ {σ' : St} {H' : Hp} {s' : Shared} {pl : List (Addr × Obj)}, Inv (cxComp X scope N cl C s3 H3 fp) pl σ' H' s' → ∀ h', Heap.SameBut C s'.heap h' → Inv X pins σ H' { s' with heap := h' } := fun {σ' H' s' pl} J h' hsb => by
    have I5 : Inv X pins σ H' s' := Inv.call' (ch := fp) I3 J.os J.base J.hok J.bare fun b hb => ⟨(hf3 b hb).2.2.2.1, (hf3 b hb).2.1, (hf3 b hb).2.2.2.2.1, (hf3 b hb).2.2.2.2.2⟩
    refine Inv.turned (it := C) (t' := s'.toks) I5 (fun b o hb e => hsb.extBut b o hb e) J.free (fun z => ?_) (.inr ?_) (fun x c q z => ?_) fun q hq z => ?_
    · exact absurd (show X.env.locals < C by rw [← hC]; exact I3.lt) (by rw [z]; exact Nat.lt_irrefl _)
    · rw [← hC]; exact I3.sz
    · obtain ⟨v, o, ho, _⟩ := I3.cell x c q
      have := Heap.lt_size ho
      rw [z, hC] at this
      exact Nat.lt_irrefl _ this
    · have := Heap.lt_size (I3.pin q hq).1
      rw [z, hC] at this
      exact Nat.lt_irrefl _ this
  have loop : codeAny (model X.prog X.w) X.A (.compLoop (.ListComp elt [⟨tg, iter, ifs, 0⟩] scope pos) 0 (.ref it) (.ref p) (compEnvC scope cl C X.env)) (compPost (model X.prog X.w) X.A X.xe use QQ (.ref p) C) { s3 with heap := h1, toks := s3.toks + ([] : List (Str × Value)).length } := by
    refine codeAny_loop rfl (fun n s' => ∃ i ys σ' H', Inv (cxComp X scope N cl C s3 H3 fp) [] σ' H' s' ∧ tn i s'.heap ∧ (∀ b ∈ fp, H' b = none) ∧ W i n ys σ' H') (fun n s' hI => ?_) m0 ⟨0, [], σ0 σ, H3, J0, st4, fun b hb => (hf3 b hb).1, w0⟩
    obtain ⟨i, ys, σ', H', J', st', fr', w'⟩ := hI
    show wpAny _ X.A ((compTurn (.ListComp elt [⟨tg, iter, ifs, 0⟩] scope pos) 0 (.ref it) (.ref p) (compEnvC scope cl C X.env)).onRaise (fun x => do noteFrame x (compEnvC scope cl C X.env); theTreesLotGoes x)) _ _ s'
    refine wpAny_noted ?_
    rw [compTurn_list]
    rcases turn i n ys σ' H' w' with ⟨stop, q⟩ | ⟨go, step⟩
    · refine wpAny_bind (wpAny_standAt (wpAny_bind (wpAny_mono (T.done (cxComp X scope N cl C s3 H3 fp) rfl rfl rfl hc i [] s' σ' H' X.xe J' (stat fr') st' stop) (fun r s4 h4 => ?_) fun _ _ x => (hxe _ _ x).elim)))
      obtain ⟨hr, I4⟩ := h4
      subst hr
      refine wpAny_pure ?_
      obtain ⟨m, hn, _⟩ := id I4.loc
      have I5 : Inv X pins σ H' s4 := Inv.call' (ch := fp) I3 I4.os I4.base I4.hok I4.bare fun b hb => ⟨(hf3 b hb).2.2.2.1, (hf3 b hb).2.1, (hf3 b hb).2.2.2.2.1, (hf3 b hb).2.2.2.2.2⟩
      exact hend p C H' s4 m _ I5 (I3.fpOk (Nat.le_of_eq hC) I4.free) hn (fun h' hsb => back I4 h' hsb) q
    · refine wpAny_bind (wpAny_standAt (wpAny_bind (wpAny_mono (T.item (cxComp X scope N cl C s3 H3 fp) rfl rfl rfl hc i [] s' σ' H' X.xe J' (stat fr') st' go) (fun r s4 h4 => ?_) fun _ _ x => (hxe _ _ x).elim)))
      obtain ⟨u, hr, h4⟩ := h4
      subst hr
      refine wpAny_bind (wpAny_mono h4 (fun _ s5 h5 => ?_) fun _ _ x => (hxe _ _ x).elim)
      obtain ⟨x, H5, I5, r5, y5, st5, fr5⟩ := h5
      have I5' := I5.pinned (stat fr5) (T.obj _ _ st5)
      refine wpAny_bind (wpAny_mono (hg cl C s3 H3 fp _ s5 σ' H5 x u _ I5' r5 (step x H5 y5)) (fun _ s6 h6 => ?_) fun _ _ x => (hxe _ _ x).elim)
      obtain ⟨σ6, H6, I6, q6⟩ := h6
      have again : ∀ {σ7 : St} {H7 : Hp} {s7 : Shared} {ys7 : List V}, Inv (cxComp X scope N cl C s3 H3 fp) ([] ++ pinsAt fp s5.heap) σ7 H7 s7 → (∃ m', m' < n ∧ W (i + 1) m' ys7 σ7 H7) →
          ∃ m, m < n ∧ ∃ i ys σ' H', Inv (cxComp X scope N cl C s3 H3 fp) [] σ' H' s7 ∧ tn i s7.heap ∧ (∀ b ∈ fp, H' b = none) ∧ W i m ys σ' H' := fun {σ7 H7 s7 ys7} I7 n7 => by
        obtain ⟨m', hm, w7⟩ := n7
        refine ⟨m', hm, i + 1, ys7, σ7, H7, I7.unpinned, T.keep _ _ _ st5 fun b hb o e => (I7.pin (b, o) (List.mem_append_right _ (List.mem_append_right _ (mem_pinsAt hb e)))).1, fun b hb => ?_, w7⟩
        obtain ⟨o, e, d⟩ := T.obj _ _ st5 b hb
        exact (I7.pin (b, o) (List.mem_append_right _ (List.mem_append_right _ (mem_pinsAt hb e)))).2.1
      refine wpAny_bind (wpAny_mono (ht cl C s3 H3 fp _ s6 σ6 H6 _ I6 q6) (fun ok s7 h7 => ?_) fun _ _ x => (hxe _ _ x).elim)
      obtain ⟨H7, I7, q7⟩ := h7
      cases ok with
      | false =>
        rw [if_neg Bool.false_ne_true] at q7
        exact wpAny_pure ⟨rfl, again I7 q7⟩
      | true =>
        rw [if_pos rfl] at q7
        refine wpAny_bind (wpAny_bind (wpAny_mono (he cl C s3 H3 fp _ s7 σ6 H7 _ I7 q7) (fun y s8 h8 => ?_) fun _ _ x => (hxe _ _ x).elim))
        obtain ⟨v, H8, I8, r8, hz, hH8, w8⟩ := h8
        refine wpAny_bind (wpAny_mono (mt_append (X := cxComp X scope N cl C s3 H3 fp) _ s8 σ6 H8 (.ref p) [v] (.ref p) [y] (fun x H9 => x = .non ∧ H9 = upd H8 p (.lst (ys ++ [v]))) I8 rfl (.cons r8 .nil) ⟨p, ys, v, rfl, rfl, hH8, hz, rfl, rfl⟩) (fun _ s9 h9 => ?_) fun _ _ x => (hxe _ _ x).elim)
        obtain ⟨z, H9, I9, _, _, e9⟩ := h9
        subst e9
        exact wpAny_pure (wpAny_pure ⟨rfl, again I9 w8⟩)
  exact codeAny_compStart_list loop (T.self X.A 0 _ _ _ st4 loop)
theorem ps_comp {X : Cx} {elt tg iter : Expr} {ifs : List Expr} {scope : Scope} {pos spos py : Pos} {wi : TI} {g : TG} {tc : TT} {te : TE} {N : List Str} {σ0 : St → St} {i : Nat} {y : Str}
    (hN : X.N.Nodup) (hiy : X.N[i]? = some y) (hy : Loc X.env.scope y)
    (hc : X.calm = true) (hxe : ∀ e s, X.xe e s → False) (hcell : ∀ y ∈ scope.names, y.2 ≠ .cell) (hkind : scope.kind = .function) (hnames : ∀ y ∈ scope.names, y.2 = .local → scope.names.lookup y.1 = some .local)
    (hfr : ∀ y ∈ scope.names, y.2 = .free → X.env.kindOf y.1 = some .cell ∨ X.env.kindOf y.1 = some .free) (hσ : Sees X scope N σ0)
    (hi : PI X tg iter wi)
    (hg : ∀ cl C s H ex, PG (cxComp X scope N cl C s H ex) tg g) (ht : ∀ cl C s H ex, PTs (cxComp X scope N cl C s H ex) ifs tc) (he : ∀ cl C s H ex, PE (cxComp X scope N cl C s H ex) elt te)
    (hs : ∀ x, foldedSetIterable iter X.env x = pure x := by intro _; rfl) (hsw : swapsWith (.ListComp elt [⟨tg, iter, ifs, 0⟩] scope pos) (some (.Name y py)) spos.line X.env = pure true := by rfl)
    (hf : X.fn y = true ∨ X.env.scope.names.lookup y = some .local := by first | exact .inl rfl | exact .inr rfl | assumption) :
    PS X (.Assign [.Name y py] (.ListComp elt [⟨tg, iter, ifs, 0⟩] scope pos) spos) (tAsg (tComp σ0 wi g tc te) (gName i)) := by
  intro pins s σ H D I h
  rw [exec_Assign_Name_used _ _ _ _ hsw]
  refine wpAny_bind (wpAny_standAt (wpAny_bind ?_))
  show wpAny _ X.A (do let _ ← comprehension (.ListComp elt [⟨tg, iter, ifs, 0⟩] scope pos) scope X.env _ (newList []) false (eval iter X.env) (some (assign (.Name y py) X.env))) _ _ s
  refine wpAny_bind (wpAny_mono (comp_core (use := some (assign (.Name y py) X.env)) (QQ := fun _ s' => SP X pins D .next s') hc hxe hcell hkind hnames hfr hσ hi hg ht he hs I h ?_) (fun _ s' hq => wpAny_pure (wpAny_pure hq)) fun _ _ e => e)
  intro p C H' s' m f I5 fC hn back q
  show wpAny _ X.A (assign (.Name y py) X.env (.ref p)) _ _ _
  have hnC := id hn
  obtain ⟨o, es, ep, ho, hd, _⟩ := hnC
  have Ip := I5.pinned (fp := [C]) (fun b hb => by rw [List.mem_singleton.mp hb]; exact fC) (fun b hb => ⟨o, by rw [List.mem_singleton.mp hb]; exact ho, fun v z => by rw [hd] at z; cases z⟩)
  refine wpAny_mono (pg_name (pos := py) hN hiy hy hf (pins ++ pinsAt [C] s'.heap) s' σ H' (.ref p) (.ref p) _ Ip rfl q) (fun _ s2 h2 => ?_) fun _ _ e => e
  obtain ⟨σ2, H2, I2, q2⟩ := h2
  have hp2 := I2.pin (C, o) (List.mem_append_right _ (List.mem_append_right _ (mem_pinsAt (by simp) ho)))
  refine ⟨m, hn.at' (fun o' e => ?_), fun h' hsb => ⟨σ2, H2, ?_, q2⟩⟩
  · rw [ho] at e; cases e; exact hp2.1
  · exact Inv.turned (it := C) (t' := s2.toks) I2.unpinned (fun b o hb e => hsb.extBut b o hb e) hp2.2.1 hp2.2.2.1 fC.2.2.2.1 fC.2.2.2.2.1 fC.2.2.2.2.2
end L2
namespace L2
open PySem PySem.Spec PyProof.Rows
section
variable {X : Cx} {e : Expr} {te : TE} {p2 p3 p4 pos : Pos} {k1 : Nat}
/-- xs[::-1] of a list: a new list -/
def tRevL (K : PySem.W.Frag) (te : TE) : TE := fun σ H Q => te σ H fun x H1 => ∃ a xs, x = .ref a ∧ SqL K H1 a xs ∧ ∀ p, H1 p = none → Q (.ref p) (upd H1 p (.lst xs.reverse))
theorem pe_revL {kk : _} (he : PE X e te) : PE X (.Subscript e (.Slice none none (some (.UnaryOp .USub (.Constant (.int 1) kk p3) p4)) p2) pos) (tRevL X.K te) := by
  intro pins s σ H Q I h
  refine Subscript_ (thn (he pins s σ H _ I h) fun v s1 ⟨x, H1, I1, r1, q1⟩ => ?_)
  obtain ⟨a, xs, rfl, hx, q⟩ := q1
  have hst : PO X (some (.UnaryOp .USub (.Constant (.int 1) kk p3) p4)) (tPart (tUn (rU fun i => .int (-i)) (tC (.int 1)))) := po_some (pe_un un_neg pe_int)
  refine wpAny_Slice ?_
  rw [evalPart_none]
  refine wpAny_pure (wpAny_pure ?_)
  refine thn (hst pins s1 σ H1 (fun st H2 => st = some (-1) ∧ H2 = H1) I1 ?_) fun vk s2 h2 => ?_
  · exact ⟨_, rfl, _, rfl, rfl, rfl⟩
  obtain ⟨st, H2, I2, pk, rfl, rfl⟩ := h2
  have I4 : Inv X pins σ H2 { s2 with heap := s2.heap.push { cls := .type "slice", data := .fields #[.none, .none, vk] } } := I2.kept (t' := s2.toks) fun b ob q => Heap.get?_push_of_some _ q
  cases r1
  obtain ⟨its, r, ht, hz⟩ := I4.list hx
  have hlen := r.length
  refine tail_any (T := "list") (ops := [.ref a, .ref s2.heap.objs.size]) ht.isList.typeIs slot_list_getitem.lookup ?_ (by with_unfolding_all rfl)
  refine wpAny_getItem_list_slice ht.isList (Heap.IsSliceOf.new ..) .none .none pk (by decide) ?_ (by rw [List.size_toArray] <;> omega)
  rw [PySem.W.krv_pick]
  refine ⟨.ref _, _, I4.laid (t' := s2.toks) (o := .lst xs.reverse) (fun b ob q => Heap.get?_push_of_some _ q) (Nat.le_refl _) ?_, rfl, q _ (I4.hok.fresh (Nat.le_refl _))⟩
  exact ⟨by rw [List.length_reverse]; exact hz, _, 0, r.reverse, Heap.get?_push_size _ rfl⟩
end
end L2

set_option Elab.async false
set_option linter.all false
set_option maxRecDepth 100000
set_option maxHeartbeats 4000000
namespace L2
open PySem PySem.Spec PyProof.Rows MA
/-- a comprehension's names: its own, then the def's that it reads -/
theorem Sees.frees {X : Cx} {scope : Scope} (ks : List Str) (fs : List (Str × Nat)) (h : ∀ p ∈ fs, scope.names.lookup p.1 = some .free ∧ X.N[p.2]? = some p.1) :
    Sees X scope (ks ++ fs.map (·.1)) (fun σ => ks.map (fun _ => none) ++ fs.map fun p => σ.getD p.2 none) := by
  intro σ
  refine ⟨by simp, fun i x v h1 h2 => ?_⟩
  by_cases hi : i < ks.length
  · rw [List.getElem?_append_left (by simpa using hi), List.getElem?_map] at h2
    cases e : ks[i]? with
    | none => rw [e] at h2; cases h2
    | some y => rw [e] at h2; cases h2
  · rw [List.getElem?_append_right (by omega), List.getElem?_map] at h1
    rw [List.getElem?_append_right (by simp; omega), List.getElem?_map, List.length_map] at h2
    cases e : fs[i - ks.length]? with
    | none => rw [e] at h1; cases h1
    | some p =>
      rw [e] at h1 h2
      cases h1
      obtain ⟨a, b⟩ := h p (List.mem_of_getElem? e)
      refine ⟨a, p.2, b, ?_⟩
      have h3 : σ.getD p.2 none = some v := by simpa using h2
      rw [List.getD_eq_getElem?_getD] at h3
      cases z : σ[p.2]? with
      | none => rw [z] at h3; cases h3
      | some u => rw [z] at h3; exact congrArg some h3
/-- [.. for k in range(n)], no test -/
theorem comp_rng {n : Nat} {lo : Int} {te : TE} {H : Hp} {R : Addr → Hp → Prop} {fs : St} (Pv : Addr → Nat → List V → Hp → Prop) (hn : n ≤ 100000) (hp0 : ∀ p, H p = none → Pv p 0 [] (upd H p (.lst [])))
    (hte : ∀ p i ys H', H p = none → i < n → ys.length = i → Pv p i ys H' → H' p = some (.lst ys) → ∀ Q' : VK, (∀ v H'', H'' p = some (.lst ys) → Pv p (i + 1) (ys ++ [v]) (upd H'' p (.lst (ys ++ [v]))) → Q' v H'') → te (some (.int (lo + i)) :: fs) H' Q')
    (q : ∀ p ys H', H p = none → Pv p n ys H' → H' p = some (.lst ys) → ys.length = n → R p H') :
    ∀ p, H p = none → ∃ W : Nat → Nat → List V → St → Hp → Prop, (∃ m, W 0 m [] (none :: fs) (upd H p (.lst []))) ∧ ∀ i m ys σ' H', W i m ys σ' H' →
      ((Itr lo n).stop i H' ∧ R p H') ∨ ((Itr lo n).go i H' ∧ ∀ x H2, (Itr lo n).yld i H' x H2 → gName 0 x σ' H2 fun σ2 H3 => tTT σ2 H3 fun b H4 => if b = true then te σ2 H4 fun v H5 => ys.length < sizeLine ∧ H5 p = some (.lst ys) ∧ (∃ m', m' < m ∧ W (i + 1) m' (ys ++ [v]) σ2 (upd H5 p (.lst (ys ++ [v]))))
        else ∃ m', m' < m ∧ W (i + 1) m' ys σ2 H4) := by
  intro p hp
  refine ⟨fun i m ys σ' H' => m = n - i ∧ i ≤ n ∧ ys.length = i ∧ Pv p i ys H' ∧ H' p = some (.lst ys) ∧ ∃ o, σ' = o :: fs, ⟨n, by simp, Nat.zero_le _, rfl, hp0 p hp, upd_same, _, rfl⟩, ?_⟩
  rintro i m ys σ' H' ⟨rfl, hi, hl, pv, hp', o, rfl⟩
  by_cases hlt : i < n
  · refine .inr ⟨hlt, fun x H2 hy => ?_⟩
    obtain ⟨rfl, rfl⟩ := hy
    change te (some (.int (lo + i)) :: fs) H2 _
    refine hte p i ys H2 hp hlt hl pv hp' _ fun v H5 h5 pv5 => ⟨?_, h5, n - (i + 1), by omega, rfl, hlt, by simp [hl], pv5, upd_same, _, rfl⟩
    rw [hl, sizeLine_eq]; omega
  · have e : i = n := by omega
    subst e
    exact .inl ⟨Nat.le_refl _, q p ys H' hp pv hp' hl⟩
/-! ### sums over one common bottom -/
end L2
namespace L2
open PySem
theorem fr_nil {C : Str × Nat → Prop} : ∀ p ∈ ([] : List (Str × Nat)), C p := fun _ h => nomatch h
theorem fr_cons {C : Str × Nat → Prop} {a : Str × Nat} {l : List (Str × Nat)} (h : C a) (t : ∀ p ∈ l, C p) : ∀ p ∈ a :: l, C p := fun p hp => (List.mem_cons.mp hp).elim (fun e => e ▸ h) (t p)
theorem hfr_of {scope : Scope} {env : Env} (h : scope.names.all (fun y => y.2 != .free || env.kindOf y.1 == some .cell || env.kindOf y.1 == some .free) = true) : ∀ y ∈ scope.names, y.2 = .free → env.kindOf y.1 = some .cell ∨ env.kindOf y.1 = some .free := by
  intro y hy hf
  have := List.all_eq_true.mp h y hy
  rw [hf] at this
  simpa using this
end L2

set_option Elab.async false
set_option linter.all false
set_option maxRecDepth 100000
set_option maxHeartbeats 4000000
namespace L2
open PySem PySem.Spec PyProof.Rows
section
variable {X : Cx}
/-- sum(xs), xs a list of ints -/
def rSum (K : PySem.W.Frag) : List V → Hp → VK → Prop := fun xs H Q => ∃ (l : Addr) (ns : List Int), xs = [.ref l] ∧ SqL K H l (ns.map V.int) ∧ Q (.int ns.sum) H
theorem call_sum (hc : X.calm = true) : CallR X (.builtin "sum") (rSum X.K) := by
  intro pins s σ H xs us Q I r h
  obtain ⟨l, ns, rfl, hl, q⟩ := h
  obtain ⟨u, rfl, ru⟩ := vals1 r
  cases ru
  obtain ⟨its, rv, p, hz⟩ := I.list hl
  have hi := intsAre_of rv
  obtain ⟨ys, e⟩ := hi.allInts.items
  have hnum : ns = ys.toList.map (·.1) := by
    have h1 := hi.numsOf
    have h2 := nums_intItems ys
    rw [← e] at h2
    rw [← h1, ← h2]
  refine sum_intListG (I.ok.hd hc) (xs := ys) (by rw [← e]; exact p.isList) fun h' tk t' hk => ?_
  refine ⟨.int ns.sum, H, I.kept (t' := tk) hk, ⟨t', ?_⟩, q⟩
  rw [preSum_eq, List.take_of_length_le (by simp), hnum]
end
end L2
namespace L2
open PySem PySem.Spec PyProof.Rows MA
section
variable {X : Cx}
theorem ip_mul : PIp X .Mult (fun x y H Q => ∃ i j, x = .int i ∧ y = .int j ∧ CMul i j ∧ Q (.int (i * j)) H) := by
  intro pins s σ H x y v u Q I r1 r2 h
  obtain ⟨i, j, e1, e2, hc, q⟩ := h
  subst e1; subst e2
  obtain ⟨t, rfl⟩ := r1
  obtain ⟨t', rfl⟩ := r2
  exact imul_int ⟨.int _, H, I.tok _, ⟨_, rfl⟩, q⟩ hc.ok
end
/-- [.. for x in xs], xs a list, no test -/
theorem comp_lst {K : PySem.W.Frag} {a : Addr} {xs : List V} {te : TE} {H : Hp} {R : Addr → Hp → Prop} {fs : St} (Pv : Addr → Nat → List V → Hp → Prop) (hn : xs.length ≤ 100000) (hp0 : ∀ p, H p = none → Pv p 0 [] (upd H p (.lst [])))
    (hl : ∀ p i ys H', H p = none → Pv p i ys H' → H' a = some (.lst xs))
    (hte : ∀ p i ys H' x, H p = none → xs[i]? = some x → ys.length = i → Pv p i ys H' → H' p = some (.lst ys) → ∀ Q' : VK, (∀ v H'', H'' p = some (.lst ys) → Pv p (i + 1) (ys ++ [v]) (upd H'' p (.lst (ys ++ [v]))) → Q' v H'') → te (some x :: fs) H' Q')
    (q : ∀ p ys H', H p = none → Pv p xs.length ys H' → H' p = some (.lst ys) → ys.length = xs.length → R p H') :
    ∀ p, H p = none → ∃ W : Nat → Nat → List V → St → Hp → Prop, (∃ m, W 0 m [] (none :: fs) (upd H p (.lst []))) ∧ ∀ i m ys σ' H', W i m ys σ' H' →
      ((Itl K a).stop i H' ∧ R p H') ∨ ((Itl K a).go i H' ∧ ∀ x H2, (Itl K a).yld i H' x H2 → gName 0 x σ' H2 fun σ2 H3 => tTT σ2 H3 fun b H4 => if b = true then te σ2 H4 fun v H5 => ys.length < sizeLine ∧ H5 p = some (.lst ys) ∧ (∃ m', m' < m ∧ W (i + 1) m' (ys ++ [v]) σ2 (upd H5 p (.lst (ys ++ [v]))))
        else ∃ m', m' < m ∧ W (i + 1) m' ys σ2 H4) := by
  intro p hp
  refine ⟨fun i m ys σ' H' => m = xs.length - i ∧ i ≤ xs.length ∧ ys.length = i ∧ Pv p i ys H' ∧ H' p = some (.lst ys) ∧ ∃ o, σ' = o :: fs, ⟨xs.length, by simp, Nat.zero_le _, rfl, hp0 p hp, upd_same, _, rfl⟩, ?_⟩
  rintro i m ys σ' H' ⟨rfl, hi, hlen, pv, hp', o, rfl⟩
  have hla := hl p i ys H' hp pv
  by_cases hlt : i < xs.length
  · refine .inr ⟨⟨xs, xs[i], SqL.of hla, List.getElem?_eq_getElem hlt⟩, fun x H2 hy => ?_⟩
    obtain ⟨rfl, hx⟩ := hy
    have hx' := hx xs (SqL.of hla)
    change te (some x :: fs) H2 _
    refine hte p i ys H2 x hp hx' hlen pv hp' _ fun v H5 h5 pv5 => ⟨?_, h5, xs.length - (i + 1), by omega, rfl, hlt, by simp [hlen], pv5, upd_same, _, rfl⟩
    rw [hlen, sizeLine_eq]; omega
  · have e : i = xs.length := by omega
    subst e
    exact .inl ⟨⟨xs, SqL.of hla, Nat.le_refl _⟩, q p ys H' hp pv hp' hlen⟩
/-- pairs of ints in the heap -/
def PrAt (H : Hp) (v : V) (p : Int × Int) : Prop := ∃ a, v = .ref a ∧ H a = some (.tup [.int p.1, .int p.2])
def Prs (H : Hp) : List V → List (Int × Int) → Prop := Paired (PrAt H)
theorem PrAt.same {H H' : Hp} {v : V} {p : Int × Int} (s : Same H H') (h : PrAt H v p) : PrAt H' v p := let ⟨a, e, h⟩ := h; ⟨a, e, s _ _ h⟩
theorem PrAt.updL {H : Hp} {l : Addr} {zs : List V} {o : HO} {v : V} {p : Int × Int} (hl : H l = some (.lst zs)) (h : PrAt H v p) : PrAt (upd H l o) v p := by
  obtain ⟨a, rfl, ha⟩ := h
  exact ⟨a, rfl, by rw [upd_ne (ne_of ha hl (by intro z; cases z))]; exact ha⟩
theorem Prs.same {H H' : Hp} (s : Same H H') : ∀ {xs : List V} {ps : List (Int × Int)}, Prs H xs ps → Prs H' xs ps
  | _, _, .nil => .nil
  | _, _, .cons r t => .cons (r.same s) (Prs.same s t)
theorem Prs.updL {H : Hp} {l : Addr} {zs : List V} {o : HO} (hl : H l = some (.lst zs)) : ∀ {xs : List V} {ps : List (Int × Int)}, Prs H xs ps → Prs (upd H l o) xs ps
  | _, _, .nil => .nil
  | _, _, .cons r t => .cons (r.updL hl) (Prs.updL hl t)
theorem Prs.snoc {H : Hp} {v : V} {p : Int × Int} (h : PrAt H v p) : ∀ {xs : List V} {ps : List (Int × Int)}, Prs H xs ps → Prs H (xs ++ [v]) (ps ++ [p])
  | _, _, .nil => .cons h .nil
  | _, _, .cons r t => .cons r (Prs.snoc h t)
end L2

set_option Elab.async false
set_option linter.all false
set_option maxRecDepth 100000
set_option maxHeartbeats 4000000
namespace L2
open PySem PySem.Spec PyProof.Rows
section
variable {X : Cx} {e : Expr} {t : TA} {p p3 p4 pos : Pos}
end
end L2
namespace L2
open PySem PySem.Spec PyProof.Rows MA
section
variable {X : Cx}
def rSum0 : List V → Hp → VK → Prop := fun xs H Q => ∃ (l : Addr) (ns : List Int), xs = [.ref l] ∧ H l = some (.lst (ns.map V.int)) ∧ Q (.int ns.sum) H
theorem call_sum0 (hc : X.calm = true) : CallR X (.builtin "sum") rSum0 := by
  intro pins s σ H xs us Q I r h
  obtain ⟨l, ns, e, hl, q⟩ := h
  exact call_sum hc pins s σ H xs us Q I r ⟨l, ns, e, SqL.of hl, q⟩
end
end L2
namespace L2
open PySem PySem.Spec PyProof.Rows MA
section
variable {X : Cx}
end
end L2

set_option Elab.async false
set_option linter.all false
set_option maxRecDepth 100000
set_option maxHeartbeats 1000000
namespace L2
open PySem PySem.Spec PyProof.Rows MA
section
variable {X : Cx}
end
end L2

set_option Elab.async false
set_option linter.all false
set_option maxRecDepth 100000
set_option maxHeartbeats 1000000
namespace L2
open PySem PySem.Spec PyProof.Rows
section
variable {X : Cx} {pins : List (Addr × Obj)} {σ : St} {H : Hp} {s : Shared} {h' : Heap} {fp : List Addr}
/-- several records of ours have turned -/
theorem Inv.turnedL {t' : Nat} (I : Inv X pins σ H s) (hf : ∀ b ∈ fp, FpOk X pins H b) (k : ∀ b o, b ∉ fp → s.heap.get? b = some o → h'.get? b = some o) : Inv X pins σ H { s with heap := h', toks := t' } := by
  have nit : ∀ b u, H b = some u → b ∉ fp := fun b u e z => by rw [(hf b z).1] at e; cases e
  have hL : X.env.locals ∉ fp := fun z => (hf _ z).2.1 rfl
  refine I.step (g' := s.gens) (d' := s.drawn) (ch := fp) (fun b hb => ⟨(hf b hb).2.2.2.1, (hf b hb).2.1, (hf b hb).2.2.2.2.1, (hf b hb).2.2.2.2.2⟩) (fun b o _ _ hc e _ => k b o hc e) (fun b o _ _ hc e _ => ⟨o.slots, k b o hc e⟩) (fun _ _ _ _ n => n)
    (fun b o hc e => ⟨o, k b o hc e⟩) (fun _ _ e => e) (fun _ _ _ e => e) (fun b ps e => ⟨#[], by rw [e]; simp⟩) (fun m hm => ?_) (fun b u e => ?_) I.bare
  · obtain ⟨o, es, ep, ho, r⟩ := hm
    exact ⟨o, es, ep, k _ o hL ho, r⟩
  · refine (I.hok b u e).stay (fun c v hc q => k c v ?_ q) (fun _ q => q) fun _ _ q => q
    rcases hc with z | z
    · rw [z]; exact nit b u e
    · exact nit c _ z
/-- .. and a new object is tracked -/
theorem Inv.turnedNew {t' : Nat} {T : Addr} {u : HO} (I : Inv X pins σ H s) (hf : ∀ b ∈ fp, FpOk X pins H b) (k : ∀ b o, b ∉ fp → s.heap.get? b = some o → h'.get? b = some o) (hT : s.heap.objs.size ≤ T) (new : ObjOk X.prog X.w (upd H T u) h' T u) :
    Inv X pins σ (upd H T u) { s with heap := h', toks := t' } := by
  have hn : H T = none := I.hok.fresh hT
  have nit : ∀ b u, H b = some u → b ∉ fp := fun b u e z => by rw [(hf b z).1] at e; cases e
  have hL : X.env.locals ∉ fp := fun z => (hf _ z).2.1 rfl
  have nT : ∀ b o, s.heap.get? b = some o → b ≠ T := fun b o e => Nat.ne_of_lt (Nat.lt_of_lt_of_le (Heap.lt_size e) hT)
  refine I.step (g' := s.gens) (d' := s.drawn) (ch := fp) (fun b hb => ⟨(hf b hb).2.2.2.1, (hf b hb).2.1, (hf b hb).2.2.2.2.1, (hf b hb).2.2.2.2.2⟩) (fun b o _ _ hc e _ => k b o hc e) (fun b o _ _ hc e _ => ⟨o.slots, k b o hc e⟩) (fun b o _ e n => by rw [upd_ne (nT b o e)]; exact n)
    (fun b o hc e => ⟨o, k b o hc e⟩) (fun b xs e => by rw [upd_ne (ne_of_none e hn)]; exact e) (fun b o v e => by rw [upd_ne (ne_of_none e hn)]; exact e) (fun b ps e => ⟨#[], by rw [upd_ne (ne_of_none e hn), e]; simp⟩) (fun m hm => ?_) (fun b v e => ?_) I.bare
  · obtain ⟨o, es, ep, ho, r⟩ := hm
    exact ⟨o, es, ep, k _ o hL ho, r⟩
  · by_cases hb : b = T
    · subst hb; rw [upd_same] at e; cases e; exact new
    · rw [upd_ne hb] at e
      refine (I.hok b v e).stay (fun c v' hc q => k c v' ?_ q) (fun c q => by rw [upd_ne (ne_of_none q hn)]; exact q) (fun c xs q => by rw [upd_ne (ne_of_none q hn)]; exact q) fun c ob q => by rw [upd_ne (ne_of_none q hn)]; exact q
      rcases hc with z | z
      · rw [z]; exact nit b v e
      · exact nit c _ z
end
/-- the pairs of two lists -/
def Itz (K : PySem.W.Frag) (a b : Addr) : It :=
  ⟨fun i H => ∃ xs ys x y, SqL K H a xs ∧ SqL K H b ys ∧ xs[i]? = some x ∧ ys[i]? = some y,
   fun i H v H' => ∃ p x y, v = .ref p ∧ H p = none ∧ H' = upd H p (.tup [x, y]) ∧ ∀ xs ys, SqL K H a xs → SqL K H b ys → xs[i]? = some x ∧ ys[i]? = some y,
   fun i H => ∃ xs ys, SqL K H a xs ∧ SqL K H b ys ∧ (xs.length ≤ i ∨ ys.length ≤ i)⟩
theorem turn_zip {P : Program} {w : World} {K : PySem.W.Frag} {elts : List Expr} {c : Nat} {pos : Pos} {z TI TO i1 i2 a b : Addr} (D : ZipApart z TI TO i1 i2 a b) :
    Turn P w K (.Tuple elts c pos) (Itz K a b) [z, TI, TO, i1, i2] z (fun i h => IsZip h z TI TO .none ∧ IsPair h TI (.ref i1) (.ref i2) ∧ (∃ u v, IsPair h TO u v) ∧ h.IsListIter i1 a i ∧ h.IsListIter i2 b i) where
  mem := by simp
  obj := fun i h st x hx => by
    obtain ⟨hz, hTI, ⟨u, v, hTO⟩, ⟨o1, e1, c1, d1⟩, o2, e2, c2, d2⟩ := st
    simp only [List.mem_cons, List.not_mem_nil, or_false] at hx
    rcases hx with rfl | rfl | rfl | rfl | rfl
    · exact ⟨_, hz, fun _ q => by cases q⟩
    · exact ⟨_, hTI, fun _ q => by cases q⟩
    · exact ⟨_, hTO, fun _ q => by cases q⟩
    · exact ⟨_, e1, fun _ q => by rw [d1] at q; cases q⟩
    · exact ⟨_, e2, fun _ q => by rw [d2] at q; cases q⟩
  keep := fun i h h' st k => by
    obtain ⟨hz, hTI, ⟨u, v, hTO⟩, h1, h2⟩ := st
    exact ⟨k z (by simp) _ hz, k TI (by simp) _ hTI, ⟨u, v, k TO (by simp) _ hTO⟩, h1.at fun o e => k i1 (by simp) o e, h2.at fun o e => k i2 (by simp) o e⟩
  item := by
    intro X hP hw hK hc i pins s σ H E I hf st hg
    subst hP hw hK
    obtain ⟨xs, ys, x, y, hq1, hq2, hx, hy⟩ := hg
    obtain ⟨its1, rv1, p1, _⟩ := I.list hq1
    obtain ⟨its2, rv2, p2, _⟩ := I.list hq2
    obtain ⟨u, hu, ru⟩ := rv1.get hx
    obtain ⟨v, hv, rv⟩ := rv2.get hy
    obtain ⟨hz, hTI, ⟨u0, v0, hTO⟩, h1, h2⟩ := st
    refine wpAny_pyNext_zip_item D hz hTI hTO h1 h2 p1.isList p2.isList (x := u) (y := v) (by simpa using hu) (by simpa using hv) fun h' a1 a2 a3 a4 a5 a6 hk => ⟨_, rfl, ?_⟩
    have lt : ∀ {c o}, s.heap.get? c = some o → s.heap.objs.size ≠ c := fun e => Nat.ne_of_gt (Heap.lt_size e)
    refine wpAny_letOwnedTupleGo_zip (s := { s with heap := h' }) a1 fun h'' b1 sb => ?_
    have hn : H s.heap.objs.size = none := I.hok.fresh (Nat.le_refl _)
    have kk : ∀ c o, c ∉ [z, TI, TO, i1, i2] → s.heap.get? c = some o → h''.get? c = some o := fun c o hc' e => by
      simp only [List.mem_cons, List.not_mem_nil, or_false, not_or] at hc'
      obtain ⟨n1, n2, n3, n4, n5⟩ := hc'
      exact sb.extBut _ _ n1 (hk c o n1 n3 n4 n5 e)
    have T1 : IsPair h'' s.heap.objs.size u v := sb.extBut _ _ (lt hz) a5
    refine ⟨.ref s.heap.objs.size, upd H s.heap.objs.size (.tup [x, y]), I.turnedNew (t' := s.toks) hf kk (Nat.le_refl _) ⟨by show 2 ≤ _; decide, [u, v], .cons ru (.cons rv .nil), _, T1, rfl, _, rfl, rfl⟩, rfl, ⟨_, x, y, rfl, hn, rfl, fun xs' ys' q1 q2 => ?_⟩, ⟨b1, ?_, ⟨_, _, sb.extBut _ _ D.TOz a2⟩, a3.extBut sb.extBut D.i1z, a4.extBut sb.extBut D.i2z⟩, fun b hb => ?_⟩
    · rw [I.list_inj q1 hq1, I.list_inj q2 hq2]; exact ⟨hx, hy⟩
    · exact sb.extBut _ _ D.TIz (hk _ _ D.TIz D.TITO D.TIi1 D.TIi2 hTI)
    · rw [upd_ne]
      · exact (hf b hb).1
      · simp only [List.mem_cons, List.not_mem_nil, or_false] at hb
        obtain ⟨o1, e1, _, _⟩ := h1
        obtain ⟨o2, e2, _, _⟩ := h2
        rcases hb with rfl | rfl | rfl | rfl | rfl
        · exact (lt hz).symm
        · exact (lt hTI).symm
        · exact (lt hTO).symm
        · exact (lt e1).symm
        · exact (lt e2).symm
  done := by
    intro X hP hw hK hc i pins s σ H E I hf st hg
    subst hP hw hK
    obtain ⟨xs, ys, hq1, hq2, hx⟩ := hg
    obtain ⟨its1, rv1, p1, _⟩ := I.list hq1
    obtain ⟨its2, rv2, p2, _⟩ := I.list hq2
    have l1 := rv1.length
    have l2 := rv2.length
    obtain ⟨hz, hTI, ⟨u0, v0, hTO⟩, h1, h2⟩ := st
    refine wpAny_pyNext_zip_end (I.ok.hd hc) D hz hTI hTO h1 h2 p1.isList p2.isList (by simp; omega) fun h' hk => ⟨rfl, I.turnedL (t' := s.toks) hf fun c o hc' e => ?_⟩
    simp only [List.mem_cons, List.not_mem_nil, or_false, not_or] at hc'
    obtain ⟨n1, n2, n3, n4, n5⟩ := hc'
    exact hk c o n1 n3 n4 n5 e
  self := fun _ _ _ _ _ st h => wpAny_pyIter_zip st.1 h
def iZip (K : PySem.W.Frag) (ta : TA) : TI := fun σ H R => ta σ H fun vs H1 => ∃ a b, vs = [.ref a, .ref b] ∧ (∃ xs, SqL K H1 a xs) ∧ (∃ ys, SqL K H1 b ys) ∧ R (Itz K a b) H1
theorem zip_apart {n a b : Nat} (ha : a < n) (hb : b < n) : ZipApart (n + 4) (n + 2) (n + 3) n (n + 1) a b := by
  constructor <;> (show ¬ ((_ : Nat) = _)) <;> omega
theorem boot_zip : bootBuiltins "zip" = some (.type "zip") := by decide +kernel
theorem pi_zip {X : Cx} {elts : List Expr} {c : Nat} {tpos : Pos} {a b : Expr} {ta : TA} {p pos : Pos} (hg : Gl X "zip") (hm : X.mg "zip" = none) (ha : PA X [a, b] ta) (hs : starEach [a, b] X.env = [(false, eval a X.env), (false, eval b X.env)] := by rfl) (hs2 : starEach [b] X.env = [(false, eval b X.env)] := by rfl) :
    PI X (.Tuple elts c tpos) (.Call (.Name "zip" p) [a, b] [] pos) (iZip X.K ta) := by
  intro pins s σ H R I h
  refine Call_ (ld_blt I hg hm boot_zip (PyProof.Rows.callWith_type1 (thn (ha pos pins s σ H _ I h) fun us s1 ⟨vs, H1, I1, r1, q1⟩ => ?_) (by rw [hs, hs2]) (by rw [hs2]; rfl)))
  obtain ⟨a, b, e, ⟨xs, hq1⟩, ⟨ys, hq2⟩, q⟩ := q1
  subst e
  cases r1 with
  | cons r rr =>
    cases rr with
    | cons r' rr =>
      cases rr
      cases r
      cases r'
      obtain ⟨its1, rv1, p1, _⟩ := I1.list hq1
      obtain ⟨its2, rv2, p2, _⟩ := I1.list hq2
      have la : a < s1.heap.objs.size := by obtain ⟨o, n, e, _⟩ := p1; exact Heap.lt_size e
      have lb : b < s1.heap.objs.size := by obtain ⟨o, n, e, _⟩ := p2; exact Heap.lt_size e
      refine call_zip_2 p1.isList p2.isList fun h' a1 a2 a3 a4 a5 a6 hk => wpAny_pyIter_zip a1 ?_
      have D : ZipApart (s1.heap.objs.size + 4) (s1.heap.objs.size + 2) (s1.heap.objs.size + 3) s1.heap.objs.size (s1.heap.objs.size + 1) a b := zip_apart la lb
      refine ⟨_, _, _, _, H1, rfl, I1.kept (t' := s1.toks) hk, turn_zip D, ⟨a1, a2, ⟨_, _, a3⟩, a4, a5⟩, fun x hx => ?_, q⟩
      have hx' : s1.heap.objs.size ≤ x := by
        simp only [List.mem_cons, List.not_mem_nil, or_false] at hx
        rcases hx with rfl | rfl | rfl | rfl | rfl <;> (show (_ : Nat) ≤ (_ : Nat)) <;> omega
      exact I1.fpOk hx' (I1.hok.fresh hx')
end L2

set_option Elab.async false
set_option linter.all false
set_option maxRecDepth 100000
set_option maxHeartbeats 1000000
namespace My
open PySem L2 MA
/-! a pen that is a list: its cells, where it stands, what is left -/
abbrev penV (c : Addr) (a l : Int) : List V := [.ref c, .int a, .int l]
structure SameY (p : Addr) (H H' : Hp) : Prop where
  all : ∀ b o, H b = some o → b ≠ p → H' b = some o
  pen : ∀ c a l, H p = some (.lst (penV c a l)) → ∃ a' l', H' p = some (.lst (penV c a' l'))
theorem SameY.refl (p : Addr) (H : Hp) : SameY p H H := ⟨fun _ _ h _ => h, fun _ a l h => ⟨a, l, h⟩⟩
theorem SameY.trans {p : Addr} {H H1 H2 : Hp} (a : SameY p H H1) (b : SameY p H1 H2) : SameY p H H2 :=
  ⟨fun c o h n => b.all c o (a.all c o h n) n, fun c x l h => let ⟨x', l', h'⟩ := a.pen c x l h; b.pen c x' l' h'⟩
theorem Same.y {p : Addr} {H H' : Hp} (a : Same H H') : SameY p H H' := ⟨fun b o h _ => a b o h, fun _ x l h => ⟨x, l, a _ _ h⟩⟩
theorem SameY.upd {p c : Addr} {H : Hp} {a l a' l' : Int} (h : H p = some (.lst (penV c a l))) : SameY p H (upd H p (.lst (penV c a' l'))) :=
  ⟨fun b o e hb => by rw [upd_ne hb]; exact e, fun c' x y e => by rw [h] at e; cases e; exact ⟨a', l', upd_same⟩⟩
end My

set_option Elab.async false
set_option linter.all false
set_option maxRecDepth 100000
set_option maxHeartbeats 1000000
namespace L2
open PySem PySem.Spec PyProof.Rows
def gTup0 (n : Nat) (t : TGs) : TG := fun v σ H Q => ∃ a xs, v = .ref a ∧ H a = some (.tup xs) ∧ xs.length = n ∧ t xs σ H Q
theorem pg_tup0 {X : Cx} {pos : Pos} {es : List Expr} {k : Nat} {t : TGs} {n : Nat} (hc : X.calm = true) (h : PGs X es t)
    (hn : (assignEach es X.env).length = n := by rfl) (hst : (assignEach es X.env).findIdx? (·.1) = none := by rfl) : PG X (.Tuple es k pos) (gTup0 n t) := by
  intro pins s σ H v u Q I r hw
  obtain ⟨a, xs, e1, hq, hl, hw⟩ := hw
  exact pg_tup hc h hn hst pins s σ H v u Q I r ⟨a, xs, e1, SqT.of hq, hl, hw⟩
end L2
namespace My
open PySem L2 MA
end My

set_option Elab.async false
set_option linter.all false
set_option maxRecDepth 100000
set_option maxHeartbeats 4000000
namespace L2
open PySem PySem.Spec PyProof.Rows
section
variable {prog : Program} {w : World} {A : Around} {E : Value → Shared → Prop} {s : Shared}
/-- a tuple's iterator, drawn from -/
theorem nxt_tup_item {it t : Addr} {i : Nat} {its : Array Value} {x : Value} {Q : Value → Shared → Prop} (hi : s.heap.IsTupleIter it t i) (hs : s.heap.IsTuple t its) (hx : its[i]? = some x)
    (k : ∀ h', h'.IsTupleIter it t (i + 1) → Heap.SameBut it s.heap h' → Q x { s with heap := h' }) : wpAny (model prog w) A (Builtin.SmallTypes.nextOf (.ref it)) Q E s := by
  obtain ⟨ob, e1, e2, e3⟩ := id hi
  obtain ⟨oq, f1, f2, n, f3⟩ := hs
  unfold Builtin.SmallTypes.nextOf
  refine wpAny_bind (wpAny_callSpecial?_slot (name := Str.ofString "__next__") hi.typeIs F.slot_tuple_iterator_next (wpAny_call_entry F.slot_tuple_iterator_next hi.typeIs F.entry_tuple_iterator_next ?_ (F.args_tuple_iterator_next_1 _)))
  refine wpAny_bind (m := field (.ref it) 0) (wpAny_field e1 e3 (x := .ref t) rfl ?_)
  show wpAny (model prog w) _ (if (Value.ref t == Value.none) = true then _ else _) _ _ s
  rw [if_neg (by intro z; cases z)]
  refine wpAny_bind (m := field (.ref it) 1) (wpAny_field e1 e3 (x := .int i 0) rfl ?_)
  refine wpAny_bind (m := seqItems? (.ref t)) (wpAny_seqItems f1 f3 ?_)
  simp only [hx, Int.toNat_natCast]
  refine wpAny_bind (wpAny_setField e1 e3 (by simp) (wpAny_pure ⟨x, rfl, wpAny_pure (k _ ⟨_, Heap.get?_update_self _ e1 (Obj.isFreed_of_fields (Obj.data_mapFields e3 _)), (Obj.cls_mapFields ..).trans e2, ?_⟩ (Heap.SameBut.update ..))⟩))
  rw [Obj.data_mapFields e3]
  simp [rawInt]
theorem nxt_tup_end {it t : Addr} {i : Nat} {its : Array Value} {Q : Value → Shared → Prop} (hh : A.handled = none) (hi : s.heap.IsTupleIter it t i) (hs : s.heap.IsTuple t its) (hx : its[i]? = none)
    (k : ∀ h' e, Heap.ExtBut it s.heap h' → (∃ o, h'.get? e = some o ∧ o.cls = .type "StopIteration") → E (.ref e) { s with heap := h' }) : wpAny (model prog w) A (Builtin.SmallTypes.nextOf (.ref it)) Q E s := by
  obtain ⟨ob, e1, e2, e3⟩ := id hi
  obtain ⟨oq, f1, f2, n, f3⟩ := hs
  unfold Builtin.SmallTypes.nextOf
  refine wpAny_bind (wpAny_callSpecial?_slot (name := Str.ofString "__next__") hi.typeIs F.slot_tuple_iterator_next (wpAny_call_entry F.slot_tuple_iterator_next hi.typeIs F.entry_tuple_iterator_next ?_ (F.args_tuple_iterator_next_1 _)))
  refine wpAny_bind (m := field (.ref it) 0) (wpAny_field e1 e3 (x := .ref t) rfl ?_)
  show wpAny (model prog w) _ (if (Value.ref t == Value.none) = true then _ else _) _ _ s
  rw [if_neg (by intro z; cases z)]
  refine wpAny_bind (m := field (.ref it) 1) (wpAny_field e1 e3 (x := .int i 0) rfl ?_)
  refine wpAny_bind (m := seqItems? (.ref t)) (wpAny_seqItems f1 f3 ?_)
  simp only [hx, Int.toNat_natCast]
  refine wpAny_bind (wpAny_rule (wpAny_bind (wpAny_setField e1 e3 (by simp) (wpAny_bind (m := newExc (.type "StopIteration") []) ?_))))
  simp only [newTuple, newExc]
  refine wpAny_bind (wpAny_newObj_type (wpAny_bind (m := firstArgMember _ _) (wpAny_of_eq (a := Value.none) (by first | rfl | (simp only [firstArgMember]; rfl)) (wpAny_newObj_type ?_ (by size_fits)))) (by size_fits))
  simp only [raiseNew]
  refine wpAny_bind (wpAny_handled ?_)
  rw [show A.in1.handled = none from hh]
  refine wpAny_bind (wpAny_pure (wpAny_throw (k _ _ (((Heap.SameBut.update ..).extBut.push _).push _) ⟨_, Heap.get?_push_size _ rfl, rfl⟩)))
end
/-- a list (true) or a tuple (false) -/
def IsB (h : Heap) : Bool → Addr → Array Value → Prop
  | true => h.IsList
  | false => h.IsTuple
def IterB (h : Heap) : Bool → Addr → Addr → Nat → Prop
  | true => h.IsListIter
  | false => h.IsTupleIter
def SqB (K : PySem.W.Frag) (H : Hp) : Bool → Addr → List V → Prop
  | true => SqL K H
  | false => SqT K H
theorem IsB.at {h h' : Heap} {b : Bool} {a : Addr} {its : Array Value} (x : IsB h b a its) (k : ∀ o, h.get? a = some o → h'.get? a = some o) : IsB h' b a its := by
  cases b <;> (obtain ⟨o, e, r⟩ := x; exact ⟨o, k o e, r⟩)
theorem IterB.at {h h' : Heap} {b : Bool} {a l : Addr} {i : Nat} (x : IterB h b a l i) (k : ∀ o, h.get? a = some o → h'.get? a = some o) : IterB h' b a l i := by
  cases b <;> (obtain ⟨o, e, r⟩ := x; exact ⟨o, k o e, r⟩)
theorem IterB.ob {h : Heap} {b : Bool} {a l : Addr} {i : Nat} (x : IterB h b a l i) : ∃ o, h.get? a = some o ∧ ∀ v, o.data ≠ .cell v := by
  cases b <;> (obtain ⟨o, e, _, d⟩ := x; exact ⟨o, e, fun v z => by rw [d] at z; cases z⟩)
theorem IsB.lt {h : Heap} {b : Bool} {a : Addr} {its : Array Value} (x : IsB h b a its) : a < h.objs.size := by
  cases b <;> (obtain ⟨o, e, _⟩ := x; exact Heap.lt_size e)
section
variable {X : Cx} {pins : List (Addr × Obj)} {σ : St} {H : Hp} {s : Shared} {a : Addr} {xs ys : List V} {b : Bool}
theorem Inv.seqB (I : Inv X pins σ H s) (h : SqB X.K H b a xs) : ∃ its : List Value, Vals xs its ∧ IsB s.heap b a its.toArray ∧ xs.length ≤ sizeLine := by
  cases b with
  | true => obtain ⟨its, r, p, z⟩ := I.list h; exact ⟨its, r, p.isList, z⟩
  | false => obtain ⟨its, r, p, z⟩ := I.tuple h; exact ⟨its, r, p, z⟩
theorem Inv.seqB_inj (I : Inv X pins σ H s) (h : SqB X.K H b a xs) (h' : SqB X.K H b a ys) : xs = ys := by
  cases b with
  | true => exact I.list_inj h h'
  | false => exact I.tuple_inj h h'
end
end L2

set_option Elab.async false
set_option linter.all false
set_option maxRecDepth 100000
set_option maxHeartbeats 4000000
namespace L2
open PySem PySem.Spec PyProof.Rows
section
variable {prog : Program} {w : World} {A : Around} {E : Value → Shared → Prop} {s : Shared}
theorem nxtB_item {b : Bool} {it t : Addr} {i : Nat} {its : Array Value} {x : Value} {Q : Value → Shared → Prop} (hi : IterB s.heap b it t i) (hs : IsB s.heap b t its) (hx : its[i]? = some x)
    (k : ∀ h', IterB h' b it t (i + 1) → Heap.SameBut it s.heap h' → Q x { s with heap := h' }) : wpAny (model prog w) A (Builtin.SmallTypes.nextOf (.ref it)) Q E s := by
  cases b with
  | true => exact wpAny_nextOf_list_item hi hs hx k
  | false => exact nxt_tup_item hi hs hx k
theorem nxtB_end {b : Bool} {it t : Addr} {i : Nat} {its : Array Value} {Q : Value → Shared → Prop} (hh : A.handled = none) (hi : IterB s.heap b it t i) (hs : IsB s.heap b t its) (hx : its[i]? = none)
    (k : ∀ h' e, Heap.ExtBut it s.heap h' → (∃ o, h'.get? e = some o ∧ o.cls = .type "StopIteration") → E (.ref e) { s with heap := h' }) : wpAny (model prog w) A (Builtin.SmallTypes.nextOf (.ref it)) Q E s := by
  cases b with
  | true => exact wpAny_nextOf_list_end hh hi hs hx k
  | false => exact nxt_tup_end hh hi hs hx k
theorem zipB_item {z TI TO i1 i2 l1 l2 : Addr} {b1 b2 : Bool} {k : Nat} {xs ys : Array Value} {x y u v : Value} {Q : Value → Shared → Prop} (D : ZipApart z TI TO i1 i2 l1 l2)
    (hz : IsZip s.heap z TI TO .none) (p1 : IsPair s.heap TI (.ref i1) (.ref i2)) (p2 : IsPair s.heap TO u v) (j1 : IterB s.heap b1 i1 l1 k) (j2 : IterB s.heap b2 i2 l2 k) (q1 : IsB s.heap b1 l1 xs) (q2 : IsB s.heap b2 l2 ys) (hx : xs[k]? = some x) (hy : ys[k]? = some y)
    (K : ∀ h', IsZip h' z TI TO (rawInt s.heap.objs.size) → IsPair h' TO x y → IterB h' b1 i1 l1 (k + 1) → IterB h' b2 i2 l2 (k + 1) → IsPair h' s.heap.objs.size x y →
      (∀ c o, c ≠ z → c ≠ TO → c ≠ i1 → c ≠ i2 → s.heap.get? c = some o → h'.get? c = some o) → Q (.ref s.heap.objs.size) { s with heap := h' }) :
    wpAny (model prog w) A (Builtin.«zip.__next__» ⟨[.ref z], []⟩) (fun fin s' => ∃ v, fin = .done (.ret v) ∧ Q v s') E s := by
  refine wpAny_bind (m := field (.ref z) 2) (wpAny_field hz rfl (x := .bool false) rfl (wpAny_bind (m := field (.ref z) 3) (wpAny_field hz rfl (x := .ref TI) rfl (wpAny_bind (wpAny_seqItems p1 rfl (wpAny_bind (m := Builtin.SmallTypes.ownedTupleIsFree (.ref z)) ?_))))))
  unfold Builtin.SmallTypes.ownedTupleIsFree
  refine wpAny_bind (wpAny_field hz rfl (x := .none) rfl (wpAny_pure ?_))
  simp only [if_true]
  refine wpAny_bind (wpAny_rule (wpAny_bind (wpAny_field hz rfl (x := .ref TO) rfl (wpAny_bind (wpAny_setField_rec hz (by simp) fun g1 z1 s1 => ?_)))))
  replace z1 : IsZip g1 z TI TO .ellipsis := z1
  refine wpAny_bind ?_
  simp only [List.zipIdx_cons, List.forIn_cons, List.zipIdx_nil, List.forIn_nil]
  refine wpAny_bind (wpAny_bind (wpAny_onRaise (wpAny_bind (m := Builtin.SmallTypes.nextOf (.ref i1)) (nxtB_item (j1.at fun o e => (s1.2 _ D.i1z).trans e) (q1.at fun o e => (s1.2 _ D.l1z).trans e) hx fun g2 j1' s2 => wpAny_pure ?_))))
  have t2 : IsPair g2 TO u v := s2.extBut _ _ D.TOi1 (s1.extBut _ _ D.TOz p2)
  refine wpAny_bind (wpAny_seqItems t2 rfl (wpAny_bind (wpAny_updateSeq_pair t2 fun g3 t3 s3 => wpAny_bind (wpAny_letGo (wpAny_pure ?_)))))
  replace t3 : IsPair g3 TO x v := t3
  refine wpAny_bind (wpAny_bind (wpAny_onRaise (wpAny_bind (m := Builtin.SmallTypes.nextOf (.ref i2)) (nxtB_item (((j2.at fun o e => (s1.2 _ D.i2z).trans e).at fun o e => (s2.2 _ D.i12.symm).trans e).at fun o e => (s3.2 _ D.TOi2.symm).trans e)
    (((q2.at fun o e => (s1.2 _ D.l2z).trans e).at fun o e => (s2.2 _ D.l2i1).trans e).at fun o e => (s3.2 _ D.l2TO).trans e) hy fun g4 j2' s4 => wpAny_pure ?_))))
  have t4 : IsPair g4 TO x v := s4.extBut _ _ D.TOi2 t3
  refine wpAny_bind (wpAny_seqItems t4 rfl (wpAny_bind (wpAny_updateSeq_pair t4 fun g5 t5 s5 => wpAny_bind (wpAny_letGo (wpAny_pure (wpAny_pure ?_))))))
  replace t5 : IsPair g5 TO x y := t5
  refine wpAny_bind (wpAny_seqItems t5 rfl (wpAny_bind (wpAny_newTuple (wpAny_bind (m := Builtin.SmallTypes.ownedTupleHandOut (.ref z) (.ref g5.objs.size)) ?_))))
  have sz : g5.objs.size = s.heap.objs.size := by rw [s5.1, s4.1, s3.1, s2.1, s1.1]
  have z5 : IsZip g5 z TI TO .ellipsis := s5.extBut _ _ D.TOz.symm (s4.extBut _ _ D.i2z.symm (s3.extBut _ _ D.TOz.symm (s2.extBut _ _ D.i1z.symm z1)))
  have k5 : ∀ c o, c ≠ z → c ≠ TO → c ≠ i1 → c ≠ i2 → s.heap.get? c = some o → g5.get? c = some o := fun c o c1 c2 c3 c4 e => s5.extBut _ _ c2 (s4.extBut _ _ c4 (s3.extBut _ _ c2 (s2.extBut _ _ c3 (s1.extBut _ _ c1 e))))
  have zl : z < g5.objs.size := Heap.lt_size z5
  unfold Builtin.SmallTypes.ownedTupleHandOut
  have z6 : IsZip (g5.push { cls := .type "tuple", data := .seq #[x, y] }) z TI TO .ellipsis := Heap.get?_push_of_some _ z5
  refine wpAny_bind (wpAny_setField_rec z6 (by simp) fun g7 z7 s7 => ?_)
  replace z7 : IsZip g7 z TI TO (rawInt g5.objs.size) := z7
  refine wpAny_setField_rec z7 (by simp) fun g8 z8 s8 => ?_
  replace z8 : IsZip g8 z TI TO (rawInt g5.objs.size) := z8
  have up : ∀ c o, c ≠ z → g5.get? c = some o → g8.get? c = some o := fun c o c1 e => s8.extBut _ _ c1 (s7.extBut _ _ c1 (Heap.get?_push_of_some _ e))
  have T8 : IsPair g8 g5.objs.size x y := s8.extBut _ _ (Nat.ne_of_gt zl) (s7.extBut _ _ (Nat.ne_of_gt zl) (Heap.get?_push_size _ rfl))
  rw [sz] at z8 T8
  refine wpAny_pure ⟨_, rfl, ?_⟩
  show Q (.ref g5.objs.size) _
  rw [sz]
  refine K g8 z8 (up _ _ D.TOz t5) ?_ ?_ T8 fun c o c1 c2 c3 c4 e => up c o c1 (k5 c o c1 c2 c3 c4 e)
  · exact (((j1'.at fun o e => (s3.2 _ D.TOi1.symm).trans e).at fun o e => (s4.2 _ D.i12).trans e).at fun o e => (s5.2 _ D.TOi1.symm).trans e).at fun o e => up _ o D.i1z e
  · exact (j2'.at fun o e => (s5.2 _ D.TOi2.symm).trans e).at fun o e => up _ o D.i2z e
theorem zipB_end {z TI TO i1 i2 l1 l2 : Addr} {b1 b2 : Bool} {k : Nat} {xs ys : Array Value} {u v : Value} {Q : Fin → Shared → Prop} (hh : A.handled = none) (D : ZipApart z TI TO i1 i2 l1 l2)
    (hz : IsZip s.heap z TI TO .none) (p1 : IsPair s.heap TI (.ref i1) (.ref i2)) (p2 : IsPair s.heap TO u v) (j1 : IterB s.heap b1 i1 l1 k) (j2 : IterB s.heap b2 i2 l2 k) (q1 : IsB s.heap b1 l1 xs) (q2 : IsB s.heap b2 l2 ys) (hend : xs[k]? = none ∨ ys[k]? = none)
    (K : ∀ h' e, (∀ c o, c ≠ z → c ≠ TO → c ≠ i1 → c ≠ i2 → s.heap.get? c = some o → h'.get? c = some o) → (∃ o, h'.get? e = some o ∧ o.cls = .type "StopIteration") → E (.ref e) { s with heap := h' }) :
    wpAny (model prog w) A (Builtin.«zip.__next__» ⟨[.ref z], []⟩) Q E s := by
  refine wpAny_bind (m := field (.ref z) 2) (wpAny_field hz rfl (x := .bool false) rfl (wpAny_bind (m := field (.ref z) 3) (wpAny_field hz rfl (x := .ref TI) rfl (wpAny_bind (wpAny_seqItems p1 rfl (wpAny_bind (m := Builtin.SmallTypes.ownedTupleIsFree (.ref z)) ?_))))))
  unfold Builtin.SmallTypes.ownedTupleIsFree
  refine wpAny_bind (wpAny_field hz rfl (x := .none) rfl (wpAny_pure ?_))
  simp only [if_true]
  refine wpAny_bind (wpAny_rule (wpAny_bind (wpAny_field hz rfl (x := .ref TO) rfl (wpAny_bind (wpAny_setField_rec hz (by simp) fun g1 z1 s1 => ?_)))))
  replace z1 : IsZip g1 z TI TO .ellipsis := z1
  refine wpAny_bind ?_
  simp only [List.zipIdx_cons, List.forIn_cons, List.zipIdx_nil, List.forIn_nil]
  refine wpAny_bind (wpAny_bind (wpAny_onRaise (wpAny_bind (m := Builtin.SmallTypes.nextOf (.ref i1)) ?_)))
  cases hx : xs[k]? with
  | none =>
    refine nxtB_end hh (j1.at fun o e => (s1.2 _ D.i1z).trans e) (q1.at fun o e => (s1.2 _ D.l1z).trans e) hx fun g2 e s2 ⟨oe, hoe, hce⟩ => ?_
    have z2 : IsZip g2 z TI TO .ellipsis := s2 _ _ D.i1z.symm z1
    have hez : e ≠ z := fun q => by subst q; rw [z2] at hoe; cases hoe; simp at hce
    exact wpAny_setField_rec z2 (by simp) fun g3 _ s3 => K g3 e (fun c o c1 _ c3 _ q => s3.extBut _ _ c1 (s2 _ _ c3 (s1.extBut _ _ c1 q))) ⟨oe, s3.extBut _ _ hez hoe, hce⟩
  | some x =>
    have hy : ys[k]? = none := by
      rcases hend with h | h
      · rw [hx] at h; cases h
      · exact h
    refine nxtB_item (j1.at fun o e => (s1.2 _ D.i1z).trans e) (q1.at fun o e => (s1.2 _ D.l1z).trans e) hx fun g2 j1' s2 => wpAny_pure ?_
    have t2 : IsPair g2 TO u v := s2.extBut _ _ D.TOi1 (s1.extBut _ _ D.TOz p2)
    refine wpAny_bind (wpAny_seqItems t2 rfl (wpAny_bind (wpAny_updateSeq_pair t2 fun g3 t3 s3 => wpAny_bind (wpAny_letGo (wpAny_pure ?_)))))
    refine wpAny_bind (wpAny_bind (wpAny_onRaise (wpAny_bind (m := Builtin.SmallTypes.nextOf (.ref i2)) (nxtB_end hh (((j2.at fun o e => (s1.2 _ D.i2z).trans e).at fun o e => (s2.2 _ D.i12.symm).trans e).at fun o e => (s3.2 _ D.TOi2.symm).trans e)
      (((q2.at fun o e => (s1.2 _ D.l2z).trans e).at fun o e => (s2.2 _ D.l2i1).trans e).at fun o e => (s3.2 _ D.l2TO).trans e) hy fun g4 e s4 ⟨oe, hoe, hce⟩ => ?_))))
    have z4 : IsZip g4 z TI TO .ellipsis := s4 _ _ D.i2z.symm (s3.extBut _ _ D.TOz.symm (s2.extBut _ _ D.i1z.symm z1))
    have hez : e ≠ z := fun q => by subst q; rw [z4] at hoe; cases hoe; simp at hce
    exact wpAny_setField_rec z4 (by simp) fun g5 _ s5 => K g5 e (fun c o c1 c2 c3 c4 q => s5.extBut _ _ c1 (s4 _ _ c4 (s3.extBut _ _ c2 (s2.extBut _ _ c3 (s1.extBut _ _ c1 q))))) ⟨oe, s5.extBut _ _ hez hoe, hce⟩
def itc : Bool → String
  | true => "list_iterator"
  | false => "tuple_iterator"
abbrev zG1 (h : Heap) (b1 : Bool) (l1 : Addr) : Heap := h.push { cls := .type (itc b1), data := .fields #[.ref l1, .int 0 0] }
abbrev zG2 (h : Heap) (b1 b2 : Bool) (l1 l2 : Addr) : Heap := (zG1 h b1 l1).push { cls := .type (itc b2), data := .fields #[.ref l2, .int 0 0] }
abbrev zG3 (h : Heap) (b1 b2 : Bool) (l1 l2 : Addr) : Heap := (zG2 h b1 b2 l1 l2).push { cls := .type "tuple", data := .seq #[.ref h.objs.size, .ref (zG1 h b1 l1).objs.size] }
abbrev zG4 (h : Heap) (b1 b2 : Bool) (l1 l2 : Addr) : Heap := (zG3 h b1 b2 l1 l2).push { cls := .type "tuple", data := .seq #[.none, .none] }
abbrev zG5 (h : Heap) (b1 b2 : Bool) (l1 l2 : Addr) : Heap := (zG4 h b1 b2 l1 l2).push { cls := .type "zip", data := .fields #[.none, .bool false, .bool false, .ref (zG2 h b1 b2 l1 l2).objs.size, .ref (zG3 h b1 b2 l1 l2).objs.size] }
theorem pyIterB {b : Bool} {l : Addr} {its : Array Value} {Q : Value → Shared → Prop} (hl : IsB s.heap b l its)
    (hQ : Q (.ref s.heap.objs.size) { s with heap := s.heap.push { cls := .type (itc b), data := .fields #[.ref l, .int 0 0] } }) : wpAny (model prog w) A (pyIter (.ref l)) Q E s := by
  cases b with
  | true => exact wpAny_pyIter_list hl hQ
  | false => exact wpAny_pyIter_tuple hl hQ
theorem zipB_new (b1 b2 : Bool) (l1 l2 : Addr) (xs ys : Array Value) :
    Meets (Builtin.«zip.__new__» ⟨[.type "zip", .ref l1, .ref l2], []⟩) (fun _ R s => IsB s.heap b1 l1 xs ∧ IsB s.heap b2 l2 ys ∧ R (.ok (.ret (.ref (zG4 s.heap b1 b2 l1 l2).objs.size))) { s with heap := zG5 s.heap b1 b2 l1 l2 }) :=
  .of_wp fun prog w A R s h => by
    obtain ⟨hp, g, d, tk, os⟩ := s
    obtain ⟨q1, q2, h⟩ := h
    have hsub := sub_zip
    have a1 : IsB (Shared.heap ⟨hp, g, d, tk, os⟩) b1 l1 xs := q1
    have a2 : IsB (Shared.heap ⟨hp.push { cls := .type (itc b1), data := .fields #[.ref l1, .int 0 0] }, g, d, tk, os⟩) b2 l2 ys := q2.at fun o e => Heap.get?_push_of_some _ e
    wp_walk using pyIterB a1, pyIterB a2
    exact ⟨_, rfl, h⟩
theorem call_zipB {b1 b2 : Bool} {l1 l2 : Addr} {xs ys : Array Value} {Q : Value → Shared → Prop} (q1 : IsB s.heap b1 l1 xs) (q2 : IsB s.heap b2 l2 ys)
    (h : ∀ h', IsZip h' (s.heap.objs.size + 4) (s.heap.objs.size + 2) (s.heap.objs.size + 3) .none → IsPair h' (s.heap.objs.size + 2) (.ref s.heap.objs.size) (.ref (s.heap.objs.size + 1)) → IsPair h' (s.heap.objs.size + 3) .none .none →
      IterB h' b1 s.heap.objs.size l1 0 → IterB h' b2 (s.heap.objs.size + 1) l2 0 → (∀ c o, s.heap.get? c = some o → h'.get? c = some o) → Q (.ref (s.heap.objs.size + 4)) { s with heap := h' }) :
    wpAny (model prog w) A (call (.type "zip") [.ref l1, .ref l2]) Q E s := by
  refine callType_new F.called_zip (by decide) (F.typeCall_zip_2 _ _) (F.newCall_zip_2 _ _) (fun obj => F.args_object_init_3 obj _ _) F.entry_zip_new (zipB_new b1 b2 l1 l2 xs ys) ⟨q1, q2, ?_⟩
  have n1 : (zG1 s.heap b1 l1).objs.size = s.heap.objs.size + 1 := Heap.size_push ..
  have n2 : (zG2 s.heap b1 b2 l1 l2).objs.size = s.heap.objs.size + 2 := by rw [Heap.size_push, n1]
  have n3 : (zG3 s.heap b1 b2 l1 l2).objs.size = s.heap.objs.size + 3 := by rw [Heap.size_push, n2]
  have n4 : (zG4 s.heap b1 b2 l1 l2).objs.size = s.heap.objs.size + 4 := by rw [Heap.size_push, n3]
  have g5 : (zG5 s.heap b1 b2 l1 l2).get? (zG4 s.heap b1 b2 l1 l2).objs.size = some _ := Heap.get?_push_size _ rfl
  have g4 : (zG5 s.heap b1 b2 l1 l2).get? (zG3 s.heap b1 b2 l1 l2).objs.size = some _ := Heap.get?_push_of_some _ (Heap.get?_push_size _ rfl)
  have g3 : (zG5 s.heap b1 b2 l1 l2).get? (zG2 s.heap b1 b2 l1 l2).objs.size = some _ := Heap.get?_push_of_some _ (Heap.get?_push_of_some _ (Heap.get?_push_size _ rfl))
  have g2 : (zG5 s.heap b1 b2 l1 l2).get? (zG1 s.heap b1 l1).objs.size = some _ := Heap.get?_push_of_some _ (Heap.get?_push_of_some _ (Heap.get?_push_of_some _ (Heap.get?_push_size _ rfl)))
  have g1 : (zG5 s.heap b1 b2 l1 l2).get? s.heap.objs.size = some _ := Heap.get?_push_of_some _ (Heap.get?_push_of_some _ (Heap.get?_push_of_some _ (Heap.get?_push_of_some _ (Heap.get?_push_size _ rfl))))
  show _ ∧ _
  rw [n2, n3, n4] at g5
  rw [n1, n2] at g3
  rw [n3] at g4
  rw [n1] at g2
  rw [n4]
  refine ⟨⟨_, g5, rfl⟩, h _ g5 g3 g4 ?_ ?_ fun c o q => Heap.get?_push_of_some _ (Heap.get?_push_of_some _ (Heap.get?_push_of_some _ (Heap.get?_push_of_some _ (Heap.get?_push_of_some _ q))))⟩
  · cases b1 <;> exact ⟨_, g1, rfl, rfl⟩
  · cases b2 <;> exact ⟨_, g2, rfl, rfl⟩
/-- a step of zip, from outside -/
theorem next_zipB {z TI TO i1 i2 l1 l2 : Addr} {b1 b2 : Bool} {k : Nat} {xs ys : Array Value} {x y u v : Value} {Q : Option Value → Shared → Prop} (D : ZipApart z TI TO i1 i2 l1 l2)
    (hz : IsZip s.heap z TI TO .none) (p1 : IsPair s.heap TI (.ref i1) (.ref i2)) (p2 : IsPair s.heap TO u v) (j1 : IterB s.heap b1 i1 l1 k) (j2 : IterB s.heap b2 i2 l2 k) (q1 : IsB s.heap b1 l1 xs) (q2 : IsB s.heap b2 l2 ys) (hx : xs[k]? = some x) (hy : ys[k]? = some y)
    (K : ∀ h', IsZip h' z TI TO (rawInt s.heap.objs.size) → IsPair h' TO x y → IterB h' b1 i1 l1 (k + 1) → IterB h' b2 i2 l2 (k + 1) → IsPair h' s.heap.objs.size x y →
      (∀ c o, c ≠ z → c ≠ TO → c ≠ i1 → c ≠ i2 → s.heap.get? c = some o → h'.get? c = some o) → Q (some (.ref s.heap.objs.size)) { s with heap := h' }) :
    wpAny (model prog w) A (pyNext (.ref z)) Q E s := by
  have T : s.TypeIs (.ref z) "zip" := ⟨_, hz, rfl⟩
  unfold pyNext
  exact wpAny_bind (wpAny_attempt (wpAny_callSpecial?_slot (name := Str.ofString "__next__") T F.slot_zip_next (wpAny_call_entry F.slot_zip_next T F.entry_zip_next
    (zipB_item D hz p1 p2 j1 j2 q1 q2 hx hy fun h' a1 a2 a3 a4 a5 a6 => wpAny_pure (K h' a1 a2 a3 a4 a5 a6)) (F.args_zip_next_1 _))))
theorem end_zipB {z TI TO i1 i2 l1 l2 : Addr} {b1 b2 : Bool} {k : Nat} {xs ys : Array Value} {u v : Value} {Q : Option Value → Shared → Prop} (hh : A.handled = none) (D : ZipApart z TI TO i1 i2 l1 l2)
    (hz : IsZip s.heap z TI TO .none) (p1 : IsPair s.heap TI (.ref i1) (.ref i2)) (p2 : IsPair s.heap TO u v) (j1 : IterB s.heap b1 i1 l1 k) (j2 : IterB s.heap b2 i2 l2 k) (q1 : IsB s.heap b1 l1 xs) (q2 : IsB s.heap b2 l2 ys) (hend : xs[k]? = none ∨ ys[k]? = none)
    (K : ∀ h', (∀ c o, c ≠ z → c ≠ TO → c ≠ i1 → c ≠ i2 → s.heap.get? c = some o → h'.get? c = some o) → Q none { s with heap := h' }) : wpAny (model prog w) A (pyNext (.ref z)) Q E s := by
  have T : s.TypeIs (.ref z) "zip" := ⟨_, hz, rfl⟩
  unfold pyNext
  refine wpAny_bind (wpAny_attempt (wpAny_callSpecial?_slot (name := Str.ofString "__next__") T F.slot_zip_next (wpAny_call_entry F.slot_zip_next T F.entry_zip_next (zipB_end hh D hz p1 p2 j1 j2 q1 q2 hend fun h' e hk ⟨o, ho, hc⟩ => ?_) (F.args_zip_next_1 _))))
  exact wpAny_bind (wpAny_isInstance (T := "StopIteration") (b := true) ⟨o, ho, hc⟩ isSubtype_stop (wpAny_pure (K _ hk)))
end
end L2

set_option Elab.async false
set_option linter.all false
set_option maxRecDepth 100000
set_option maxHeartbeats 4000000
namespace L2
open PySem PySem.Spec PyProof.Rows
/-- the pairs of two lists or tuples -/
def ItzB (K : PySem.W.Frag) (b1 b2 : Bool) (a b : Addr) : It :=
  ⟨fun i H => ∃ xs ys x y, SqB K H b1 a xs ∧ SqB K H b2 b ys ∧ xs[i]? = some x ∧ ys[i]? = some y,
   fun i H v H' => ∃ p x y, v = .ref p ∧ H p = none ∧ H' = upd H p (.tup [x, y]) ∧ ∀ xs ys, SqB K H b1 a xs → SqB K H b2 b ys → xs[i]? = some x ∧ ys[i]? = some y,
   fun i H => ∃ xs ys, SqB K H b1 a xs ∧ SqB K H b2 b ys ∧ (xs.length ≤ i ∨ ys.length ≤ i)⟩
theorem turn_zipB {P : Program} {w : World} {K : PySem.W.Frag} {elts : List Expr} {c : Nat} {pos : Pos} {b1 b2 : Bool} {z TI TO i1 i2 a b : Addr} (D : ZipApart z TI TO i1 i2 a b) :
    Turn P w K (.Tuple elts c pos) (ItzB K b1 b2 a b) [z, TI, TO, i1, i2] z (fun i h => IsZip h z TI TO .none ∧ IsPair h TI (.ref i1) (.ref i2) ∧ (∃ u v, IsPair h TO u v) ∧ IterB h b1 i1 a i ∧ IterB h b2 i2 b i) where
  mem := by simp
  obj := fun i h st x hx => by
    obtain ⟨hz, hTI, ⟨u, v, hTO⟩, h1, h2⟩ := st
    simp only [List.mem_cons, List.not_mem_nil, or_false] at hx
    rcases hx with rfl | rfl | rfl | rfl | rfl
    · exact ⟨_, hz, fun _ q => by cases q⟩
    · exact ⟨_, hTI, fun _ q => by cases q⟩
    · exact ⟨_, hTO, fun _ q => by cases q⟩
    · exact h1.ob
    · exact h2.ob
  keep := fun i h h' st k => by
    obtain ⟨hz, hTI, ⟨u, v, hTO⟩, h1, h2⟩ := st
    exact ⟨k z (by simp) _ hz, k TI (by simp) _ hTI, ⟨u, v, k TO (by simp) _ hTO⟩, h1.at fun o e => k i1 (by simp) o e, h2.at fun o e => k i2 (by simp) o e⟩
  item := by
    intro X hP hw hK hc i pins s σ H E I hf st hg
    subst hP hw hK
    obtain ⟨xs, ys, x, y, hq1, hq2, hx, hy⟩ := hg
    obtain ⟨its1, rv1, p1, _⟩ := I.seqB hq1
    obtain ⟨its2, rv2, p2, _⟩ := I.seqB hq2
    obtain ⟨u, hu, ru⟩ := rv1.get hx
    obtain ⟨v, hv, rv⟩ := rv2.get hy
    obtain ⟨hz, hTI, ⟨u0, v0, hTO⟩, h1, h2⟩ := st
    refine next_zipB D hz hTI hTO h1 h2 p1 p2 (x := u) (y := v) (by simpa using hu) (by simpa using hv) fun h' a1 a2 a3 a4 a5 hk => ⟨_, rfl, ?_⟩
    have lt : ∀ {c o}, s.heap.get? c = some o → s.heap.objs.size ≠ c := fun e => Nat.ne_of_gt (Heap.lt_size e)
    refine wpAny_letOwnedTupleGo_zip (s := { s with heap := h' }) a1 fun h'' c1 sb => ?_
    have hn : H s.heap.objs.size = none := I.hok.fresh (Nat.le_refl _)
    have kk : ∀ c o, c ∉ [z, TI, TO, i1, i2] → s.heap.get? c = some o → h''.get? c = some o := fun c o hc' e => by
      simp only [List.mem_cons, List.not_mem_nil, or_false, not_or] at hc'
      obtain ⟨n1, n2, n3, n4, n5⟩ := hc'
      exact sb.extBut _ _ n1 (hk c o n1 n3 n4 n5 e)
    have T1 : IsPair h'' s.heap.objs.size u v := sb.extBut _ _ (lt hz) a5
    refine ⟨.ref s.heap.objs.size, upd H s.heap.objs.size (.tup [x, y]), I.turnedNew (t' := s.toks) hf kk (Nat.le_refl _) ⟨by show 2 ≤ _; decide, [u, v], .cons ru (.cons rv .nil), _, T1, rfl, _, rfl, rfl⟩, rfl, ⟨_, x, y, rfl, hn, rfl, fun xs' ys' q1 q2 => ?_⟩,
      ⟨c1, ?_, ⟨_, _, sb.extBut _ _ D.TOz a2⟩, a3.at fun o e => sb.extBut _ _ D.i1z e, a4.at fun o e => sb.extBut _ _ D.i2z e⟩, fun b hb => ?_⟩
    · rw [I.seqB_inj q1 hq1, I.seqB_inj q2 hq2]; exact ⟨hx, hy⟩
    · exact sb.extBut _ _ D.TIz (hk _ _ D.TIz D.TITO D.TIi1 D.TIi2 hTI)
    · rw [upd_ne]
      · exact (hf b hb).1
      · simp only [List.mem_cons, List.not_mem_nil, or_false] at hb
        obtain ⟨o1, e1, _⟩ := h1.ob
        obtain ⟨o2, e2, _⟩ := h2.ob
        rcases hb with rfl | rfl | rfl | rfl | rfl
        · exact (lt hz).symm
        · exact (lt hTI).symm
        · exact (lt hTO).symm
        · exact (lt e1).symm
        · exact (lt e2).symm
  done := by
    intro X hP hw hK hc i pins s σ H E I hf st hg
    subst hP hw hK
    obtain ⟨xs, ys, hq1, hq2, hx⟩ := hg
    obtain ⟨its1, rv1, p1, _⟩ := I.seqB hq1
    obtain ⟨its2, rv2, p2, _⟩ := I.seqB hq2
    have l1 := rv1.length
    have l2 := rv2.length
    obtain ⟨hz, hTI, ⟨u0, v0, hTO⟩, h1, h2⟩ := st
    refine end_zipB (I.ok.hd hc) D hz hTI hTO h1 h2 p1 p2 (by simp; omega) fun h' hk => ⟨rfl, I.turnedL (t' := s.toks) hf fun c o hc' e => ?_⟩
    simp only [List.mem_cons, List.not_mem_nil, or_false, not_or] at hc'
    obtain ⟨n1, n2, n3, n4, n5⟩ := hc'
    exact hk c o n1 n3 n4 n5 e
  self := fun _ _ _ _ _ st h => wpAny_pyIter_zip st.1 h
def iZipB (K : PySem.W.Frag) (b1 b2 : Bool) (ta : TA) : TI := fun σ H R => ta σ H fun vs H1 => ∃ a b, vs = [.ref a, .ref b] ∧ (∃ xs, SqB K H1 b1 a xs) ∧ (∃ ys, SqB K H1 b2 b ys) ∧ R (ItzB K b1 b2 a b) H1
theorem pi_zipB (b1 b2 : Bool) {X : Cx} {elts : List Expr} {c : Nat} {tpos : Pos} {a b : Expr} {ta : TA} {p pos : Pos} (hg : Gl X "zip") (hm : X.mg "zip" = none) (ha : PA X [a, b] ta) (hs : starEach [a, b] X.env = [(false, eval a X.env), (false, eval b X.env)] := by rfl) (hs2 : starEach [b] X.env = [(false, eval b X.env)] := by rfl) :
    PI X (.Tuple elts c tpos) (.Call (.Name "zip" p) [a, b] [] pos) (iZipB X.K b1 b2 ta) := by
  intro pins s σ H R I h
  refine Call_ (ld_blt I hg hm boot_zip (PyProof.Rows.callWith_type1 (thn (ha pos pins s σ H _ I h) fun us s1 ⟨vs, H1, I1, r1, q1⟩ => ?_) (by rw [hs, hs2]) (by rw [hs2]; rfl)))
  obtain ⟨a, b, e, ⟨xs, hq1⟩, ⟨ys, hq2⟩, q⟩ := q1
  subst e
  cases r1 with
  | cons r rr =>
    cases rr with
    | cons r' rr =>
      cases rr
      cases r
      cases r'
      obtain ⟨its1, rv1, p1, _⟩ := I1.seqB hq1
      obtain ⟨its2, rv2, p2, _⟩ := I1.seqB hq2
      have la := p1.lt
      have lb := p2.lt
      refine call_zipB p1 p2 fun h' a1 a2 a3 a4 a5 hk => wpAny_pyIter_zip a1 ?_
      have D : ZipApart (s1.heap.objs.size + 4) (s1.heap.objs.size + 2) (s1.heap.objs.size + 3) s1.heap.objs.size (s1.heap.objs.size + 1) a b := zip_apart la lb
      refine ⟨_, _, _, _, H1, rfl, I1.kept (t' := s1.toks) hk, turn_zipB D, ⟨a1, a2, ⟨_, _, a3⟩, a4, a5⟩, fun x hx => ?_, q⟩
      have hx' : s1.heap.objs.size ≤ x := by
        simp only [List.mem_cons, List.not_mem_nil, or_false] at hx
        rcases hx with rfl | rfl | rfl | rfl | rfl <;> (show (_ : Nat) ≤ (_ : Nat)) <;> omega
      exact I1.fpOk hx' (I1.hok.fresh hx')
end L2
namespace L2
open PySem PySem.Spec PyProof.Rows
section
variable {prog : Program} {w : World} {A : Around} {E : Value → Shared → Prop} {s : Shared}
end
theorem boot_enumerate : bootBuiltins "enumerate" = some (.type "enumerate") := by decide +kernel
end L2

set_option Elab.async false
set_option linter.all false
set_option maxRecDepth 100000
set_option maxHeartbeats 4000000
namespace L2
open PySem PySem.Spec PyProof.Rows
section
variable {X : Cx}
theorem SqB.t {K : PySem.W.Frag} {H : Hp} {a : Addr} {xs : List V} (h : H a = some (.tup xs)) : SqB K H false a xs := SqT.of h
end
end L2

set_option Elab.async false
set_option linter.all false
set_option maxRecDepth 100000
set_option maxHeartbeats 1000000
namespace L2
open PySem PySem.Spec PyProof.Rows MA
/-! ### ints in a row -/
abbrev iv (ns : List Int) : List V := ns.map V.int
theorem iv_get {ns : List Int} {i : Nat} (h : i < ns.length) : (iv ns)[i]? = some (.int ns[i]) := by rw [List.getElem?_map, List.getElem?_eq_getElem h]; rfl
theorem iv_atI {ns : List Int} {i : Nat} (h : i < ns.length) : atI (iv ns) (i : Int) = some (.int (ns.getD i 0)) := by
  rw [atI_nat (iv_get h), getD_of h]
section
variable {X : Cx}
end
theorem cut_take {xs : List V} {k : Nat} (h : k ≤ xs.length) : cutV xs none (some (k : Int)) = xs.take k := by
  unfold cutV
  rw [HT.sIx_nat, HT.sIx_none]
  simp only [List.drop_zero, Nat.sub_zero]
  rw [Nat.min_eq_left h]
theorem cut_drop {xs : List V} {k : Nat} (h : k ≤ xs.length) : cutV xs (some (k : Int)) none = xs.drop k := by
  unfold cutV
  rw [HT.sIx_nat, HT.sIx_none]
  rw [List.take_of_length_le (by rw [List.length_drop]; omega), Nat.min_eq_left h]
theorem data_ints (H : Hp) : ∀ ns : List Int, DataL H (iv ns) (ns.map PyData.int)
  | [] => .nil
  | n :: ns => .cons (.int n) (data_ints H ns)
theorem noDict_ints : ∀ ns : List Int, PyData.hasDictAll (ns.map PyData.int) = false
  | [] => rfl
  | n :: ns => by simp [PyData.hasDictAll, PyData.hasDict, noDict_ints ns]
theorem sm_ints {ns : List Int} {m : Nat} (h : ∀ x ∈ ns, I36 x) (hm : 2 ≤ m) (hm2 : ns.length * 2 ≤ m) : Sm m (.tuple (ns.map PyData.int)) :=
  sm_tup (n := 1) (fun d hd => by obtain ⟨x, hx, rfl⟩ := List.mem_map.mp hd; exact sm_int36 (h x hx) 1) (by rw [noDict_ints]; rfl) hm (by rw [List.length_map]; exact hm2)
theorem depth_ints : ∀ ns : List Int, PyData.depthAll (ns.map PyData.int) = 0
  | [] => rfl
  | n :: ns => by simp [PyData.depthAll, PyData.depth, depth_ints ns]
end L2
namespace My
open PySem L2 MA
theorem lz {m : Nat} (n : Nat) (h : m = n) (hn : n ≤ 100 := by decide) : m ≤ sizeLine := by
  rw [h, sizeLine_eq]; omega
end My

set_option Elab.async false
set_option linter.all false
set_option maxRecDepth 100000
set_option maxHeartbeats 1000000
namespace L2
open PySem PySem.Spec PyProof.Rows MA
def hoB : Bool → List V → HO
  | true, xs => .lst xs
  | false, xs => .tup xs
theorem SqB.of {K : PySem.W.Frag} {H : Hp} {b : Bool} {a : Addr} {xs : List V} (h : H a = some (hoB b xs)) : SqB K H b a xs := by
  cases b
  · exact SqT.of h
  · exact SqL.of h
end L2
namespace HT
open PySem PySem.Spec PyProof.Rows
section
variable {prog : Program} {w : World} {A : Around} {E : Value → Shared → Prop} {s : Shared}
theorem getItem_tuple_all {t sl : Addr} {items : Array Value} {vl vu : Value} {lo hi : Option Int} {Q : Value → Shared → Prop} (ht : IsTup s.heap t items) (hs : s.heap.IsSliceOf sl vl vu .none) (pl : IsPart vl lo) (pu : IsPart vu hi)
    (hw : sIx items.size 0 lo = 0 ∧ sIx items.size items.size hi = items.size) (h : Q (.ref t) s) : wpAny (model prog w) A (getItem (.ref t) (.ref sl)) Q E s := by
  obtain ⟨os, q1, q2, q3⟩ := id hs
  have T : s.TypeIs (.ref sl) "slice" := ⟨os, q1, q2⟩
  unfold getItem
  try with_reducible refine wpAny_holding ?_
  first | refine wpAny_bind (wpAny_pure ?_) | skip
  refine wpAny_bind (wpAny_sequenceKey ht.typeIs (by decide) (wpAny_bind (wpAny_callSpecial?_slot (name := Str.ofString "__getitem__") ht.typeIs PyProof.Rows.slot_tuple_getitem (wpAny_call_entry PyProof.Rows.slot_tuple_getitem ht.typeIs entry_tuple_getitem ?_ (args_tuple_getitem _ _)))))
  refine wpAny_bind (m := Builtin.Tuple.tupleItemsOf (.ref t)) (tupleItemsOf_ ht (wpAny_bind (wpAny_typeOf T ?_)))
  rw [if_pos (by decide)]
  refine wpAny_bind (sliceApplied_gen hs pl pu ?_)
  show wpAny (model prog w) _ (if (((sIx items.size 0 lo : Nat) : Int) == 0 && (1 : Int) == 1 && (sIx items.size items.size hi - sIx items.size 0 lo) == items.size) = true then _ else _) _ _ s
  rw [if_pos (by rw [hw.1, hw.2]; simp)]
  refine wpAny_bind (m := Builtin.Tuple.tupleIsExact (.ref t)) ?_
  unfold Builtin.Tuple.tupleIsExact
  refine wpAny_bind (wpAny_typeOf ht.typeIs (wpAny_pure ?_))
  rw [if_pos (by decide)]
  exact wpAny_bind (wpAny_rule (wpAny_pure ⟨_, rfl, wpAny_pure h⟩))
theorem adjust_rev (n : Nat) : Builtin.Slice.sliceAdjust none none (-1) (n : Int) = ((n : Int) - 1, -1) := by
  simp [Builtin.Slice.sliceAdjust]
theorem places_rev (n : Nat) : Builtin.Slice.slicePlaces ((n : Int) - 1) (-1) (-1) = n := by
  unfold Builtin.Slice.slicePlaces
  simp
  try omega
theorem pick_rev (xs : Array Value) : ((List.range xs.size).filterMap fun (m : Nat) => xs[(((xs.size : Int) - 1) + (m : Int) * -1).toNat]?).toArray = xs.toList.reverse.toArray := by
  have e : (List.range xs.size).filterMap (fun (m : Nat) => xs[(((xs.size : Int) - 1) + (m : Int) * -1).toNat]?) = ((List.range xs.size).map fun k => xs.size - 1 - k).filterMap (xs[·]?) := by
    rw [List.filterMap_map]
    congr 1
    funext m
    have : (((xs.size : Int) - 1) + (m : Int) * -1).toNat = xs.size - 1 - m := by omega
    simp only [this, Function.comp]
  rw [e, PySem.W.krv_range, List.filterMap_reverse, PySem.W.krv_all]
theorem getItem_tuple_rev {t sl : Addr} {items : Array Value} {vk : Value} {Q : Value → Shared → Prop} (ht : IsTup s.heap t items) (hs : s.heap.IsSliceOf sl .none .none vk) (pk : IsPart vk (some (-1)))
    (h : Q (.ref s.heap.objs.size) { s with heap := s.heap.push { cls := .type "tuple", data := .seq items.toList.reverse.toArray } }) (hsz : items.size ≤ sizeLine) : wpAny (model prog w) A (getItem (.ref t) (.ref sl)) Q E s := by
  obtain ⟨os, q1, q2, q3⟩ := id hs
  have T : s.TypeIs (.ref sl) "slice" := ⟨os, q1, q2⟩
  have ok : sizeOk (.seq items.toList.reverse.toArray) := by
    show items.toList.reverse.toArray.size ≤ sizeLine
    rw [List.size_toArray, List.length_reverse, Array.length_toList]
    exact hsz
  unfold getItem
  try with_reducible refine wpAny_holding ?_
  first | refine wpAny_bind (wpAny_pure ?_) | skip
  refine wpAny_bind (wpAny_sequenceKey ht.typeIs (by decide) (wpAny_bind (wpAny_callSpecial?_slot (name := Str.ofString "__getitem__") ht.typeIs PyProof.Rows.slot_tuple_getitem (wpAny_call_entry PyProof.Rows.slot_tuple_getitem ht.typeIs entry_tuple_getitem ?_ (args_tuple_getitem _ _)))))
  refine wpAny_bind (m := Builtin.Tuple.tupleItemsOf (.ref t)) (tupleItemsOf_ ht (wpAny_bind (wpAny_typeOf T ?_)))
  rw [if_pos (by decide)]
  refine wpAny_bind (m := Builtin.Slice.sliceApplied (.ref sl) (pure (items.size : Int))) ?_
  unfold Builtin.Slice.sliceApplied Builtin.Slice.sliceFields
  refine wpAny_bind (wpAny_bind (wpAny_field q1 q3 (x := .none) rfl (wpAny_bind (wpAny_field q1 q3 (x := .none) rfl (wpAny_bind (wpAny_field q1 q3 (x := vk) rfl (wpAny_pure ?_)))))))
  refine wpAny_bind (slicePart_ pk ?_)
  show wpAny (model prog w) _ (if ((-1 : Int) == 0) = true then _ else _) _ _ s
  rw [if_neg (by decide)]
  refine wpAny_bind (slicePart_none (wpAny_bind (slicePart_none (wpAny_bind (wpAny_pure ?_)))))
  show wpAny (model prog w) _ (match Builtin.Slice.sliceAdjust none none (-1) (items.size : Int) with | (lo, hi) => pure (lo, (-1 : Int), Builtin.Slice.slicePlaces lo hi (-1))) _ _ s
  rw [adjust_rev]
  show wpAny (model prog w) _ (pure (((items.size : Int) - 1), (-1 : Int), Builtin.Slice.slicePlaces ((items.size : Int) - 1) (-1) (-1))) _ _ s
  rw [places_rev]
  refine wpAny_pure ?_
  show wpAny (model prog w) _ (if (((items.size : Int) - 1) == 0 && (-1 : Int) == 1 && items.size == items.size) = true then _ else _) _ _ s
  rw [if_neg (by simp), pick_rev]
  first
    | exact wpAny_bind (m := Builtin.Tuple.tupleExact _) (wpAny_newObj_type (wpAny_pure ⟨_, rfl, wpAny_pure h⟩) ok)
    | exact wpAny_bind (m := Builtin.Tuple.tupleExact _) (wpAny_newObj_type (wpAny_bind (wpAny_pure (wpAny_pure ⟨_, rfl, wpAny_pure h⟩))) ok)
    | exact wpAny_bind (wpAny_bind (m := Builtin.Tuple.tupleExact _) (wpAny_newObj_type (wpAny_pure (wpAny_pure ⟨_, rfl, wpAny_pure h⟩)) ok))
end
end HT
namespace L2
open PySem PySem.Spec PyProof.Rows MA
/-- t[lo:hi], whatever it is of t -/
theorem sl_tupS {X : Cx} : SlR X (fun x lo hi H Q => ∃ a xs, x = .ref a ∧ H a = some (.tup xs) ∧ ∀ c H', Same H H' → H' c = some (.tup (cutV xs lo hi)) → Q (.ref c) H') := by
  intro pins s σ H x v vl vu lo hi sl Q I rx hs pl pu h
  obtain ⟨a, xs, e, hx, q⟩ := h
  by_cases hw : HT.sIx xs.length 0 lo = 0 ∧ HT.sIx xs.length xs.length hi = xs.length
  · subst e
    cases rx
    obtain ⟨its, r, ht, hz⟩ := I.tuple (SqT.of (K := X.K) hx)
    have hlen : its.toArray.size = xs.length := by rw [List.size_toArray]; exact r.length.symm
    refine ⟨"tuple", _, PyProof.Rows.slot_tuple_getitem.lookup, ht.typeIs, HT.getItem_tuple_all ht hs pl pu (by rw [hlen]; exact hw) ⟨.ref a, H, I, rfl, q a H (Same.refl _) ?_⟩⟩
    have : cutV xs lo hi = xs := by
      unfold cutV
      rw [hw.1, hw.2]
      simp
    rw [this]
    exact hx
  · exact sl_tup pins s σ H x v vl vu lo hi sl Q I rx hs pl pu ⟨a, xs, e, SqT.of hx, hw, fun p hp => q p _ (same_new hp _) upd_same⟩
section
variable {X : Cx} {e : Expr} {te : TE} {p2 p3 p4 pos : Pos}
/-- t[::-1] of a tuple: a new tuple -/
def tRevT (te : TE) : TE := fun σ H Q => te σ H fun x H1 => ∃ a xs, x = .ref a ∧ H1 a = some (.tup xs) ∧ ∀ p, H1 p = none → Q (.ref p) (upd H1 p (.tup xs.reverse))
theorem pe_revT {kk : _} (he : PE X e te) : PE X (.Subscript e (.Slice none none (some (.UnaryOp .USub (.Constant (.int 1) kk p3) p4)) p2) pos) (tRevT te) := by
  intro pins s σ H Q I h
  refine Subscript_ (thn (he pins s σ H _ I h) fun v s1 ⟨x, H1, I1, r1, q1⟩ => ?_)
  obtain ⟨a, xs, rfl, hx, q⟩ := q1
  have hst : PO X (some (.UnaryOp .USub (.Constant (.int 1) kk p3) p4)) (tPart (tUn (rU fun i => .int (-i)) (tC (.int 1)))) := po_some (pe_un un_neg pe_int)
  refine wpAny_Slice ?_
  rw [evalPart_none]
  refine wpAny_pure (wpAny_pure ?_)
  refine thn (hst pins s1 σ H1 (fun st H2 => st = some (-1) ∧ H2 = H1) I1 ?_) fun vk s2 h2 => ?_
  · exact ⟨_, rfl, _, rfl, rfl, rfl⟩
  obtain ⟨st, H2, I2, pk, rfl, rfl⟩ := h2
  have I4 : Inv X pins σ H2 { s2 with heap := s2.heap.push { cls := .type "slice", data := .fields #[.none, .none, vk] } } := I2.kept (t' := s2.toks) fun b ob q => Heap.get?_push_of_some _ q
  cases r1
  obtain ⟨its, r, ht, hz⟩ := I4.tuple (SqT.of (K := X.K) hx)
  have hlen := r.length
  refine tail_any (T := "tuple") (ops := [.ref a, .ref s2.heap.objs.size]) ht.typeIs slot_tuple_getitem.lookup ?_ (by with_unfolding_all rfl)
  refine HT.getItem_tuple_rev ht (Heap.IsSliceOf.new ..) pk ?_ (by rw [List.size_toArray] <;> omega)
  refine ⟨.ref _, _, I4.laid (t' := s2.toks) (o := .tup xs.reverse) (fun b ob q => Heap.get?_push_of_some _ q) (Nat.le_refl _) ?_, rfl, q _ (I4.hok.fresh (Nat.le_refl _))⟩
  exact ⟨by rw [List.length_reverse]; exact hz, _, r.reverse, IsTupN.new _ _⟩
theorem rep1 (x : Int) : ∀ k : Nat, (List.replicate k [V.int x]).flatten = iv (List.replicate k x)
  | 0 => rfl
  | k + 1 => by rw [List.replicate_succ, List.flatten_cons, rep1 x k, List.replicate_succ]; rfl
end
end L2
namespace L2
open PySem PySem.Spec PyProof.Rows MA
/-! ### data that lies in tuples and in what is new since H -/
end L2

set_option Elab.async false
set_option linter.all false
set_option maxRecDepth 100000
set_option maxHeartbeats 4000000
namespace L2
open PySem PySem.Spec PyProof.Rows
/-! ### comprehensions of two clauses: the block's body is any action on the new list -/
end L2

set_option Elab.async false
set_option linter.all false
set_option maxRecDepth 100000
set_option maxHeartbeats 1000000
namespace L2
open PySem PySem.Spec PyProof.Rows MA
/-! ### set(list of ints), len of a set, list(range(n)) -/
section
variable {X : Cx}
end
/-! ### readings of a clause's walk -/
/-! ### a tuple, a list walked inside a comprehension: no K -/
section
variable {X : Cx} {o e : Expr} {es : List Expr} {to : TE} {t : TA} {name : Str} {apos cpos : Pos} {id : String} {r : V → List V → Hp → VK → Prop}
end
end L2

set_option Elab.async false
set_option linter.all false
set_option maxRecDepth 100000
set_option maxHeartbeats 1000000
namespace L2
open PySem PySem.Spec PyProof.Rows MA SeqAt
/-! ### a text and a dict are not the same -/
section
variable {X : Cx}
end
end L2

set_option Elab.async false
set_option linter.all false
set_option maxRecDepth 100000
set_option maxHeartbeats 1000000
namespace PySem
open Sem (wp)
namespace F
end F
section
variable {prog : Program} {w : World} {K : Type} [DecidableEq K] {knd : KeyKind prog w K} {A : Around} {R : Result → Shared → Prop}
end
end PySem
namespace L2
open PySem PySem.Spec PyProof.Rows MA
section
variable {X : Cx}
end
end L2

set_option Elab.async false
set_option linter.all false
set_option maxRecDepth 100000
set_option maxHeartbeats 4000000
namespace L2
open PySem PySem.Spec PyProof.Rows
/-! ### dict comprehensions of one clause -/
end L2

set_option Elab.async false
set_option linter.all false
set_option maxRecDepth 100000
set_option maxHeartbeats 1000000
namespace L2
open PySem PySem.Spec PyProof.Rows
/-! ### for k, v in d.items(): the dict is frozen from then on -/
end L2

set_option Elab.async false
set_option linter.all false
set_option maxRecDepth 100000
set_option maxHeartbeats 4000000
/-! ### isinstance of an own exception -/
namespace L2
open PySem PySem.Builtin PySem.Builtin.ObjectAttr PySem.Spec PyProof.Rows
/-- an own class under ValueError, as the module's part shows it -/
structure ExcK (K : PySem.W.Frag) (C : Addr) : Prop where
  ga : PySem.W.findIn K (.ref C) "__getattribute__" = some (some (.builtin "BaseException.__getattribute__"))
  gh : PySem.W.findIn K (.ref C) "__getattr__" = some none
  cl : PySem.W.findIn K (.ref C) "__class__" = some (some (.builtin "object.__class__"))
  gs : PySem.W.specialIn K (.builtin "object.__class__") "__get__" = some (some (.builtin "getset_descriptor.__get__"))
  tk : PySem.W.takesIn K (.builtin "object.__class__") = some true
  cd : (PySem.W.clsIn K C).isSome = true
  ob : PySem.W.mroIn K C (.type "object") = some true
  be : PySem.W.mroIn K C (.type "BaseException") = some true
/-- a thing whose class is the one at C -/
def ExcAt (e C : Addr) (h : Heap) : Prop := ∃ o, h.get? e = some o ∧ o.cls = .ref C
section
variable {K : PySem.W.Frag} {e C : Addr} {h : Heap} {M : Model}
theorem ExcAt.type (x : ExcAt e C h) : PySem.W.Looks M h (typeOf (.ref e)) (.ref C) := by
  obtain ⟨o, h1, h2⟩ := x
  exact h2 ▸ (PySem.W.Looks.ld h1).andThen .now
theorem exc_find (X : K.In h) (z : ExcK K C) : PySem.W.Looks M h (find (.ref e) (.ref C) "__class__") (.bind (.builtin "getset_descriptor.__get__") (.builtin "object.__class__")) := by
  have l1 := PySem.W.looks_findIn (M := M) X z.cl
  have l2 : PySem.W.Looks M h (getOf (some (.builtin "object.__class__"))) (some (.builtin "getset_descriptor.__get__")) := PySem.W.looks_specialIn X z.gs
  have l3 := PySem.W.looks_takesIn (M := M) X z.tk
  have l4 : PySem.W.Looks M h (dataDescriptor? (some (.builtin "object.__class__")) (some (.builtin "getset_descriptor.__get__"))) (some (.builtin "getset_descriptor.__get__", .builtin "object.__class__")) := l3.andThen .now
  exact l1.andThen (l2.andThen (l4.andThen (.tag .now)))
end
section
variable {prog : Program} {w : World} {A : Around} {E : Value → Shared → Prop} {s : Shared} {K : PySem.W.Frag} {e C : Addr}
open PySem.W PySem.Builtin.Getset_descriptor in
theorem exc_getter {R : Result → Shared → Prop} {tp : Value} (X : K.In s.heap) (x : ExcAt e C s.heap) (z : ExcK K C) (q : R (.ok (.ret (.ref C))) s) :
    codeAny (model prog w) A (.call (.builtin "getset_descriptor.__get__") ⟨[.builtin "object.__class__", .ref e, tp], []⟩) R s := by
  obtain ⟨hh, gg, dr, tt, os⟩ := s
  have l0 := x.type (M := model prog w)
  have l1 := looks_mroIn (M := model prog w) X z.ob
  refine codeAny_call_builtin KF.slot_gs.plain
    KF.entry_gs (KF.slot_gs.check _ _ _ _ _ _ _ _
      KF.type_class (KF.args_gs _ _ _) ?_)
  unfold Builtin.«getset_descriptor.__get__»
    descrGet
  rw [dga_obj]
  refine wpAny_bind (wpAny_pure ?_)
  unfold descrGetter descrCheckInstance
    descrNameAndClass isInstance
  simp only [KF.owner_class]
  repeat lk
  refine ⟨Code.quiet_builtin _
    (by decide +kernel), codeAny_builtin KF.entry_class ?_⟩
  unfold Builtin.«object.__class__»
    shownTypeOf
  repeat lk
  exact q
open PySem.W in
theorem exc_check {M : Model} {nv : Value} {Q : Unit → Shared → Prop} (X : K.In s.heap) (x : ExcAt e C s.heap) (z : ExcK K C) (q : Q () s) :
    wpAny M A (checkBuiltinCall "BaseException.__getattribute__" ⟨[.ref e, nv], []⟩) Q E s := by
  obtain ⟨hh, gg, dr, tt, os⟩ := s
  have l0 := x.type (M := M)
  have l1 := looks_mroIn (M := M) X z.be
  have k1 : builtinKind "BaseException.__getattribute__" = some .slot := by decide +kernel
  have k2 : splitId "BaseException.__getattribute__" = some ("BaseException", "__getattribute__") := by decide +kernel
  have k3 := F.args_bexc_ga (.ref e) nv
  simp only [checkBuiltinCall, k1, k2]
  unfold isInstance
  refine wpAny_bind ?_
  repeat lk
  repeat (first | exact q | wp_step)
open PySem.W in
theorem exc_attr {Q : Option Value → Shared → Prop} (X : K.In s.heap) (x : ExcAt e C s.heap) (z : ExcK K C) (q : Q (some (.ref C)) { s with toks := s.toks + 1 }) :
    wpAny (model prog w) A (getAttr? (.ref e) "__class__") Q E s := by
  obtain ⟨hh, gg, dr, tt, os⟩ := s
  have l0 := x.type (M := model prog w)
  have l1 := looks_findIn (M := model prog w) X z.ga
  have l2 := looks_findIn (M := model prog w) X z.gh
  have l3 := exc_find (M := model prog w) (e := e) X z
  have b1 := F.attr_ValueError.ga.bind (.ref e)
  unfold getAttr? getAttrBy? getAttrBy
  refine wpAny_bind (wpAny_mkText (wpAny_bind (wpAny_attempt (wpAny_holding
    (wpAny_bind (l0.at (wpAny_bind (l1.at ?_))))))))
  have hx2 : (Value.builtin "BaseException.__getattribute__" == Value.builtin "object.__getattribute__") = false := by decide +kernel
  dsimp only
  rw [hx2, Bool.and_false, if_neg Bool.false_ne_true]
  unfold getAttrByItsOwn
  refine wpAny_bind (l2.at ?_)
  refine wpAny_bind (wpAny_attempt (wpAny_holding ?_))
  show wpAny _ _ (boundAndCalled _ _ _) _ _ _
  unfold boundAndCalled
  rw [b1]
  refine wpAny_bind (wpAny_pure ?_)
  refine wpAny_call (codeAny_call_builtin F.attr_ValueError.ga.plain F.entry_bexc_ga (exc_check X x z ?_))
  unfold Builtin.«object.__getattribute__»
  refine wpAny_bind (wpAny_pure ?_)
  refine wpAny_bind (wpAny_pure ?_)
  refine wpAny_bind (l0.at ?_)
  refine wpAny_bind (l3.at ?_)
  show wpAny _ _ (holding [_] (call _ [_, _, _]) >>= ret) _ _ _
  refine wpAny_bind (wpAny_holding (wpAny_call (exc_getter X x z ?_)))
  refine wpAny_pure ?_
  show wpAny _ _ (handedOut _) _ _ _
  exact handed_on rfl (wpAny_pure q)
open PySem.W in
theorem kitx_exc (z : ExcK K C) : KitX K (.ref e) (.ref C) (ExcAt e C) where
  ty := fun _ _ _ x => x.type
  it := fun _ _ X _ => by
    obtain ⟨cd, hc⟩ := Option.isSome_iff_exists.mp z.cd
    unfold clsIn at hc
    split at hc
    · rename_i ho
      intro A' Q' E' s' k q'
      unfold isType loadHead
      refine wpAny_bind (wpAny_loadPart (k _ _ (X _ _ ho)) ?_)
      exact wpAny_pure q'
    · cases hc
  ne := fun h tp dd its n sl X htp => by
    obtain ⟨cd, hc⟩ := Option.isSome_iff_exists.mp z.cd
    refine Bool.eq_false_iff.mpr fun q' => ?_
    have e' : C = tp := Value.ref.inj (beq_iff_eq.mp q')
    subst e'
    unfold clsIn at hc
    split at hc
    · rename_i ho
      have z' := (X _ _ ho).symm.trans htp
      cases z'
    · cases hc
  ca := fun X x q => exc_attr X x z q
end
end L2

set_option Elab.async false
set_option linter.all false
set_option maxRecDepth 100000
set_option maxHeartbeats 4000000
/-! ### own exceptions -/
namespace L2
open PySem PySem.Spec PyProof.Rows
/-- an own exception in flight, at x, of the class at C: all that was tracked or stood ahead of the call stands in B, which the flight keeps -/
structure FlyB (B : Heap) (a0 : Value) (P : Program) (w : World) (outer : List Env) (H : Hp) (s : Shared) (x C : Addr) (H' : Hp) (s' : Shared) : Prop where
  os : s'.os = s.os
  bare : AllBare s'.gens
  un : Un (frs outer) [] H H' s.heap s'.heap
  hok : HOk P w H' s'.heap
  fl : Heap.FlyingW B outer x (.ref C) a0 s'.heap
  tr : ∀ b u, H' b = some u → ∃ o, B.get? b = some o
  pre : ∀ b o, s.heap.get? b = some o → b ∉ frs outer → ∃ o', B.get? b = some o'
def Fly (P : Program) (w : World) (outer : List Env) (H : Hp) (s : Shared) (x C : Addr) (H' : Hp) (s' : Shared) : Prop := ∃ B a0, FlyB B a0 P w outer H s x C H' s'
def CX1 (P : Program) (w : World) : CXT := fun outer H s E e s' => ∃ x C H', e = .ref x ∧ Fly P w outer H s x C H' s' ∧ E (.ref C) none H'
theorem CX1.never {P : Program} {w : World} {outer : List Env} {H : Hp} {s s' : Shared} {e : Value} (h : CX1 P w outer H s (fun _ _ _ => False) e s') : False := let ⟨_, _, _, _, _, z⟩ := h; z
section
variable {X : Cx} {pins : List (Addr × Obj)} {σ : St} {H H' : Hp} {s s' : Shared}
/-- the frame is left: seen from the callers -/
theorem left_un {h2 h' B : Heap} (I : Inv X pins σ H s) (hx : X.ex = []) (hst : frs X.stack = X.env.locals :: X.fs) (u : Un (frs X.stack) [] H H' s.heap h2) (kB : B.StaysIn h2) (k' : B.StaysIn h')
    (ff : h'.FunFrames B X.outer) (up : h2.UpToSlots h') (pre : ∀ b o, s.heap.get? b = some o → b ∉ frs X.stack → ∃ o', B.get? b = some o') : Un X.fs [] X.H₀ H' X.s₀.heap h' := by
  have nx : ∀ b : Addr, b ∉ X.ex := fun b z => by rw [hx] at z; exact absurd z (by simp)
  have nL : ∀ b o, X.s₀.heap.get? b = some o → b ≠ X.env.locals := fun b o e => Nat.ne_of_lt (Nat.lt_of_lt_of_le (Heap.lt_size e) I.ok.above)
  have nS : ∀ b o, X.s₀.heap.get? b = some o → b ∉ X.fs → b ∉ frs X.stack := fun b o e hb z => by
    rw [hst] at z
    exact (List.mem_cons.mp z).elim (nL b o e) hb
  refine ⟨fun b o e n hb _ => ?_, fun b o e n hb _ => ?_, fun b o e n _ => ?_, fun b o e _ => ?_, fun b xs q => u.tups b xs (I.base.tups b xs q), fun b o v q => u.frzs b o v (I.base.frzs b o v q), fun b ps q => ?_⟩
  · have e1 := I.base.keep b o e n hb (nx b)
    have n1 := I.base.free b o e n (nx b)
    have e2 := u.keep b o e1 n1 (nS b o e hb) (by simp)
    obtain ⟨o', e3⟩ := pre b o e1 (nS b o e hb)
    have e4 := kB b o' e3
    rw [e2] at e4
    cases e4
    exact k' b o e3
  · obtain ⟨sl, e1⟩ := I.base.slot b o e n hb (nx b)
    have n1 := I.base.free b o e n (nx b)
    obtain ⟨sl2, e2⟩ := u.slot b _ e1 n1 (by rw [hst]; exact List.mem_cons_of_mem _ hb) (by simp)
    obtain ⟨_, o3, e3, hd⟩ := I.funs.mem hb
    rw [e1] at e3
    cases e3
    obtain ⟨sl3, e4⟩ := up b _ e2 hd
    exact ⟨sl3, e4⟩
  · obtain ⟨o1, e1⟩ := I.base.there b o e (nx b)
    exact u.free b o1 e1 (I.base.free b o e n (nx b)) (by simp)
  · obtain ⟨o1, e1⟩ := I.base.there b o e (nx b)
    by_cases hb : b ∈ X.fs
    · obtain ⟨_, o2, e2, _⟩ := ff.mem hb
      exact ⟨o2, e2⟩
    · obtain ⟨o2, e2⟩ := pre b o1 e1 (nS b o e hb)
      exact ⟨o2, k' b o2 e2⟩
  · obtain ⟨m1, e1⟩ := I.base.tbls b ps q
    obtain ⟨m2, e2⟩ := u.tbls b _ e1
    exact ⟨m1 ++ m2, by rw [e2, Array.append_assoc]⟩
/-- what is tracked stands in B -/
theorem hok_of_B {P : Program} {w : World} {h2 h' B : Heap} (hok : HOk P w H' h2) (kB : B.StaysIn h2) (k' : B.StaysIn h') (tr : ∀ b u, H' b = some u → ∃ o, B.get? b = some o) : HOk P w H' h' := fun a o e =>
  (hok a o e).stay (fun b u hb q => by
    obtain ⟨o', e'⟩ : ∃ o', B.get? b = some o' := by
      rcases hb with z | z
      · subst z; exact tr b o e
      · exact tr b _ z
    have e2 := kB b o' e'
    rw [q] at e2
    cases e2
    exact k' b u e') (fun _ q => q) fun _ _ q => q
/-- a def's body: its own frame is the uppermost one -/
structure Body (X : Cx) : Prop where
  ex : X.ex = []
  st : X.stack = X.env :: X.outer
  fr : X.env.frame = some X.env.locals
theorem Body.frs (b : Body X) : L2.frs X.stack = X.env.locals :: X.fs := by
  rw [b.st]
  show List.filterMap _ _ = _
  rw [List.filterMap_cons, b.fr]
  rfl
/-- an exception of a callee leaves this def, too -/
theorem fly_leave {M : Model} {E : XK} {E' : Value → Shared → Prop} {x C : Addr} (b : Body X) (I : Inv X pins σ H s) (F : Fly X.prog X.w X.stack H s x C H' s') (hE : E (.ref C) none H') :
    wpAny M X.A (leaving X.env (.ref x)) (fun _ s'' => CX1 X.prog X.w X.outer X.H₀ X.s₀ E (.ref x) s'') E' s' := by
  obtain ⟨B, a0, F⟩ := F
  have fl := F.fl
  have tr := F.tr
  have pre := F.pre
  have fl2 := fl
  rw [b.st] at fl2
  refine wpAny_leaves_onW (by rw [I.ok.frames, b.st]) b.fr fl2 fun h' f' up => ?_
  refine ⟨x, C, H', rfl, ⟨B, a0, F.os.trans I.os, F.bare, left_un I b.ex b.frs F.un fl.1 f'.1 f'.2.2.1 up pre, hok_of_B F.hok fl.1 f'.1 tr, f', tr, fun c o e hc => ?_⟩, hE⟩
  obtain ⟨o1, e1⟩ := I.base.there c o e (by rw [b.ex]; simp)
  refine pre c o1 e1 fun z => ?_
  rw [b.frs] at z
  exact (List.mem_cons.mp z).elim (Nat.ne_of_lt (Nat.lt_of_lt_of_le (Heap.lt_size e) I.ok.above)) hc
/-- an exception that was made here leaves this def -/
theorem made_leave {M : Model} {E : XK} {E' : Value → Shared → Prop} {x C : Addr} {vs : List Value} {h3 : Heap} (b : Body X) (I : Inv X pins σ H s) (hm : Heap.MadeExcOf s.heap h3 x (.ref C) vs) (hE : E (.ref C) none H) :
    wpAny M X.A (leaving X.env (.ref x)) (fun _ s'' => CX1 X.prog X.w X.outer X.H₀ X.s₀ E (.ref x) s'') E' { s with heap := h3 } := by
  have kB : (PySem.W.hideAll s.heap (frs X.stack)).StaysIn s.heap := fun c o q => PySem.W.of_hideAll _ q
  have ff : s.heap.FunFrames (PySem.W.hideAll s.heap (frs X.stack)) (X.env :: X.outer) := by
    have := I.stack
    rw [b.st] at this ⊢
    exact PySem.W.funFrames_hide this fun env he c hc => List.mem_filterMap.mpr ⟨env, he, hc⟩
  have inB : ∀ c o, s.heap.get? c = some o → c ∉ frs X.stack → (PySem.W.hideAll s.heap (frs X.stack)).get? c = some o := fun c o e hc => PySem.W.hideAll_get _ e hc
  have tr : ∀ c u, H c = some u → ∃ o, (PySem.W.hideAll s.heap (frs X.stack)).get? c = some o := fun c u q => by
    have : ∃ o, s.heap.get? c = some o := by
      have z := I.hok c u q
      cases u with
      | lst xs => obtain ⟨_, _, _, _, e⟩ := z; exact ⟨_, e⟩
      | tup xs => obtain ⟨_, _, _, o, e, _⟩ := z; exact ⟨_, e⟩
      | dK kvs => obtain ⟨_, _, _, _, o, _, _, e, _⟩ := z; exact ⟨_, e⟩
      | dT kvs => obtain ⟨_, _, _, _, o, _, _, e, _⟩ := z; exact ⟨_, e⟩
      | set S n => obtain ⟨o, _, _, _, e, _⟩ := z; exact ⟨_, e⟩
      | ins C dx fs => obtain ⟨_, _, _, e, _⟩ := z; exact ⟨_, e⟩
      | own y => exact z
      | xd fs => obtain ⟨_, ⟨_, _, _, e, _⟩, _⟩ := z; exact ⟨_, e⟩
      | rng lo hi => obtain ⟨_, _, _, e⟩ := z; exact ⟨_, e⟩
      | frz ob u => obtain ⟨e, _⟩ := z; exact ⟨_, e⟩
      | tbl ps => exact ⟨_, z⟩
      | tab q => obtain ⟨_, e, _⟩ := z; exact ⟨_, e⟩
      | met f y => exact ⟨_, z⟩
      | ext φ => obtain ⟨_, e, _⟩ := z; exact e
    obtain ⟨o, e⟩ := this
    exact ⟨o, inB c o e fun z => by rw [I.stkFree c z] at q; cases q⟩
  refine wpAny_leaves_madeW (by rw [I.ok.frames, b.st]) b.fr kB ff hm fun h' t f' _ _ up => ?_
  have k3 : ∀ c o, s.heap.get? c = some o → h3.get? c = some o := hm.keeps
  have kB3 : (PySem.W.hideAll s.heap (frs X.stack)).StaysIn h3 := fun c o q => k3 c o (kB c o q)
  have hok3 : HOk X.prog X.w H h3 := I.hok.kept k3
  refine ⟨x, C, H, rfl, ⟨_, _, I.os, I.bare, left_un I b.ex b.frs (Un.kept k3) kB3 f'.1 f'.2.2.1 up fun c o e hc => ⟨o, inB c o e hc⟩, hok_of_B hok3 kB3 f'.1 tr, f', tr, fun c o e hc => ?_⟩, hE⟩
  obtain ⟨o1, e1⟩ := I.base.there c o e (by rw [b.ex]; simp)
  refine ⟨o1, inB c o1 e1 fun z => ?_⟩
  rw [b.frs] at z
  exact (List.mem_cons.mp z).elim (Nat.ne_of_lt (Nat.lt_of_lt_of_le (Heap.lt_size e) I.ok.above)) hc
end
/-! ### raise -/
theorem body_of {CX : CXT} {P : Program} {w : World} {K : PySem.W.Frag} {mg : Str → Option Value} {base : Heap} {N : List Str} {qual : Str} {scope : Scope} {f : Addr} {cd : Value} {A : Around} {outer : List Env} {s : Shared} {H : Hp} {E : XK} :
    Body (cxOf CX P w K mg base N qual scope f cd A outer s H E) := ⟨rfl, rfl, rfl⟩
/-- what an exception that is made here must do -/
def Raises (X : Cx) (E : XK) : Prop := ∀ (pins : List (Addr × Obj)) (σ : St) (H : Hp) (s : Shared) (h3 : Heap) (x C : Addr) (vs : List Value), Inv X pins σ H s → Heap.MadeExcOf s.heap h3 x (.ref C) vs → E (.ref C) none H → X.xe (.ref x) { s with heap := h3 }
section
variable {P : Program} {w : World} {K : PySem.W.Frag} {mg : Str → Option Value} {base : Heap} {N : List Str} {qual : Str} {scope : Scope} {f : Addr} {cd : Value} {A : Around} {outer : List Env} {s : Shared} {H : Hp} {E : XK}
theorem raises1 : Raises (cxOf (CX1 P w) P w K mg base N qual scope f cd A outer s H E) E := fun pins σ H1 s1 h3 x C vs I hm hE => made_leave body_of I hm hE
theorem passes1 : Passes (CX1 P w) (cxOf (CX1 P w) P w K mg base N qual scope f cd A outer s H E) E := fun pins σ H1 s1 e s' I h => by
  obtain ⟨x, C, H', rfl, F, hE⟩ := h
  exact fly_leave body_of I F hE
end
abbrev bmVE : List Value := [.type "ValueError", .type "Exception", .type "BaseException", .type "object"]
open PySem.W in
theorem exc_obj {K : Frag} {h : Heap} {C : Addr} {bmB : List Value} {ni : String} (X : K.In h) (z : excIn K C bmB ni = true) :
    ∃ bm N nm qn bs hd sn sub ab col dd k0 k1 k2 k3 k5 mN, h.get? C = some (excClassObj nm qn C N bs bm hd sn sub ab col dd k0 k1 k2 k3 k5 ni) ∧ h.Ns N mN ∧ mN "__init__" = none ∧ OwnTail h bmB bm := by
  unfold excIn at z
  split at z
  · rename_i dd cd sl ho
    split at z
    · rename_i C' bm k0 k1 k2 k3 n k5 hm hs
      simp only [Bool.and_eq_true, beq_iff_eq, Bool.not_eq_true'] at z
      obtain ⟨⟨⟨⟨⟨z1, z2⟩, z3⟩, z4⟩, z5⟩, z6⟩ := z
      subst z1
      subst z2
      obtain ⟨nm, bs, mro, ns, qn, hd, sn, sub, ab, col, del⟩ := cd
      dsimp only at hm z3 z5 z6
      subst hm
      subst z3
      have e : sl = #[k0, k1, k2, k3, some (.builtin n), k5] := by
        cases sl with
        | mk l => simp only at hs; rw [hs]
      subst e
      refine ⟨bm, ns, nm, qn, bs, hd, sn, sub, ab, col, dd, k0, k1, k2, k3, k5, h.nsMap ns, X _ _ ho, ?_, ?_, tail_of_in X z4⟩
      · exact .of_isNs (isNs_of_in X z5)
      · exact nsMap_none_of_in X z5 z6
    · cases z
  · cases z
def tRaise (C : Addr) (E : XK) (t : TA) : TS := fun _ σ H => t σ H fun vs H1 => vs.length ≤ sizeLine ∧ E (.ref C) none H1
theorem ps_raise {X : Cx} {E : XK} {C : Addr} {x : Str} {e : Expr} {es : List Expr} {t : TA} {np cpos pos : Pos} (R : Raises X E) (hc : X.calm = true) (z : PySem.W.excIn X.K C bmVE "ValueError.__new__" = true) (hg : Gl X x) (hm : X.mg x = some (.ref C)) (ha : PA X (e :: es) t)
    (hd : (x == ("__debug__" : Str)) = false := by decide) (he : starEach (e :: es) X.env = (false, eval e X.env) :: starEach es X.env := by rfl) (hpl : (backTo cpos (starEach es X.env)).any (·.1) = false := by rfl) :
    PS X (.Raise (some (.Call (.Name x np) (e :: es) [] cpos)) none pos) (tRaise C E t) := by
  intro pins s σ H D I h
  obtain ⟨bm, N, nm, qn, bs, hdc, sn, sub, ab, col, dd, k0, k1, k2, k3, k5, mN, hC, hN, hni, T⟩ := exc_obj I.mod.kin z
  refine wpAny_Raise_call_subT (C := C) (nm := nm) (q := qn) (N := N) (bs := bs) (bm := bm) (hdct := hdc) (sn := sn) (sub := sub) (ab := ab) (col := col) (dd := dd) (k0 := k0) (k1 := k1) (k2 := k2) (k3 := k3) (k5 := k5)
    F.excBase_ValueError (mN := mN) (T.hasType F.excBase_ValueError.hasBase) (I.ok.hd hc) ?_ hni (ld_glob I hg hm ⟨rfl, ?_⟩ hd)
  · rw [he]
    show (false || (backTo cpos (starEach es X.env)).any (·.1)) = false
    rw [hpl]
    rfl
  · have h1 := ha cpos pins s σ H _ I h
    rw [he] at h1 ⊢
    exact Calls.evalArgs_plain (thn h1 fun us s2 ⟨vs, H2, I2, r, hz, hE⟩ => ⟨rfl, by rw [← r.length]; exact hz, I2.bk _ _ hC, hN.keeps I2.bk, T.keeps I2.bk, fun h' x' hm' => R pins σ H2 s2 h' x' C us I2 hm' hE⟩)
/-- a def that may be called by its name, and may raise -/
structure Cal1 (P : Program) (w : World) (K : PySem.W.Frag) (mg : Str → Option Value) (base : Heap) (x : Str) (ps : List Str) (k : Nat) (sp : Sp) : Prop where
  ex : ∃ f fd, FnOk P w K mg base (CX1 P w) k f fd ps sp ∧ mg x = some (.ref f) ∧ PySem.W.keepIn K (.ref f) = true ∧ Binds K fd ps []
section
variable {P : Program} {w : World} {K : PySem.W.Frag} {mg : Str → Option Value} {base : Heap} {x : Str} {ps : List Str} {k : Nat} {sp : Sp}
/-- .. where it does not -/
theorem Cal1.cal0 (c : Cal1 P w K mg base x ps k sp) : Cal P w K mg base x ps k (fun vs H Q _ => sp vs H Q E0) := by
  obtain ⟨f, fd, F, r⟩ := c.ex
  refine ⟨f, fd, ⟨fun vs H Q E h => F.len vs H Q _ h, fun A outer s H args us vs Q E hr he hb hv hs => codeAny_mono (F.run A outer s H args us vs Q _ hr he hb hv hs) fun r s' h => ?_⟩, r⟩
  cases r with
  | error e => exact CX1.never h
  | ok fl => cases fl <;> exact h
theorem FunAt.cal1 {N : List Str} {st : Stmt} (F : FunAt K mg x ps st) (S : FnScope N ps (defScope st)) (len : ∀ vs H Q E, sp vs H Q E → vs.length = ps.length)
    (hbody : ∀ (f : Addr) (cdv : Value) (A : Around) (outer : List Env) (s : Shared) (H : Hp) (vs : List V) (Q : VK) (E : XK), Room k (A.deeper (envOfC x (defScope st) s.heap.objs.size f cdv)) → sp vs H Q E →
      ∃ t, PSs (cxOf (CX1 P w) P w K mg base N x (defScope st) f cdv A outer s H E) (defBody st) t ∧ t { nx := fun _ H' => Q .non H', rt := Q } (start N vs) H) : Cal1 P w K mg base x ps (k + 1) sp := by
  obtain ⟨f, fd, F1, m, b⟩ := F.ex
  refine ⟨f, fd, ?_, m, F1.kp, b⟩
  obtain ⟨oc, od, kV, doc, pm, an, cdv, ct, osl, rfl, lk, hcd⟩ := F1.ex
  exact fn_of lk hcd S len fun A outer s H vs Q E hr hsp => hbody f cdv A outer s H vs Q E hr hsp
end
theorem cc1 {X : Cx} {x : Str} {ps : List Str} {k : Nat} {sp : Sp} {e : Expr} {es : List Expr} {t : TA} {p pos : Pos} {E : XK} (hx : Passes (CX1 X.prog X.w) X E) (c : Cal1 X.prog X.w X.K X.mg X.base x ps k sp) (hr : Room k X.A) (ha : PA X (e :: es) t) (hg : Gl X x := by rfl) (hd : (x == ("__debug__" : Str)) = false := by decide)
    (hs : starEach (e :: es) X.env = (false, eval e X.env) :: starEach es X.env := by rfl) (hp : (backTo pos (starEach es X.env)).any (·.1) = false := by rfl) : PE X (.Call (.Name x p) (e :: es) [] pos) (tCall sp [] E t) := by
  obtain ⟨f, fd, F, m, kp, b⟩ := c.ex
  exact pe_call F hr hg m kp b .nil hx ha hd hs hp
end L2

set_option Elab.async false
set_option linter.all false
set_option maxRecDepth 100000
set_option maxHeartbeats 4000000
/-! ### try .. except -/
namespace L2
open PySem PySem.Spec PyProof.Rows
section
variable {P : Program} {w : World} {outer : List Env} {H H' : Hp} {s s' : Shared} {x C : Addr} {B : Heap} {a0 : Value}
/-- the flight goes on to another heap -/
theorem FlyB.move {h5 : Heap} (F : FlyB B a0 P w outer H s x C H' s') (ff : s.heap.FunFrames B outer) (f' : Heap.FlyingW B outer x (.ref C) a0 h5) (up : s'.heap.UpToSlots h5) : FlyB B a0 P w outer H s x C H' { s' with heap := h5 } := by
  refine ⟨F.os, F.bare, ⟨fun b o e n hb _ => ?_, fun b o e n hb _ => ?_, F.un.free, fun b o e _ => ?_, F.un.tups, F.un.frzs, F.un.tbls⟩, hok_of_B F.hok F.fl.1 f'.1 F.tr, f', F.tr, F.pre⟩
  · have e2 := F.un.keep b o e n hb (by simp)
    obtain ⟨o', e3⟩ := F.pre b o e hb
    have e4 := F.fl.1 b o' e3
    rw [e2] at e4
    cases e4
    exact f'.1 b o e3
  · obtain ⟨sl, e2⟩ := F.un.slot b o e n hb (by simp)
    obtain ⟨_, o3, e3, hd⟩ := ff.mem hb
    rw [e] at e3
    cases e3
    obtain ⟨sl3, e4⟩ := up b _ e2 hd
    exact ⟨sl3, e4⟩
  · by_cases hb : b ∈ frs outer
    · obtain ⟨_, o2, e2, _⟩ := f'.2.2.1.mem hb
      exact ⟨o2, e2⟩
    · obtain ⟨o2, e2⟩ := F.pre b o e hb
      exact ⟨o2, f'.1 b o2 e2⟩
theorem FlyB.ne (F : FlyB B a0 P w outer H s x C H' s') {b : Addr} {u : HO} (e : H' b = some u) : b ≠ x := fun z => by
  obtain ⟨o, e'⟩ := F.tr b u e
  rw [z, F.fl.2.1] at e'
  cases e'
theorem FlyB.at (F : FlyB B a0 P w outer H s x C H' s') : ExcAt x C s'.heap := by
  obtain ⟨o, e, c⟩ := F.fl.there
  exact ⟨o, e, c⟩
/-- the thing as an object of its own -/
abbrev excO (x C : Addr) : HO := .ext (ExcAt x C)
theorem excO_ok {h : Heap} (z : ExcAt x C h) : ObjOk P w H h x (excO x C) := by
  obtain ⟨o, e, c⟩ := z
  refine ⟨⟨o, e, c⟩, ⟨o, e⟩, fun h1 h2 ⟨o1, e1, c1⟩ k => ⟨o1, k o1 e1, c1⟩⟩
theorem FlyB.fresh (F : FlyB B a0 P w outer H s x C H' s') : s.heap.get? x = none := by
  cases e : s.heap.get? x with
  | none => rfl
  | some o =>
    by_cases hb : x ∈ frs outer
    · obtain ⟨_, o2, e2, hd⟩ := F.fl.2.2.1.mem hb
      obtain ⟨o3, vs, e3, _, hd3, _⟩ := F.fl.first
      rw [e2] at e3
      cases e3
      exact absurd hd3 (hd vs)
    · obtain ⟨o', e'⟩ := F.pre x o e hb
      rw [F.fl.2.1] at e'
      cases e'
theorem FlyB.free (F : FlyB B a0 P w outer H s x C H' s') : H' x = none := by
  cases e : H' x with
  | none => rfl
  | some u => exact absurd rfl (F.ne e)
theorem FlyB.un2 (F : FlyB B a0 P w outer H s x C H' s') : Un (frs outer) [] H (upd H' x (excO x C)) s.heap s'.heap where
  keep := F.un.keep
  slot := F.un.slot
  free := fun b o e n he => by
    rw [upd_ne fun z => by rw [z, F.fresh] at e; cases e]
    exact F.un.free b o e n he
  there := F.un.there
  tups := fun b xs q => by rw [upd_ne (F.ne (F.un.tups b xs q))]; exact F.un.tups b xs q
  frzs := fun b o u q => by rw [upd_ne (F.ne (F.un.frzs b o u q))]; exact F.un.frzs b o u q
  tbls := fun b ps q => by
    obtain ⟨m, e⟩ := F.un.tbls b ps q
    exact ⟨m, by rw [upd_ne (F.ne e)]; exact e⟩
theorem FlyB.hok2 (F : FlyB B a0 P w outer H s x C H' s') : HOk P w (upd H' x (excO x C)) s'.heap := fun b u q => by
  by_cases hb : b = x
  · subst hb
    rw [upd_same] at q
    cases q
    exact excO_ok F.at
  · rw [upd_ne hb] at q
    exact (F.hok b u q).stay (fun _ _ _ z => z) (fun c z => by rw [upd_ne (F.ne z)]; exact z) (fun c xs z => by rw [upd_ne (F.ne z)]; exact z) fun c ob z => by rw [upd_ne (F.ne z)]; exact z
end
section
variable {X : Cx} {pins : List (Addr × Obj)} {σ : St} {H H' : Hp} {s s' : Shared} {x C : Addr} {B : Heap} {a0 : Value}
theorem FlyB.inv (I : Inv X pins σ H s) (F : FlyB B a0 X.prog X.w X.stack H s x C H' s') : Inv X pins σ H' s' := I.call' F.os F.un F.hok F.bare fun b z => absurd z (by simp)
theorem FlyB.land (I : Inv X pins σ H s) (F : FlyB B a0 X.prog X.w X.stack H s x C H' s') : Inv X pins σ (upd H' x (excO x C)) s' := I.call' F.os F.un2 F.hok2 F.bare fun b z => absurd z (by simp)
/-- within the suite of an except -/
abbrev Cx.mark (X : Cx) (x : Addr) : Cx := { X with A := X.A.mark (some (.ref x)), calm := false, xe := fun _ _ => False }
theorem Inv.mark (I : Inv X pins σ H s) (x : Addr) : Inv (X.mark x) pins σ H s :=
  ⟨⟨I.ok.mod, I.ok.kind, I.ok.glob, I.ok.blt, I.ok.above, I.ok.inj, I.ok.has, I.ok.cab, (fun z => Bool.noConfusion z), I.ok.frames, I.ok.stk, I.ok.exf, I.ok.bs, I.ok.bsz, I.ok.noex, I.ok.exfs, I.ok.funs, I.ok.frf⟩, I.os, I.bare, I.base, I.loc, I.cell, I.free, I.freeC, I.pin, I.hok, I.len⟩
theorem Inv.unmark (K : X.Ok) (I : Inv (X.mark x) pins σ H s) : Inv X pins σ H s := ⟨K, I.os, I.bare, I.base, I.loc, I.cell, I.free, I.freeC, I.pin, I.hok, I.len⟩
/-- a name of ours goes -/
theorem unname_ok {M : Model} {A : Around} {E : Value → Shared → Prop} {i : Nat} {n : Str} {pos : Pos} {Q : Unit → Shared → Prop} (I : Inv X pins σ H s) (hN : X.N.Nodup) (hi : X.N[i]? = some n) (hl : X.env.scope.names.lookup n = some .local)
    (q : ∀ s', Inv X pins (σ.set i none) H s' → Q () s') : wpAny M A (do bindName X.env n .none; unbindBehindTheSuite X.env n pos) Q E s := by
  obtain ⟨m, hn, hlk⟩ := id I.loc
  have hcls : (X.env.scope.kind == .class || (X.env.scope.kind == .module && X.env.locals != X.env.globals)) = false := by rw [I.ok.kind]; rfl
  refine wpAny_nameGoes_keeps hl hn hcls fun h' v hn' hs => ?_
  obtain ⟨oL, _, _, hoL, _⟩ := id hn
  have low : ∀ b o, X.s₀.heap.get? b = some o → b ≠ X.env.locals := fun b o e => Nat.ne_of_lt (Nat.lt_of_lt_of_le (Heap.lt_size e) I.ok.above)
  refine q _ ⟨I.ok, I.os, I.bare, ⟨fun b o e n' hb hx => ?_, fun b o e n' hb hx => ?_, I.base.free, fun b o e hx => ?_, I.base.tups, I.base.frzs, I.base.tbls⟩, ⟨_, hn', fun j y v' e1 e2 e3 => ?_⟩, fun y c e => ?_, I.free, I.freeC, fun p hp => ?_, fun b ob e => ?_, by simpa using I.len⟩
  · exact (hs.2 b (low b o e)).trans (I.base.keep b o e n' hb hx)
  · obtain ⟨sl, e1⟩ := I.base.slot b o e n' hb hx
    exact ⟨sl, (hs.2 b (low b o e)).trans e1⟩
  · obtain ⟨o', e1⟩ := I.base.there b o e hx
    exact ⟨o', (hs.2 b (low b o e)).trans e1⟩
  · by_cases hj : j = i
    · subst hj
      have : j < σ.length := by rw [I.len]; exact (List.getElem?_eq_some_iff.mp hi).1
      rw [List.getElem?_set_self this] at e2
      cases e2
    · rw [List.getElem?_set_ne (Ne.symm hj)] at e2
      obtain ⟨u', r', lk⟩ := hlk j y v' e1 e2 e3
      refine ⟨u', r', ?_⟩
      rcases lk with ⟨k, e⟩ | ⟨k, c, e, z⟩
      · refine .inl ⟨k, ?_⟩
        have : y ≠ n := fun e => hj (nodup_ix hN e1 (e ▸ hi))
        show (if y = n then v else m y) = some u'
        rw [if_neg this]
        exact e
      · exact .inr ⟨k, c, e, z.sameBut hs (I.cne y c e)⟩
  · obtain ⟨w', z⟩ := I.cell y c e
    exact ⟨w', z.sameBut hs (I.cne y c e)⟩
  · obtain ⟨e, n', ne, nf, d⟩ := I.pin p hp
    exact ⟨(hs.2 p.1 ne).trans e, n', ne, nf, d⟩
  · refine (I.hok b ob e).stay (fun c w' hc q => (hs.2 c ?_).trans q) (fun _ q => q) fun _ _ q => q
    rintro rfl
    rcases hc with z | z
    · subst z; rw [I.free] at e; cases e
    · rw [I.free] at z; cases z
end
/-! ### what may raise: an expression, a statement -/
def FX (X : Cx) (pins : List (Addr × Obj)) (EX : St → Addr → Hp → Prop) (e : Value) (s' : Shared) : Prop :=
  ∃ x C σ H H' s, e = .ref x ∧ Inv X pins σ H s ∧ Fly X.prog X.w X.stack H s x C H' s' ∧ EX σ C H'
abbrev TEX := St → Hp → VK → (Addr → Hp → Prop) → Prop
abbrev TSX := Ends → (St → Addr → Hp → Prop) → St → Hp → Prop
def PEX (X : Cx) (e : Expr) (t : TEX) : Prop :=
  ∀ (pins : List (Addr × Obj)) (s : Shared) (σ : St) (H : Hp) (Q : VK) (EX : St → Addr → Hp → Prop), Inv X pins σ H s → t σ H Q (EX σ) → wpAny (model X.prog X.w) X.A (eval e X.env) (EP X pins σ Q) (FX X pins EX) s
def PSX (X : Cx) (st : List Stmt) (t : TSX) : Prop :=
  ∀ (pins : List (Addr × Obj)) (s : Shared) (σ : St) (H : Hp) (D : Ends) (EX : St → Addr → Hp → Prop), Inv X pins σ H s → t D EX σ H → wpAny (model X.prog X.w) X.A (execs st X.env) (SP X pins D) (FX X pins EX) s
theorem execs_one {M : Model} {A : Around} {E : Value → Shared → Prop} {st : Stmt} {env : Env} {Q : Flow → Shared → Prop} {s : Shared} (h : wpAny M A (exec st env) Q E s) : wpAny M A (execs [st] env) Q E s := by
  refine wpAny_execs_cons (thn h fun f s1 q => ?_)
  cases f with
  | next => exact wpAny_execs_nil q
  | ret v => exact q
  | brk => exact q
  | cont => exact q
section
variable {X : Cx}
def sxExpr (te : TEX) : TSX := fun D EX σ H => te σ H (fun _ H1 => D.nx σ H1) (EX σ)
theorem psx_expr {e : Expr} {te : TEX} {pos : Pos} (he : PEX X e te) (hs : swapsWith e none pos.line X.env = pure false := by rfl) : PSX X [.Expr e pos] (sxExpr te) := by
  intro pins s σ H D EX I h
  refine execs_one (wpAny_Expr_any (wpAny_mono (he pins s σ H _ EX I h) (fun v s1 ⟨x1, H1, I1, r, q⟩ => ?_) fun _ _ z => z) I.quiet hs)
  exact ⟨_, H1, I1, q⟩
end
/-! ### the statement -/
/-- try: body except c as n: suite -/
def tTryAs (K : PySem.W.Frag) (cv : Value) (m : Nat) (tb : TSX) (ts : TS) : TS := fun D σ H => tb D (fun σ' C H' => PySem.W.exmOne K (.ref C) cv = some true ∧ ∀ p, H' p = none →
  ts { nx := fun σ2 H2 => D.nx (σ2.set m none) H2, rt := D.rt, bk := fun σ2 H2 => D.bk (σ2.set m none) H2, ct := fun σ2 H2 => D.ct (σ2.set m none) H2 } (σ'.set m (some (.ref p))) (upd H' p (excO p C))) σ H
theorem ps_tryAs {X : Cx} {body suite : List Stmt} {b0 : Stmt} {c n : Str} {np hp pos : Pos} {cv : Value} {m : Nat} {tb : TSX} {ts : TS} (hB : Body X) (hN : X.N.Nodup) (hm : X.N[m]? = some n) (hl : X.env.scope.names.lookup n = some .local) (hg : Gl X c) (hcv : X.mg c = some cv)
    (hb : PSX X body tb) (hs : ∀ x, PSs (X.mark x) (b0 :: suite) ts) (hd : (c == ("__debug__" : Str)) = false := by decide) :
    PS X (.Try body [.ExceptHandler (some (.Name c np)) (some n) (b0 :: suite) hp] [] [] pos) (tTryAs X.K cv m tb ts) := by
  intro pins s σ H D I h
  refine wpAny_Try_except (wpAny_mono (hb pins s σ H D _ I h) (fun f s1 q => ?_) fun e s1 z => ?_)
  · cases f with
    | next => exact wpAny_execs_nil q
    | ret v => exact q
    | brk => exact q
    | cont => exact q
  · obtain ⟨x, C, σ', H1, H', s0, rfl, I0, ⟨B, a0, F⟩, hk, hq⟩ := z
    have stk : s0.heap.FunFrames B X.stack := by
      have h1 := I0.stack
      have all : ∀ l : List Env, (∀ b ∈ frs l, b ∈ frs X.stack) → s0.heap.FunFrames X.base l → s1.heap.FunFrames B l → s0.heap.FunFrames B l := by
        intro l
        induction l with
        | nil => intro _ _ _; trivial
        | cons env r ih =>
          intro hs hl hf
          obtain ⟨k1, ⟨L, o, f1, _, ho, hd1⟩, hr⟩ := hl
          obtain ⟨_, ⟨L2, o2, f2, hn2, _, _⟩, hr2⟩ := hf
          rw [f1] at f2
          cases f2
          exact ⟨k1, ⟨L, o, f1, hn2, ho, hd1⟩, ih (fun b hb => hs b (by unfold frs; rw [List.filterMap_cons, f1]; exact List.mem_cons_of_mem _ hb)) hr hr2⟩
      exact all X.stack (fun _ hb => hb) h1 F.fl.2.2.1
    have fl := F.fl
    have fl' := F.fl
    rw [hB.st] at fl'
    refine wpAny_looks_onW (by rw [I.ok.frames, hB.st]) hB.fr fl' fun h4 held4 up4 => wpAny_landsW held4 fun h5 fl5 up5 => ?_
    have fl5' := fl5
    rw [← hB.st] at fl5'
    have F5 := F.move stk fl5' (up4.trans up5)
    have I5 := F5.inv I0
    have Im := I5.mark x
    refine wpAny_handleBy_cons (codeAny_handlers_test (ld_glob Im hg hcv ?_ hd)) (by intro q; cases q)
    refine (PySem.W.exm_one Im.kIn F5.at.type hk).here ?_
    refine codeAny_handlers_suite_as (lands_againW fl5' fun h6 fl6 up6 => ?_)
    have F6 := F5.move stk fl6 up6
    have I6 := F6.land I0
    refine store_ok I6 hN hm (.inl hl) (v := .ref x) rfl (fun s7 I7 => ?_) (.inr hl)
    refine wpAny_mono (hs x pins s7 _ _ _ (I7.mark x) (hq x F6.free)) (fun f s8 q => ?_) fun _ _ z => False.elim z
    cases f with
    | next =>
      obtain ⟨σ8, H8, I8, q8⟩ := q
      exact unname_ok (I8.unmark I.ok) hN hm hl fun s9 I9 => ⟨_, H8, I9, q8⟩
    | ret v =>
      obtain ⟨v8, σ8, H8, I8, r8, q8⟩ := q
      exact unname_ok (I8.unmark I.ok) hN hm hl fun s9 I9 => ⟨v8, _, H8, I9, r8, q8⟩
    | brk =>
      obtain ⟨σ8, H8, I8, q8⟩ := q
      exact unname_ok (I8.unmark I.ok) hN hm hl fun s9 I9 => ⟨_, H8, I9, q8⟩
    | cont =>
      obtain ⟨σ8, H8, I8, q8⟩ := q
      exact unname_ok (I8.unmark I.ok) hN hm hl fun s9 I9 => ⟨_, H8, I9, q8⟩
end L2

set_option Elab.async false
set_option linter.all false
set_option maxRecDepth 100000
set_option maxHeartbeats 4000000
/-! ### lambdas -/
namespace L2
open PySem PySem.Spec PyProof.Rows
section
variable {cs : List Addr} {H H' H2 : Hp} {h h' : Heap} {b : Addr}
variable {P : Program} {w : World} {fs : List Addr}
end
end L2

set_option Elab.async false
set_option linter.all false
set_option maxRecDepth 100000
set_option maxHeartbeats 4000000
/-! ### a lambda without arguments, handed to a def that calls it -/
namespace L2
open PySem PySem.Spec PyProof.Rows
section
variable {P : Program} {w : World} {K : PySem.W.Frag} {mg : Str → Option Value} {base : Heap} {N : List Str} {qual : Str} {scope : Scope} {cl : List (Str × Addr)} {f c' : Addr} {cd : Value}
end
/-! ### the lambda is made -/
section
variable {X : Cx} {pins : List (Addr × Obj)} {σ : St} {H : Hp} {s : Shared} {c P : Addr} {q : Str} {params : Arguments} {body : Expr} {scope : Scope} {pos : Pos} {cl : List (Str × Addr)}
end
end L2

set_option Elab.async false
set_option linter.all false
set_option maxRecDepth 100000
set_option maxHeartbeats 4000000
namespace L2
open PySem PySem.Spec PyProof.Rows
/-! ### the closure is called, within a try -/
/-! ### isinstance(x, c): c by its name -/
/-- .. x an own exception -/
def rIsiE (K : PySem.W.Frag) : List V → Hp → VK → Prop := fun xs H Q => ∃ e C y cv b, xs = [.ref e, y] ∧ RelV y cv ∧ H e = some (excO e C) ∧ ExcK K C ∧ PySem.W.kitOne K (.ref C) cv = some b ∧ Q (.bl b) H
theorem call_isiE {X : Cx} : CallR X (.builtin "isinstance") (rIsiE X.K) := by
  intro pins s σ H xs us Q I r h
  obtain ⟨e, C, y, cv, b, rfl, ry, he, z, kb, q⟩ := h
  obtain ⟨u, w', rfl, ru, rw'⟩ := vals2 r
  obtain rfl : u = Value.ref e := ru
  have ew : w' = cv := by
    cases y <;> first | exact (show _ = _ from rw').trans (show _ = _ from ry).symm | skip
    all_goals
      obtain ⟨t1, z1⟩ := rw'
      obtain ⟨t2, z2⟩ := ry
      skip
    all_goals
      subst z1 z2
      unfold PySem.W.kitOne at kb
      simp [PySem.W.kitCls] at kb
  subst ew
  exact PySem.W.kia_one (kitx_exc z) I.kIn (I.hok e _ he).1 kb (fun z => nomatch z) fun tk => ⟨.bl b, H, I.tok _, rfl, q⟩
end L2

set_option Elab.async false
set_option linter.all false
set_option maxRecDepth 100000
set_option maxHeartbeats 4000000
/-! ### the head of a law one of whose defs makes lambdas -/
namespace L2
open PySem PySem.Spec PyProof.Rows
end L2
namespace L2
theorem body_nox {X : Cx} (b : Body X := by exact ⟨rfl, rfl, rfl⟩) : Body X := b
end L2

set_option Elab.async false
set_option linter.all false
set_option maxRecDepth 100000
set_option maxHeartbeats 4000000
namespace My
open PySem L2 MA
/-- the own classes by their names -/
structure Errs where
  ball : Addr
  c0 : Addr
  c1 : Addr
  c2 : Addr
  c3 : Addr
  c4 : Addr
  c5 : Addr
  c6 : Addr
  c7 : Addr
  c8 : Addr
structure ErrN (mg : Str → Option Value) (e : Errs) : Prop where
  ball : mg "BallError" = some (.ref e.ball)
  m0 : mg "NoShare" = some (.ref e.c0)
  m1 : mg "NoBall" = some (.ref e.c1)
  m2 : mg "Unlike" = some (.ref e.c2)
  m3 : mg "Fuller" = some (.ref e.c3)
  m4 : mg "TooMany" = some (.ref e.c4)
  m5 : mg "NoBack" = some (.ref e.c5)
  m6 : mg "NoName" = some (.ref e.c6)
  m7 : mg "NoText" = some (.ref e.c7)
  m8 : mg "NoRow" = some (.ref e.c8)
/-- the class at C is the i-th of the nine -/
structure ErrI (K : PySem.W.Frag) (e : Errs) (C : Addr) (i : Nat) : Prop where
  lt : i < 9
  ek : ExcK K C
  ball : PySem.W.exmOne K (.ref C) (.ref e.ball) = some true
  i0 : PySem.W.kitOne K (.ref C) (.ref e.c0) = some (decide (i = 0))
  i1 : PySem.W.kitOne K (.ref C) (.ref e.c1) = some (decide (i = 1))
  i2 : PySem.W.kitOne K (.ref C) (.ref e.c2) = some (decide (i = 2))
  i3 : PySem.W.kitOne K (.ref C) (.ref e.c3) = some (decide (i = 3))
  i4 : PySem.W.kitOne K (.ref C) (.ref e.c4) = some (decide (i = 4))
  i5 : PySem.W.kitOne K (.ref C) (.ref e.c5) = some (decide (i = 5))
  i6 : PySem.W.kitOne K (.ref C) (.ref e.c6) = some (decide (i = 6))
  i7 : PySem.W.kitOne K (.ref C) (.ref e.c7) = some (decide (i = 7))
  i8 : PySem.W.kitOne K (.ref C) (.ref e.c8) = some (decide (i = 8))
  ve : PySem.W.kitOne K (.ref C) (.type "ValueError") = some true
theorem bt_ValueError : bootBuiltins "ValueError" = some (.type "ValueError") := by decide +kernel
end My
namespace L2
theorem Cal.imp {P : PySem.Program} {w : PySem.World} {K : PySem.W.Frag} {mg : PySem.Str → Option PySem.Value} {base : PySem.Heap} {x : PySem.Str} {ps : List PySem.Str} {k : Nat} {sp sp' : Sp} (c : Cal P w K mg base x ps k sp) (h : ∀ vs H Q E, sp' vs H Q E → sp vs H Q E) : Cal P w K mg base x ps k sp' :=
  let ⟨f, fd, F, r⟩ := c.ex
  ⟨f, fd, F.imp h, r⟩
end L2
namespace My
open PySem L2 MA
end My
namespace My
open PySem L2 MA
theorem errN_mk {K : PySem.W.Frag} {h : Heap} {mg : Str → Option Value} {b c0 c1 c2 c3 c4 c5 c6 c7 c8 : Addr} (X : K.In h) (G : h.Ns mainGlobals mg) (a : PySem.W.nsIn K mainGlobals "BallError" = some (some (.ref b)))
    (a0 : PySem.W.nsIn K mainGlobals "NoShare" = some (some (.ref c0))) (a1 : PySem.W.nsIn K mainGlobals "NoBall" = some (some (.ref c1))) (a2 : PySem.W.nsIn K mainGlobals "Unlike" = some (some (.ref c2)))
    (a3 : PySem.W.nsIn K mainGlobals "Fuller" = some (some (.ref c3))) (a4 : PySem.W.nsIn K mainGlobals "TooMany" = some (some (.ref c4))) (a5 : PySem.W.nsIn K mainGlobals "NoBack" = some (some (.ref c5)))
    (a6 : PySem.W.nsIn K mainGlobals "NoName" = some (some (.ref c6))) (a7 : PySem.W.nsIn K mainGlobals "NoText" = some (some (.ref c7))) (a8 : PySem.W.nsIn K mainGlobals "NoRow" = some (some (.ref c8))) : ErrN mg ⟨b, c0, c1, c2, c3, c4, c5, c6, c7, c8⟩ :=
  ⟨PySem.W.mg_of X G a, PySem.W.mg_of X G a0, PySem.W.mg_of X G a1, PySem.W.mg_of X G a2, PySem.W.mg_of X G a3, PySem.W.mg_of X G a4, PySem.W.mg_of X G a5, PySem.W.mg_of X G a6, PySem.W.mg_of X G a7, PySem.W.mg_of X G a8⟩
/-- all that is wanted of the class at C, the i-th, by one look -/
def errOk (K : PySem.W.Frag) (e : Errs) (C : Addr) (i : Nat) : Bool :=
  decide (i < 9) && (PySem.W.findIn K (.ref C) "__getattribute__" == some (some (.builtin "BaseException.__getattribute__"))) && (PySem.W.findIn K (.ref C) "__getattr__" == some none) && (PySem.W.findIn K (.ref C) "__class__" == some (some (.builtin "object.__class__"))) &&
  (PySem.W.specialIn K (.builtin "object.__class__") "__get__" == some (some (.builtin "getset_descriptor.__get__"))) && (PySem.W.takesIn K (.builtin "object.__class__") == some true) && (PySem.W.clsIn K C).isSome && (PySem.W.mroIn K C (.type "object") == some true) && (PySem.W.mroIn K C (.type "BaseException") == some true) &&
  (PySem.W.exmOne K (.ref C) (.ref e.ball) == some true) && ((([e.c0, e.c1, e.c2, e.c3, e.c4, e.c5, e.c6, e.c7, e.c8] : List Addr).zipIdx.all fun p => PySem.W.kitOne K (.ref C) (.ref p.1) == some (decide (i = p.2)))) && (PySem.W.kitOne K (.ref C) (.type "ValueError") == some true) && PySem.W.excIn K C bmVE "ValueError.__new__"
theorem errOk_of {K : PySem.W.Frag} {e : Errs} {C : Addr} {i : Nat} (h : errOk K e C i = true) : ErrI K e C i ∧ PySem.W.excIn K C bmVE "ValueError.__new__" = true := by
  unfold errOk at h
  simp only [Bool.and_eq_true, beq_iff_eq, decide_eq_true_eq, List.zipIdx_cons, List.zipIdx_nil, List.all_cons, List.all_nil, and_true] at h
  obtain ⟨⟨⟨⟨⟨⟨⟨⟨⟨⟨⟨⟨h1, h2⟩, h3⟩, h4⟩, h5⟩, h6⟩, h7⟩, h8⟩, h9⟩, h10⟩, k0, k1, k2, k3, k4, k5, k6, k7, k8⟩, h12⟩, h13⟩ := h
  exact ⟨⟨h1, ⟨h2, h3, h4, h5, h6, h7, h8, h9⟩, h10, k0, k1, k2, k3, k4, k5, k6, k7, k8, h12⟩, h13⟩
end My

set_option Elab.async false
set_option linter.all false
set_option maxRecDepth 100000
set_option maxHeartbeats 4000000
namespace L2
open PySem PySem.Spec PyProof.Rows
section
variable {X : Cx}
end
end L2
namespace My
open PySem L2 MA
theorem same_updN {H H' : Hp} {l : Addr} (hl : H l = none) (s : Same H H') (o : HO) : Same H (upd H' l o) := fun b u q => by rw [upd_ne (ne_of_none q hl)]; exact s _ _ q
end My
namespace My
open PySem L2 MA
end My

set_option Elab.async false
set_option linter.all false
set_option maxRecDepth 100000
set_option maxHeartbeats 4000000
namespace L2
open PySem PySem.Spec PyProof.Rows
/-- [.. for x, y in zip(xs, ys)], what is made may be new -/
theorem comp_zipP {K : PySem.W.Frag} {b1 b2 : Bool} {a b : Addr} {xs ys : List V} {te : TE} {H : Hp} {R : Addr → Hp → Prop} {fs : St} (Pv : Addr → Nat → List V → Hp → Prop) (hz : xs.length ≤ 10000) (hxy : xs.length = ys.length) (hp0 : ∀ p, H p = none → Pv p 0 [] (upd H p (.lst [])))
    (hl : ∀ p i zs H', H p = none → Pv p i zs H' → H' a = some (hoB b1 xs) ∧ H' b = some (hoB b2 ys))
    (hte : ∀ p i zs H' x y t, H p = none → xs[i]? = some x → ys[i]? = some y → Pv p i zs H' → H' p = some (.lst zs) → H' t = none → ∀ Q' : VK, (∀ v H'', H'' p = some (.lst zs) → Pv p (i + 1) (zs ++ [v]) (upd H'' p (.lst (zs ++ [v]))) → Q' v H'') → te (some x :: some y :: fs) (upd H' t (.tup [x, y])) Q')
    (q : ∀ p zs H', H p = none → Pv p xs.length zs H' → H' p = some (.lst zs) → zs.length = xs.length → R p H') :
    ∀ p, H p = none → ∃ W : Nat → Nat → List V → St → Hp → Prop, (∃ m, W 0 m [] (none :: none :: fs) (upd H p (.lst []))) ∧ ∀ i m zs σ' H', W i m zs σ' H' →
      ((ItzB K b1 b2 a b).stop i H' ∧ R p H') ∨ ((ItzB K b1 b2 a b).go i H' ∧ ∀ x H2, (ItzB K b1 b2 a b).yld i H' x H2 → gTup0 2 (gCons (gName 0) (gCons (gName 1) gNil)) x σ' H2 fun σ2 H3 => tTT σ2 H3 fun b H4 => if b = true then te σ2 H4 fun v H5 => zs.length < sizeLine ∧ H5 p = some (.lst zs) ∧ (∃ m', m' < m ∧ W (i + 1) m' (zs ++ [v]) σ2 (upd H5 p (.lst (zs ++ [v]))))
        else ∃ m', m' < m ∧ W (i + 1) m' zs σ2 H4) := by
  intro p hp
  refine ⟨fun i m zs σ' H' => m = xs.length - i ∧ i ≤ xs.length ∧ zs.length = i ∧ Pv p i zs H' ∧ H' p = some (.lst zs) ∧ ∃ o1 o2, σ' = o1 :: o2 :: fs, ⟨xs.length, by simp, Nat.zero_le _, rfl, hp0 p hp, upd_same, _, _, rfl⟩, ?_⟩
  rintro i m zs σ' H' ⟨rfl, hi, hzl, pv, hp', o1, o2, rfl⟩
  obtain ⟨ha', hb'⟩ := hl p i zs H' hp pv
  by_cases hlt : i < xs.length
  · have h2 : i < ys.length := by omega
    refine .inr ⟨⟨xs, ys, xs[i], ys[i], SqB.of ha', SqB.of hb', List.getElem?_eq_getElem hlt, List.getElem?_eq_getElem h2⟩, fun x H2 hy => ?_⟩
    obtain ⟨r, x, y, rfl, hr, rfl, hxy'⟩ := hy
    obtain ⟨hx, hy⟩ := hxy' xs ys (SqB.of ha') (SqB.of hb')
    refine ⟨r, _, rfl, upd_same, rfl, _, _, rfl, _, _, rfl, rfl, ?_⟩
    change te (some x :: some y :: fs) _ _
    refine hte p i zs H' x y r hp hx hy pv hp' hr _ fun v H5 h5 pv5 => ⟨?_, h5, xs.length - (i + 1), by omega, rfl, hlt, by simp [hzl], pv5, upd_same, _, _, rfl⟩
    rw [hzl, sizeLine_eq]; omega
  · have e : i = xs.length := by omega
    subst e
    exact .inl ⟨⟨xs, ys, SqB.of ha', SqB.of hb', .inl (Nat.le_refl _)⟩, q p zs H' hp pv hp' hzl⟩
/-- isinstance(x, (A, B, ..)), x an own exception, A, B .. own classes -/
def rIsiET (K : PySem.W.Frag) : List V → Hp → VK → Prop := fun xs H Q => ∃ (e C t : Addr) (cs : List Addr) (b : Bool), xs = [.ref e, .ref t] ∧ H e = some (excO e C) ∧ ExcK K C ∧ H t = some (.tup (cs.map V.ref)) ∧ PySem.W.kitAny K (.ref C) (cs.map Value.ref) = some b ∧ Q (.bl b) H
theorem refs_vals : ∀ {cs : List Addr} {us : List Value}, Vals (cs.map V.ref) us → us = cs.map Value.ref
  | [], _, .nil => rfl
  | c :: cs, _, .cons r t => by
    have e : _ = Value.ref c := r
    rw [e, refs_vals t]
    rfl
theorem call_isiET {X : Cx} : CallR X (.builtin "isinstance") (rIsiET X.K) := by
  intro pins s σ H xs us Q I r h
  obtain ⟨e, C, t, cs, b, rfl, he, z, ht, kb, q⟩ := h
  obtain ⟨u, w', rfl, ru, rw'⟩ := vals2 r
  obtain rfl : u = Value.ref e := ru
  obtain rfl : w' = Value.ref t := rw'
  obtain ⟨its, rv, tp, _⟩ := I.tuple (SqT.of ht)
  have ei := refs_vals rv
  subst ei
  obtain ⟨o, ho, hc, n, hd⟩ := tp
  obtain ⟨c0, dd, da, sl⟩ := o
  dsimp only at hc hd
  subst hc hd
  exact PySem.W.kia_tup (kitx_exc z) I.kIn (I.hok e _ he).1 ho kb (fun z => nomatch z) fun tk => ⟨.bl b, H, I.tok _, rfl, q⟩
theorem PS.nox {X : Cx} {st : Stmt} {t : TS} (h : PS X.nox st t) : PS X st t := fun pins s σ H D I hw =>
  wpAny_mono (h pins s σ H D (I.wish _) hw) (fun _ _ q => q.unwish) fun _ _ z => False.elim z
end L2
namespace My
open PySem L2 MA
end My

set_option Elab.async false
set_option linter.all false
set_option maxRecDepth 100000
set_option maxHeartbeats 4000000
namespace L2
open PySem PySem.Spec PyProof.Rows
/-- a zip that may have handed a pair out that lives on -/
def ZipAt (h : Heap) (z TI TO : Addr) : Prop := ∃ f0 f1, (f0 = .none ∨ ∃ i : Int, f0 = rawInt i) ∧ h.get? z = some { cls := .type "zip", dict := none, data := .fields #[f0, f1, .bool false, .ref TI, .ref TO], slots := #[] }
def ZipE (h : Heap) (z TI TO : Addr) : Prop := ∃ f0 f1, h.get? z = some { cls := .type "zip", dict := none, data := .fields #[f0, f1, .bool false, .ref TI, .ref TO], slots := #[] }
theorem ZipAt.e {h : Heap} {z TI TO : Addr} (x : ZipAt h z TI TO) : ZipE h z TI TO := let ⟨a, b, _, c⟩ := x; ⟨a, b, c⟩
theorem ZipE.at {h h' : Heap} {z TI TO : Addr} (x : ZipE h z TI TO) (k : ∀ o, h.get? z = some o → h'.get? z = some o) : ZipE h' z TI TO := let ⟨a, b, c⟩ := x; ⟨a, b, k _ c⟩
theorem ZipAt.at {h h' : Heap} {z TI TO : Addr} (x : ZipAt h z TI TO) (k : ∀ o, h.get? z = some o → h'.get? z = some o) : ZipAt h' z TI TO := let ⟨a, b, d, c⟩ := x; ⟨a, b, d, k _ c⟩
section
variable {prog : Program} {w : World} {A : Around} {E : Value → Shared → Prop} {s : Shared}
theorem zip_free {z TI TO : Addr} {Q : Bool → Shared → Prop} (hz : ZipAt s.heap z TI TO) (h : ∀ b h', ZipAt h' z TI TO → Heap.SameBut z s.heap h' → Q b { s with heap := h' }) : wpAny (model prog w) A (Builtin.SmallTypes.ownedTupleIsFree (.ref z)) Q E s := by
  obtain ⟨f0, f1, hf, hz⟩ := hz
  unfold Builtin.SmallTypes.ownedTupleIsFree
  refine wpAny_bind (wpAny_field hz rfl (x := f0) rfl ?_)
  have same : Heap.SameBut z s.heap s.heap := ⟨rfl, fun _ _ => rfl⟩
  rcases hf with rfl | ⟨i, rfl⟩
  · exact wpAny_pure (h _ _ ⟨_, _, .inl rfl, hz⟩ same)
  · show wpAny _ _ (loadIfAlive i.toNat >>= _) _ _ s
    refine wpAny_bind ?_
    have al : ∀ {Q : Option Obj → Shared → Prop}, Q (s.heap.get? i.toNat) s → wpAny (model prog w) A (loadIfAlive i.toNat) Q E s := fun hQ _ _ _ => hQ
    refine al ?_
    cases e : s.heap.get? i.toNat with
    | none => exact wpAny_pure (h _ _ ⟨_, _, .inr ⟨i, rfl⟩, hz⟩ same)
    | some o =>
      show wpAny _ _ (field (.ref z) 1 >>= _) _ _ s
      refine wpAny_bind (wpAny_field hz rfl (x := f1) rfl ?_)
      by_cases e1 : (f1 != Value.bool true) = true
      · rw [if_pos e1]
        exact wpAny_bind (wpAny_setField_rec hz (by simp) fun g1 z1 s1 => wpAny_pure (h _ g1 ⟨_, _, .inr ⟨i, rfl⟩, z1⟩ s1))
      · rw [if_neg e1]
        exact wpAny_pure (h _ _ ⟨_, _, .inr ⟨i, rfl⟩, hz⟩ same)
theorem zip_set {z TI TO : Addr} {k : Nat} {v : Value} {Q : Unit → Shared → Prop} (hz : ZipE s.heap z TI TO) (hk : k = 0 ∨ k = 1) (h : ∀ h', ZipE h' z TI TO → Heap.SameBut z s.heap h' → Q () { s with heap := h' }) : wpAny (model prog w) A (setField (.ref z) k v) Q E s := by
  obtain ⟨f0, f1, hz⟩ := hz
  rcases hk with rfl | rfl
  · exact wpAny_setField_rec hz (by simp) fun g1 z1 s1 => h g1 ⟨_, _, z1⟩ s1
  · exact wpAny_setField_rec hz (by simp) fun g1 z1 s1 => h g1 ⟨_, _, z1⟩ s1
theorem zipW_item {z TI TO i1 i2 l1 l2 : Addr} {b1 b2 : Bool} {k : Nat} {xs ys : Array Value} {x y u v : Value} {Q : Value → Shared → Prop} (D : ZipApart z TI TO i1 i2 l1 l2)
    (hz : ZipAt s.heap z TI TO) (p1 : IsPair s.heap TI (.ref i1) (.ref i2)) (p2 : IsPair s.heap TO u v) (j1 : IterB s.heap b1 i1 l1 k) (j2 : IterB s.heap b2 i2 l2 k) (q1 : IsB s.heap b1 l1 xs) (q2 : IsB s.heap b2 l2 ys) (hx : xs[k]? = some x) (hy : ys[k]? = some y)
    (K : ∀ h', ZipAt h' z TI TO → (∃ u v, IsPair h' TO u v) → IterB h' b1 i1 l1 (k + 1) → IterB h' b2 i2 l2 (k + 1) → IsPair h' s.heap.objs.size x y → h'.objs.size = s.heap.objs.size + 1 →
      (∀ c o, c ≠ z → c ≠ TO → c ≠ i1 → c ≠ i2 → s.heap.get? c = some o → h'.get? c = some o) → Q (.ref s.heap.objs.size) { s with heap := h' }) :
    wpAny (model prog w) A (Builtin.«zip.__next__» ⟨[.ref z], []⟩) (fun fin s' => ∃ v, fin = .done (.ret v) ∧ Q v s') E s := by
  obtain ⟨f0, f1, hf, hz0⟩ := id hz
  refine wpAny_bind (m := field (.ref z) 2) (wpAny_field hz0 rfl (x := .bool false) rfl (wpAny_bind (m := field (.ref z) 3) (wpAny_field hz0 rfl (x := .ref TI) rfl (wpAny_bind (wpAny_seqItems p1 rfl (wpAny_bind (m := Builtin.SmallTypes.ownedTupleIsFree (.ref z)) ?_))))))
  refine zip_free hz fun fr g0 z0 s0 => ?_
  replace p1 : IsPair g0 TI (.ref i1) (.ref i2) := s0.extBut _ _ D.TIz p1
  replace p2 : IsPair g0 TO u v := s0.extBut _ _ D.TOz p2
  replace j1 : IterB g0 b1 i1 l1 k := j1.at fun o e => (s0.2 _ D.i1z).trans e
  replace j2 : IterB g0 b2 i2 l2 k := j2.at fun o e => (s0.2 _ D.i2z).trans e
  replace q1 : IsB g0 b1 l1 xs := q1.at fun o e => (s0.2 _ D.l1z).trans e
  replace q2 : IsB g0 b2 l2 ys := q2.at fun o e => (s0.2 _ D.l2z).trans e
  cases fr with
  | true =>
    obtain ⟨f0', f1', hf', hz'⟩ := id z0
    simp only [if_true]
    refine wpAny_bind (wpAny_rule (wpAny_bind (wpAny_field hz' rfl (x := .ref TO) rfl (wpAny_bind (zip_set z0.e (.inl rfl) fun g1 z1 s1 => ?_)))))
    refine wpAny_bind ?_
    simp only [List.zipIdx_cons, List.forIn_cons, List.zipIdx_nil, List.forIn_nil]
    refine wpAny_bind (wpAny_bind (wpAny_onRaise (wpAny_bind (m := Builtin.SmallTypes.nextOf (.ref i1)) (nxtB_item (j1.at fun o e => (s1.2 _ D.i1z).trans e) (q1.at fun o e => (s1.2 _ D.l1z).trans e) hx fun g2 j1' s2 => wpAny_pure ?_))))
    have t2 : IsPair g2 TO u v := s2.extBut _ _ D.TOi1 (s1.extBut _ _ D.TOz p2)
    refine wpAny_bind (wpAny_seqItems t2 rfl (wpAny_bind (wpAny_updateSeq_pair t2 fun g3 t3 s3 => wpAny_bind (wpAny_letGo (wpAny_pure ?_)))))
    replace t3 : IsPair g3 TO x v := t3
    refine wpAny_bind (wpAny_bind (wpAny_onRaise (wpAny_bind (m := Builtin.SmallTypes.nextOf (.ref i2)) (nxtB_item (((j2.at fun o e => (s1.2 _ D.i2z).trans e).at fun o e => (s2.2 _ D.i12.symm).trans e).at fun o e => (s3.2 _ D.TOi2.symm).trans e)
      (((q2.at fun o e => (s1.2 _ D.l2z).trans e).at fun o e => (s2.2 _ D.l2i1).trans e).at fun o e => (s3.2 _ D.l2TO).trans e) hy fun g4 j2' s4 => wpAny_pure ?_))))
    have t4 : IsPair g4 TO x v := s4.extBut _ _ D.TOi2 t3
    refine wpAny_bind (wpAny_seqItems t4 rfl (wpAny_bind (wpAny_updateSeq_pair t4 fun g5 t5 s5 => wpAny_bind (wpAny_letGo (wpAny_pure (wpAny_pure ?_))))))
    replace t5 : IsPair g5 TO x y := t5
    refine wpAny_bind (wpAny_seqItems t5 rfl (wpAny_bind (wpAny_newTuple (wpAny_bind (m := Builtin.SmallTypes.ownedTupleHandOut (.ref z) (.ref g5.objs.size)) ?_))))
    have sz : g5.objs.size = s.heap.objs.size := by rw [s5.1, s4.1, s3.1, s2.1, s1.1, s0.1]
    have z5 : ZipE g5 z TI TO := (((z1.at fun o e => s2.extBut _ _ D.i1z.symm e).at fun o e => s3.extBut _ _ D.TOz.symm e).at fun o e => s4.extBut _ _ D.i2z.symm e).at fun o e => s5.extBut _ _ D.TOz.symm e
    have k5 : ∀ c o, c ≠ z → c ≠ TO → c ≠ i1 → c ≠ i2 → s.heap.get? c = some o → g5.get? c = some o := fun c o c1 c2 c3 c4 e => s5.extBut _ _ c2 (s4.extBut _ _ c4 (s3.extBut _ _ c2 (s2.extBut _ _ c3 (s1.extBut _ _ c1 (s0.extBut _ _ c1 e)))))
    have zl : z < g5.objs.size := let ⟨_, _, e⟩ := z5; Heap.lt_size e
    unfold Builtin.SmallTypes.ownedTupleHandOut
    obtain ⟨a0, a1, z6⟩ : ZipE (g5.push { cls := .type "tuple", data := .seq #[x, y] }) z TI TO := z5.at fun o e => Heap.get?_push_of_some _ e
    refine wpAny_bind (wpAny_setField_rec z6 (by simp) fun g7 z7 s7 => ?_)
    refine wpAny_setField_rec z7 (by simp) fun g8 z8 s8 => ?_
    have up : ∀ c o, c ≠ z → g5.get? c = some o → g8.get? c = some o := fun c o c1 e => s8.extBut _ _ c1 (s7.extBut _ _ c1 (Heap.get?_push_of_some _ e))
    have T8 : IsPair g8 g5.objs.size x y := s8.extBut _ _ (Nat.ne_of_gt zl) (s7.extBut _ _ (Nat.ne_of_gt zl) (Heap.get?_push_size _ rfl))
    have sz8 : g8.objs.size = s.heap.objs.size + 1 := by rw [s8.1, s7.1, Heap.size_push, sz]
    rw [sz] at T8
    refine wpAny_pure ⟨_, rfl, ?_⟩
    show Q (.ref g5.objs.size) _
    rw [sz]
    refine K g8 ⟨_, _, .inr ⟨_, rfl⟩, z8⟩ ⟨_, _, up _ _ D.TOz t5⟩ ?_ ?_ T8 sz8 fun c o c1 c2 c3 c4 e => up c o c1 (k5 c o c1 c2 c3 c4 e)
    · exact (((j1'.at fun o e => (s3.2 _ D.TOi1.symm).trans e).at fun o e => (s4.2 _ D.i12).trans e).at fun o e => (s5.2 _ D.TOi1.symm).trans e).at fun o e => up _ o D.i1z e
    · exact (j2'.at fun o e => (s5.2 _ D.TOi2.symm).trans e).at fun o e => up _ o D.i2z e
  | false =>
    simp only [Bool.false_eq_true, if_false]
    refine wpAny_bind ?_
    simp only [List.forIn_toArray, List.forIn_cons, List.forIn_nil]
    refine wpAny_bind (wpAny_bind (wpAny_holding (wpAny_bind (m := Builtin.SmallTypes.nextOf (.ref i1)) (nxtB_item j1 q1 hx fun g2 j1' s2 => wpAny_pure ?_))))
    refine wpAny_pure ?_
    refine wpAny_bind (wpAny_bind (wpAny_holding (wpAny_bind (m := Builtin.SmallTypes.nextOf (.ref i2)) (nxtB_item (j2.at fun o e => (s2.2 _ D.i12.symm).trans e) (q2.at fun o e => (s2.2 _ D.l2i1).trans e) hy fun g4 j2' s4 => wpAny_pure ?_))))
    refine wpAny_pure (wpAny_pure ?_)
    refine wpAny_bind (wpAny_newTuple (hsz := (by show 2 ≤ sizeLine; decide)) ?_)
    have sz : g4.objs.size = s.heap.objs.size := by rw [s4.1, s2.1, s0.1]
    refine wpAny_pure ⟨_, rfl, ?_⟩
    show Q (.ref g4.objs.size) _
    have up : ∀ c o, g4.get? c = some o → (g4.push { cls := .type "tuple", data := .seq #[x, y] }).get? c = some o := fun c o e => Heap.get?_push_of_some _ e
    have T8 : IsPair (g4.push { cls := .type "tuple", data := .seq #[x, y] }) g4.objs.size x y := Heap.get?_push_size _ rfl
    rw [sz] at T8
    rw [sz]
    refine K _ (z0.at fun o e => up _ _ (s4.extBut _ _ D.i2z.symm (s2.extBut _ _ D.i1z.symm e))) ⟨_, _, up _ _ (s4.extBut _ _ D.TOi2 (s2.extBut _ _ D.TOi1 p2))⟩ ?_ ?_ T8 (by rw [Heap.size_push, sz]) fun c o c1 c2 c3 c4 e => up c o (s4.extBut _ _ c4 (s2.extBut _ _ c3 (s0.extBut _ _ c1 e)))
    · exact j1'.at fun o e => up _ _ ((s4.2 _ D.i12).trans e)
    · exact j2'.at fun o e => up _ _ e
theorem zipW_end {z TI TO i1 i2 l1 l2 : Addr} {b1 b2 : Bool} {k : Nat} {xs ys : Array Value} {u v : Value} {Q : Fin → Shared → Prop} (hh : A.handled = none) (D : ZipApart z TI TO i1 i2 l1 l2)
    (hz : ZipAt s.heap z TI TO) (p1 : IsPair s.heap TI (.ref i1) (.ref i2)) (p2 : IsPair s.heap TO u v) (j1 : IterB s.heap b1 i1 l1 k) (j2 : IterB s.heap b2 i2 l2 k) (q1 : IsB s.heap b1 l1 xs) (q2 : IsB s.heap b2 l2 ys) (hend : xs[k]? = none ∨ ys[k]? = none)
    (K : ∀ h' e, (∀ c o, c ≠ z → c ≠ TO → c ≠ i1 → c ≠ i2 → s.heap.get? c = some o → h'.get? c = some o) → (∃ o, h'.get? e = some o ∧ o.cls = .type "StopIteration") → E (.ref e) { s with heap := h' }) :
    wpAny (model prog w) A (Builtin.«zip.__next__» ⟨[.ref z], []⟩) Q E s := by
  obtain ⟨f0, f1, hf, hz0⟩ := id hz
  refine wpAny_bind (m := field (.ref z) 2) (wpAny_field hz0 rfl (x := .bool false) rfl (wpAny_bind (m := field (.ref z) 3) (wpAny_field hz0 rfl (x := .ref TI) rfl (wpAny_bind (wpAny_seqItems p1 rfl (wpAny_bind (m := Builtin.SmallTypes.ownedTupleIsFree (.ref z)) ?_))))))
  refine zip_free hz fun fr g0 z0 s0 => ?_
  replace p1 : IsPair g0 TI (.ref i1) (.ref i2) := s0.extBut _ _ D.TIz p1
  replace p2 : IsPair g0 TO u v := s0.extBut _ _ D.TOz p2
  replace j1 : IterB g0 b1 i1 l1 k := j1.at fun o e => (s0.2 _ D.i1z).trans e
  replace j2 : IterB g0 b2 i2 l2 k := j2.at fun o e => (s0.2 _ D.i2z).trans e
  replace q1 : IsB g0 b1 l1 xs := q1.at fun o e => (s0.2 _ D.l1z).trans e
  replace q2 : IsB g0 b2 l2 ys := q2.at fun o e => (s0.2 _ D.l2z).trans e
  have ne : ∀ {g : Heap} {e : Addr} {oe : Obj}, ZipE g z TI TO → g.get? e = some oe → oe.cls = .type "StopIteration" → e ≠ z := fun ⟨_, _, z2⟩ hoe hce q => by
    subst q; rw [z2] at hoe; cases hoe; simp at hce
  cases fr with
  | true =>
    obtain ⟨f0', f1', hf', hz'⟩ := id z0
    simp only [if_true]
    refine wpAny_bind (wpAny_rule (wpAny_bind (wpAny_field hz' rfl (x := .ref TO) rfl (wpAny_bind (zip_set z0.e (.inl rfl) fun g1 z1 s1 => ?_)))))
    refine wpAny_bind ?_
    simp only [List.zipIdx_cons, List.forIn_cons, List.zipIdx_nil, List.forIn_nil]
    refine wpAny_bind (wpAny_bind (wpAny_onRaise (wpAny_bind (m := Builtin.SmallTypes.nextOf (.ref i1)) ?_)))
    cases hx : xs[k]? with
    | none =>
      refine nxtB_end hh (j1.at fun o e => (s1.2 _ D.i1z).trans e) (q1.at fun o e => (s1.2 _ D.l1z).trans e) hx fun g2 e s2 ⟨oe, hoe, hce⟩ => ?_
      have z2 : ZipE g2 z TI TO := z1.at fun o q => s2 _ _ D.i1z.symm q
      have hez := ne z2 hoe hce
      exact zip_set z2 (.inl rfl) fun g3 _ s3 => K g3 e (fun c o c1 _ c3 _ q => s3.extBut _ _ c1 (s2 _ _ c3 (s1.extBut _ _ c1 (s0.extBut _ _ c1 q)))) ⟨oe, s3.extBut _ _ hez hoe, hce⟩
    | some x =>
      have hy : ys[k]? = none := by
        rcases hend with h | h
        · rw [hx] at h; cases h
        · exact h
      refine nxtB_item (j1.at fun o e => (s1.2 _ D.i1z).trans e) (q1.at fun o e => (s1.2 _ D.l1z).trans e) hx fun g2 j1' s2 => wpAny_pure ?_
      have t2 : IsPair g2 TO u v := s2.extBut _ _ D.TOi1 (s1.extBut _ _ D.TOz p2)
      refine wpAny_bind (wpAny_seqItems t2 rfl (wpAny_bind (wpAny_updateSeq_pair t2 fun g3 t3 s3 => wpAny_bind (wpAny_letGo (wpAny_pure ?_)))))
      refine wpAny_bind (wpAny_bind (wpAny_onRaise (wpAny_bind (m := Builtin.SmallTypes.nextOf (.ref i2)) (nxtB_end hh (((j2.at fun o e => (s1.2 _ D.i2z).trans e).at fun o e => (s2.2 _ D.i12.symm).trans e).at fun o e => (s3.2 _ D.TOi2.symm).trans e)
        (((q2.at fun o e => (s1.2 _ D.l2z).trans e).at fun o e => (s2.2 _ D.l2i1).trans e).at fun o e => (s3.2 _ D.l2TO).trans e) hy fun g4 e s4 ⟨oe, hoe, hce⟩ => ?_))))
      have z4 : ZipE g4 z TI TO := ((z1.at fun o q => s2.extBut _ _ D.i1z.symm q).at fun o q => s3.extBut _ _ D.TOz.symm q).at fun o q => s4 _ _ D.i2z.symm q
      have hez := ne z4 hoe hce
      exact zip_set z4 (.inl rfl) fun g5 _ s5 => K g5 e (fun c o c1 c2 c3 c4 q => s5.extBut _ _ c1 (s4 _ _ c4 (s3.extBut _ _ c2 (s2.extBut _ _ c3 (s1.extBut _ _ c1 (s0.extBut _ _ c1 q)))))) ⟨oe, s5.extBut _ _ hez hoe, hce⟩
  | false =>
    simp only [Bool.false_eq_true, if_false]
    refine wpAny_bind ?_
    simp only [List.forIn_toArray, List.forIn_cons, List.forIn_nil]
    refine wpAny_bind (wpAny_bind (wpAny_holding (wpAny_bind (m := Builtin.SmallTypes.nextOf (.ref i1)) ?_)))
    cases hx : xs[k]? with
    | none => exact nxtB_end hh j1 q1 hx fun g2 e s2 he => K g2 e (fun c o c1 _ c3 _ q => s2 _ _ c3 (s0.extBut _ _ c1 q)) he
    | some x =>
      have hy : ys[k]? = none := by
        rcases hend with h | h
        · rw [hx] at h; cases h
        · exact h
      refine nxtB_item j1 q1 hx fun g2 j1' s2 => wpAny_pure (wpAny_pure ?_)
      refine wpAny_bind (wpAny_bind (wpAny_holding (wpAny_bind (m := Builtin.SmallTypes.nextOf (.ref i2)) (nxtB_end hh (j2.at fun o e => (s2.2 _ D.i12.symm).trans e) (q2.at fun o e => (s2.2 _ D.l2i1).trans e) hy fun g4 e s4 he => ?_))))
      exact K g4 e (fun c o c1 _ c3 c4 q => s4 _ _ c4 (s2.extBut _ _ c3 (s0.extBut _ _ c1 q))) he
/-- the next pair, to one who asks within a call -/
theorem nxtZ_item {z TI TO i1 i2 l1 l2 : Addr} {b1 b2 : Bool} {k : Nat} {xs ys : Array Value} {x y u v : Value} {Q : Value → Shared → Prop} (D : ZipApart z TI TO i1 i2 l1 l2)
    (hz : ZipAt s.heap z TI TO) (p1 : IsPair s.heap TI (.ref i1) (.ref i2)) (p2 : IsPair s.heap TO u v) (j1 : IterB s.heap b1 i1 l1 k) (j2 : IterB s.heap b2 i2 l2 k) (q1 : IsB s.heap b1 l1 xs) (q2 : IsB s.heap b2 l2 ys) (hx : xs[k]? = some x) (hy : ys[k]? = some y)
    (K : ∀ h', ZipAt h' z TI TO → (∃ u v, IsPair h' TO u v) → IterB h' b1 i1 l1 (k + 1) → IterB h' b2 i2 l2 (k + 1) → IsPair h' s.heap.objs.size x y → h'.objs.size = s.heap.objs.size + 1 →
      (∀ c o, c ≠ z → c ≠ TO → c ≠ i1 → c ≠ i2 → s.heap.get? c = some o → h'.get? c = some o) → Q (.ref s.heap.objs.size) { s with heap := h' }) :
    wpAny (model prog w) A (Builtin.SmallTypes.nextOf (.ref z)) Q E s := by
  have T : s.TypeIs (.ref z) "zip" := let ⟨_, _, _, e⟩ := hz; ⟨_, e, rfl⟩
  unfold Builtin.SmallTypes.nextOf
  exact wpAny_bind (wpAny_callSpecial?_slot (name := Str.ofString "__next__") T F.slot_zip_next (wpAny_call_entry F.slot_zip_next T F.entry_zip_next
    (zipW_item D hz p1 p2 j1 j2 q1 q2 hx hy fun h' a1 a2 a3 a4 a5 a6 a7 => wpAny_pure (K h' a1 a2 a3 a4 a5 a6 a7)) (F.args_zip_next_1 _)))
theorem nxtZ_end {z TI TO i1 i2 l1 l2 : Addr} {b1 b2 : Bool} {k : Nat} {xs ys : Array Value} {u v : Value} {Q : Value → Shared → Prop} (hh : A.handled = none) (D : ZipApart z TI TO i1 i2 l1 l2)
    (hz : ZipAt s.heap z TI TO) (p1 : IsPair s.heap TI (.ref i1) (.ref i2)) (p2 : IsPair s.heap TO u v) (j1 : IterB s.heap b1 i1 l1 k) (j2 : IterB s.heap b2 i2 l2 k) (q1 : IsB s.heap b1 l1 xs) (q2 : IsB s.heap b2 l2 ys) (hend : xs[k]? = none ∨ ys[k]? = none)
    (K : ∀ h' e, (∀ c o, c ≠ z → c ≠ TO → c ≠ i1 → c ≠ i2 → s.heap.get? c = some o → h'.get? c = some o) → (∃ o, h'.get? e = some o ∧ o.cls = .type "StopIteration") → E (.ref e) { s with heap := h' }) :
    wpAny (model prog w) A (Builtin.SmallTypes.nextOf (.ref z)) Q E s := by
  have T : s.TypeIs (.ref z) "zip" := let ⟨_, _, _, e⟩ := hz; ⟨_, e, rfl⟩
  unfold Builtin.SmallTypes.nextOf
  exact wpAny_bind (wpAny_callSpecial?_slot (name := Str.ofString "__next__") T F.slot_zip_next (wpAny_call_entry F.slot_zip_next T F.entry_zip_next
    (zipW_end hh D hz p1 p2 j1 j2 q1 q2 hend K) (F.args_zip_next_1 _)))
end
end L2

set_option Elab.async false
set_option linter.all false
set_option maxRecDepth 100000
set_option maxHeartbeats 4000000
namespace L2
open PySem PySem.Spec PyProof.Rows
section
variable {prog : Program} {w : World} {A : Around} {E : Value → Shared → Prop} {s : Shared}
theorem enumZ_next {e z TI TO i1 i2 l1 l2 : Addr} {b1 b2 : Bool} {k : Nat} {i : Int} {xs ys : Array Value} {x y u v old : Value} {Q : Value → Shared → Prop} (D : ZipApart z TI TO i1 i2 l1 l2) (De : e ∉ [z, TI, TO, i1, i2])
    (he : IsEnum s.heap e z i old) (hz : ZipAt s.heap z TI TO) (p1 : IsPair s.heap TI (.ref i1) (.ref i2)) (p2 : IsPair s.heap TO u v) (j1 : IterB s.heap b1 i1 l1 k) (j2 : IterB s.heap b2 i2 l2 k) (q1 : IsB s.heap b1 l1 xs) (q2 : IsB s.heap b2 l2 ys) (hx : xs[k]? = some x) (hy : ys[k]? = some y)
    (K : ∀ h' tk, IsEnumOut h' e z (i + 1) (.ref s.heap.objs.size) (s.heap.objs.size + 1) → ZipAt h' z TI TO → (∃ u v, IsPair h' TO u v) → IterB h' b1 i1 l1 (k + 1) → IterB h' b2 i2 l2 (k + 1) → IsPair h' s.heap.objs.size x y →
      IsPair h' (s.heap.objs.size + 1) (.int i tk) (.ref s.heap.objs.size) → (∀ c o, c ≠ e → c ≠ z → c ≠ TO → c ≠ i1 → c ≠ i2 → s.heap.get? c = some o → h'.get? c = some o) → Q (.ref (s.heap.objs.size + 1)) { s with heap := h', toks := tk + 1 }) :
    wpAny (model prog w) A (Builtin.«enumerate.__next__» ⟨[.ref e], []⟩) (fun fin s' => ∃ v, fin = .done (.ret v) ∧ Q v s') E s := by
  simp only [List.mem_cons, List.not_mem_nil, or_false, not_or] at De
  obtain ⟨n1, n2, n3, n4, n5⟩ := De
  obtain ⟨hp, g, d, tk, os⟩ := s
  refine wpAny_bind (m := field (.ref e) 2) (wpAny_field he rfl (x := .ref z) rfl ?_)
  refine wpAny_bind (nxtZ_item D hz p1 p2 j1 j2 q1 q2 hx hy fun h1 z1 t1 a1 a2 P1 sz1 k1 => ?_)
  dsimp only at P1 sz1 k1 K
  have e1 : IsEnum h1 e z i old := k1 e _ n1 n3 n4 n5 he
  have el : e < hp.objs.size := Heap.lt_size he
  refine wpAny_bind (m := field (.ref e) 3) (wpAny_field e1 rfl (x := rawInt i) rfl ?_)
  refine wpAny_bind (m := field (.ref e) 4) (wpAny_field e1 rfl (x := .none) rfl ?_)
  refine wpAny_bind (m := mkInt i) (wpAny_mkInt ?_)
  refine wpAny_bind (m := setField (.ref e) 3 (rawInt (i + 1))) (wpAny_setField_rec e1 (by simp) fun h2 e2 s2 => ?_)
  replace e2 : IsEnum h2 e z (i + 1) old := e2
  refine wpAny_bind (m := setField (.ref e) 4 .none) (wpAny_setField_rec e2 (by simp) fun h3 e3 s3 => ?_)
  replace e3 : IsEnum h3 e z (i + 1) old := e3
  refine wpAny_bind (m := newTuple [.int i tk, .ref hp.objs.size]) (wpAny_newTuple ?_)
  have sz3 : h3.objs.size = hp.objs.size + 1 := by rw [s3.1, s2.1]; exact sz1
  have e4 : IsEnum (h3.push { cls := .type "tuple", data := .seq #[.int i tk, .ref hp.objs.size] }) e z (i + 1) old := Heap.get?_push_of_some _ e3
  have T4 : IsPair (h3.push { cls := .type "tuple", data := .seq #[.int i tk, .ref hp.objs.size] }) h3.objs.size (.int i tk) (.ref hp.objs.size) := Heap.get?_push_size _ rfl
  have k4 : ∀ c o, c ≠ e → h1.get? c = some o → (h3.push { cls := .type "tuple", data := .seq #[.int i tk, .ref hp.objs.size] }).get? c = some o := fun c o ce q => Heap.get?_push_of_some _ (s3.extBut _ _ ce (s2.extBut _ _ ce q))
  rw [sz3] at T4
  show wpAny _ _ (Builtin.SmallTypes.ownedTupleIsFree (.ref e) >>= _) _ _ _
  generalize h3.push { cls := .type "tuple", data := .seq #[.int i tk, .ref hp.objs.size] } = h4 at e4 T4 k4
  refine wpAny_bind ?_
  unfold Builtin.SmallTypes.ownedTupleIsFree
  refine wpAny_bind (wpAny_field e4 rfl (x := .none) rfl (wpAny_pure ?_))
  simp only [if_true]
  refine wpAny_bind (wpAny_rule (wpAny_bind (wpAny_field e4 rfl (x := old) rfl (wpAny_bind (wpAny_setField_rec e4 (by simp) fun h5 e5 s5 => ?_)))))
  replace e5 : IsEnum h5 e z (i + 1) (.ref hp.objs.size) := e5
  rw [sz3]
  show wpAny _ _ (Builtin.SmallTypes.ownedTupleHandOut (.ref e) (.ref (hp.objs.size + 1)) >>= _) _ _ _
  refine wpAny_bind ?_
  unfold Builtin.SmallTypes.ownedTupleHandOut
  refine wpAny_bind (wpAny_setField_rec e5 (by simp) fun h6 e6 s6 => ?_)
  replace e6 : IsEnumOut h6 e z (i + 1) (.ref hp.objs.size) (hp.objs.size + 1) := e6
  refine wpAny_setField_rec e6 (by simp) fun h7 e7 s7 => ?_
  replace e7 : IsEnumOut h7 e z (i + 1) (.ref hp.objs.size) (hp.objs.size + 1) := e7
  have k7 : ∀ c o, c ≠ e → h4.get? c = some o → h7.get? c = some o := fun c o ce q => s7.extBut _ _ ce (s6.extBut _ _ ce (s5.extBut _ _ ce q))
  have k17 : ∀ c o, c ≠ e → h1.get? c = some o → h7.get? c = some o := fun c o ce q => k7 c o ce (k4 c o ce q)
  obtain ⟨u', v', t1⟩ := t1
  exact wpAny_bind (wpAny_letGo (wpAny_pure ⟨_, rfl, K h7 tk e7 (z1.at fun o q => k17 _ _ (Ne.symm n1) q) ⟨u', v', k17 _ _ (Ne.symm n3) t1⟩ (a1.at fun o q => k17 _ _ (Ne.symm n4) q) (a2.at fun o q => k17 _ _ (Ne.symm n5) q) (k17 _ _ (Nat.ne_of_gt el) P1)
    (k7 _ _ (Nat.ne_of_gt (Nat.lt_succ_of_lt el)) T4) fun c o ce cz cT c1 c2 q => k17 _ _ ce (k1 c o cz cT c1 c2 q)⟩))
theorem pyNext_enumZ {e z TI TO i1 i2 l1 l2 : Addr} {b1 b2 : Bool} {k : Nat} {i : Int} {xs ys : Array Value} {x y u v old : Value} {Q : Option Value → Shared → Prop} (D : ZipApart z TI TO i1 i2 l1 l2) (De : e ∉ [z, TI, TO, i1, i2])
    (he : IsEnum s.heap e z i old) (hz : ZipAt s.heap z TI TO) (p1 : IsPair s.heap TI (.ref i1) (.ref i2)) (p2 : IsPair s.heap TO u v) (j1 : IterB s.heap b1 i1 l1 k) (j2 : IterB s.heap b2 i2 l2 k) (q1 : IsB s.heap b1 l1 xs) (q2 : IsB s.heap b2 l2 ys) (hx : xs[k]? = some x) (hy : ys[k]? = some y)
    (K : ∀ h' tk, IsEnumOut h' e z (i + 1) (.ref s.heap.objs.size) (s.heap.objs.size + 1) → ZipAt h' z TI TO → (∃ u v, IsPair h' TO u v) → IterB h' b1 i1 l1 (k + 1) → IterB h' b2 i2 l2 (k + 1) → IsPair h' s.heap.objs.size x y →
      IsPair h' (s.heap.objs.size + 1) (.int i tk) (.ref s.heap.objs.size) → (∀ c o, c ≠ e → c ≠ z → c ≠ TO → c ≠ i1 → c ≠ i2 → s.heap.get? c = some o → h'.get? c = some o) → Q (some (.ref (s.heap.objs.size + 1))) { s with heap := h', toks := tk + 1 }) :
    wpAny (model prog w) A (pyNext (.ref e)) Q E s := by
  have T : s.TypeIs (.ref e) "enumerate" := ⟨_, he, rfl⟩
  unfold pyNext
  exact wpAny_bind (wpAny_attempt (wpAny_callSpecial?_slot (name := Str.ofString "__next__") T F.slot_enumerate_next (wpAny_call_entry F.slot_enumerate_next T F.entry_enumerate_next
    (enumZ_next D De he hz p1 p2 j1 j2 q1 q2 hx hy fun h' tk a1 a2 a3 a4 a5 a6 a7 a8 => wpAny_pure (K h' tk a1 a2 a3 a4 a5 a6 a7 a8)) (F.args_enumerate_next_1 _))))
theorem pyEnd_enumZ {e z TI TO i1 i2 l1 l2 : Addr} {b1 b2 : Bool} {k : Nat} {i : Int} {xs ys : Array Value} {u v old : Value} {Q : Option Value → Shared → Prop} (hh : A.in1.handled = none) (D : ZipApart z TI TO i1 i2 l1 l2)
    (he : IsEnum s.heap e z i old) (hz : ZipAt s.heap z TI TO) (p1 : IsPair s.heap TI (.ref i1) (.ref i2)) (p2 : IsPair s.heap TO u v) (j1 : IterB s.heap b1 i1 l1 k) (j2 : IterB s.heap b2 i2 l2 k) (q1 : IsB s.heap b1 l1 xs) (q2 : IsB s.heap b2 l2 ys) (hend : xs[k]? = none ∨ ys[k]? = none)
    (K : ∀ h', (∀ c o, c ≠ z → c ≠ TO → c ≠ i1 → c ≠ i2 → s.heap.get? c = some o → h'.get? c = some o) → Q none { s with heap := h' }) : wpAny (model prog w) A (pyNext (.ref e)) Q E s := by
  have T : s.TypeIs (.ref e) "enumerate" := ⟨_, he, rfl⟩
  unfold pyNext
  refine wpAny_bind (wpAny_attempt (wpAny_callSpecial?_slot (name := Str.ofString "__next__") T F.slot_enumerate_next (wpAny_call_entry F.slot_enumerate_next T F.entry_enumerate_next ?_ (F.args_enumerate_next_1 _))))
  refine wpAny_bind (m := field (.ref e) 2) (wpAny_field he rfl (x := .ref z) rfl (wpAny_bind (nxtZ_end hh D hz p1 p2 j1 j2 q1 q2 hend fun h' x hk ⟨o, ho, hc⟩ => ?_)))
  exact wpAny_bind (wpAny_isInstance (T := "StopIteration") (b := true) ⟨o, ho, hc⟩ isSubtype_stop (wpAny_pure (K _ hk)))
end
end L2

set_option Elab.async false
set_option linter.all false
set_option maxRecDepth 100000
set_option maxHeartbeats 4000000
namespace L2
open PySem PySem.Spec PyProof.Rows
/-- the pairs of two lists or tuples, counted -/
def ItEZ (K : PySem.W.Frag) (st : Int) (b1 b2 : Bool) (a b : Addr) : It :=
  ⟨fun i H => ∃ xs ys x y, SqB K H b1 a xs ∧ SqB K H b2 b ys ∧ xs[i]? = some x ∧ ys[i]? = some y,
   fun i H v H' => ∃ p q x y, v = .ref q ∧ H p = none ∧ H q = none ∧ p ≠ q ∧ H' = upd (upd H p (.tup [x, y])) q (.tup [.int (st + i), .ref p]) ∧ ∀ xs ys, SqB K H b1 a xs → SqB K H b2 b ys → xs[i]? = some x ∧ ys[i]? = some y,
   fun i H => ∃ xs ys, SqB K H b1 a xs ∧ SqB K H b2 b ys ∧ (xs.length ≤ i ∨ ys.length ≤ i)⟩
theorem FpOk.new {X : Cx} {pins : List (Addr × Obj)} {H : Hp} {b p : Addr} {o : HO} (h : FpOk X pins H b) (n : b ≠ p) : FpOk X pins (upd H p o) b := by
  obtain ⟨h1, h2⟩ := h
  exact ⟨by rw [upd_ne n]; exact h1, h2⟩
theorem push_back {h : Heap} {c : Addr} {o o' : Obj} (hlt : c < h.objs.size) (q : (h.push o').get? c = some o) : h.get? c = some o := by
  obtain ⟨e1, e2⟩ := Heap.get?_some_iff.mp q
  refine Heap.get?_some_iff.mpr ⟨?_, e2⟩
  have := Nat.ne_of_lt hlt
  cases h
  simpa [Heap.push, Array.getElem?_push, this] using e1
theorem turn_enumZ {P : Program} {w : World} {K : PySem.W.Frag} {elts : List Expr} {c : Nat} {pos : Pos} {st : Int} {b1 b2 : Bool} {e z TI TO i1 i2 a b : Addr} (D : ZipApart z TI TO i1 i2 a b) (De : e ∉ [z, TI, TO, i1, i2]) :
    Turn P w K (.Tuple elts c pos) (ItEZ K st b1 b2 a b) [e, z, TI, TO, i1, i2] e (fun i h => (∃ old, IsEnum h e z (st + i) old) ∧ ZipAt h z TI TO ∧ IsPair h TI (.ref i1) (.ref i2) ∧ (∃ u v, IsPair h TO u v) ∧ IterB h b1 i1 a i ∧ IterB h b2 i2 b i) where
  mem := by simp
  obj := fun i h t x hx => by
    obtain ⟨⟨old, he⟩, ⟨_, _, _, hz⟩, hTI, ⟨u, v, hTO⟩, h1, h2⟩ := t
    simp only [List.mem_cons, List.not_mem_nil, or_false] at hx
    rcases hx with rfl | rfl | rfl | rfl | rfl | rfl
    · exact ⟨_, he, fun _ q => by cases q⟩
    · exact ⟨_, hz, fun _ q => by cases q⟩
    · exact ⟨_, hTI, fun _ q => by cases q⟩
    · exact ⟨_, hTO, fun _ q => by cases q⟩
    · exact h1.ob
    · exact h2.ob
  keep := fun i h h' t k => by
    obtain ⟨⟨old, he⟩, hz, hTI, ⟨u, v, hTO⟩, h1, h2⟩ := t
    exact ⟨⟨old, k e (by simp) _ he⟩, hz.at fun o q => k z (by simp) o q, k TI (by simp) _ hTI, ⟨u, v, k TO (by simp) _ hTO⟩, h1.at fun o q => k i1 (by simp) o q, h2.at fun o q => k i2 (by simp) o q⟩
  item := by
    intro X hP hw hK hc i pins s σ H E I hf t hg
    subst hP hw hK
    obtain ⟨xs, ys, x, y, hq1, hq2, hx, hy⟩ := hg
    obtain ⟨its1, rv1, p1, _⟩ := I.seqB hq1
    obtain ⟨its2, rv2, p2, _⟩ := I.seqB hq2
    obtain ⟨u, hu, ru⟩ := rv1.get hx
    obtain ⟨v, hv, rv⟩ := rv2.get hy
    have lt : ∀ d ∈ [e, z, TI, TO, i1, i2], d < s.heap.objs.size := fun d hd => by
      obtain ⟨o, q, _⟩ : ∃ o, s.heap.get? d = some o ∧ True := by
        obtain ⟨⟨old, he⟩, ⟨_, _, _, hz⟩, hTI, ⟨u, v, hTO⟩, h1, h2⟩ := t
        simp only [List.mem_cons, List.not_mem_nil, or_false] at hd
        rcases hd with rfl | rfl | rfl | rfl | rfl | rfl
        · exact ⟨_, he, trivial⟩
        · exact ⟨_, hz, trivial⟩
        · exact ⟨_, hTI, trivial⟩
        · exact ⟨_, hTO, trivial⟩
        · obtain ⟨o, q, _⟩ := h1.ob; exact ⟨o, q, trivial⟩
        · obtain ⟨o, q, _⟩ := h2.ob; exact ⟨o, q, trivial⟩
      exact Heap.lt_size q
    obtain ⟨⟨old, he⟩, hz, hTI, ⟨u0, v0, hTO⟩, h1, h2⟩ := t
    have De' := De
    simp only [List.mem_cons, List.not_mem_nil, or_false, not_or] at De'
    obtain ⟨n1, n2, n3, n4, n5⟩ := De'
    refine pyNext_enumZ D De he hz hTI hTO h1 h2 p1 p2 (x := u) (y := v) (by simpa using hu) (by simpa using hv) fun h' tk a1 a2 a3 a4 a5 a6 a7 hk => ⟨_, rfl, ?_⟩
    refine wpAny_letOwnedTupleGo_enum (s := { s with heap := h', toks := tk + 1 }) a1 fun h'' c1 sb => ?_
    have hn : H s.heap.objs.size = none := I.hok.fresh (Nat.le_refl _)
    have hn1 : H (s.heap.objs.size + 1) = none := I.hok.fresh (Nat.le_succ _)
    have el : e < s.heap.objs.size := lt e (by simp)
    have P1 : IsPair h'' s.heap.objs.size u v := sb.extBut _ _ (Nat.ne_of_gt el) a6
    have T1 : IsPair h'' (s.heap.objs.size + 1) (.int (st + i) tk) (.ref s.heap.objs.size) := sb.extBut _ _ (Nat.ne_of_gt (Nat.lt_succ_of_lt el)) a7
    have I1 := I.turnedNew (fp := []) (t' := s.toks) (T := s.heap.objs.size) (u := .tup [x, y]) (h' := s.heap.push { cls := .type "tuple", data := .seq #[u, v] }) (fun b hb => absurd hb (by simp)) (fun b o _ q => Heap.get?_push_of_some _ q) (Nat.le_refl _)
      ⟨by show 2 ≤ _; decide, [u, v], .cons ru (.cons rv .nil), _, Heap.get?_push_size _ rfl, rfl, _, rfl, rfl⟩
    have kk : ∀ c o, c ∉ [e, z, TI, TO, i1, i2] → (s.heap.push { cls := .type "tuple", data := .seq #[u, v] }).get? c = some o → h''.get? c = some o := fun c o hc' q => by
      simp only [List.mem_cons, List.not_mem_nil, or_false, not_or] at hc'
      obtain ⟨m1, m2, m3, m4, m5, m6⟩ := hc'
      by_cases cz : c = s.heap.objs.size
      · subst cz
        have e2 : (s.heap.push { cls := .type "tuple", data := .seq #[u, v] }).get? s.heap.objs.size = some _ := Heap.get?_push_size _ rfl
        rw [e2] at q
        cases q
        exact P1
      · have hlt : c < s.heap.objs.size := by
          have h3 := Heap.lt_size q
          rw [Heap.size_push] at h3
          exact Nat.lt_of_le_of_ne (Nat.le_of_lt_succ h3) cz
        have q2 : s.heap.get? c = some o := push_back hlt q
        exact sb.extBut _ _ m1 (hk c o m1 m2 m4 m5 m6 q2)
    have hf1 : ∀ b ∈ [e, z, TI, TO, i1, i2], FpOk X pins (upd H s.heap.objs.size (.tup [x, y])) b := fun b hb => (hf b hb).new (Nat.ne_of_lt (lt b hb))
    refine ⟨.ref (s.heap.objs.size + 1), upd (upd H s.heap.objs.size (.tup [x, y])) (s.heap.objs.size + 1) (.tup [.int (st + i), .ref s.heap.objs.size]), I1.turnedNew (t' := tk + 1) hf1 kk (by show (s.heap.push _).objs.size ≤ _; rw [Heap.size_push]; exact Nat.le_refl _) ⟨by show 2 ≤ _; decide, [.int (st + i) tk, .ref s.heap.objs.size], .cons ⟨_, rfl⟩ (.cons rfl .nil), _, T1, rfl, _, rfl, rfl⟩, rfl,
      ⟨s.heap.objs.size, s.heap.objs.size + 1, x, y, rfl, hn, hn1, Nat.ne_of_lt (Nat.lt_succ_self _), rfl, fun xs' ys' q1 q2 => ?_⟩, ⟨⟨.ref s.heap.objs.size, ?_⟩, ?_, ?_, ?_, ?_, ?_⟩, fun b hb => ?_⟩
    · rw [I.seqB_inj q1 hq1, I.seqB_inj q2 hq2]; exact ⟨hx, hy⟩
    · have : st + ((i + 1 : Nat) : Int) = st + i + 1 := by omega
      rw [this]; exact c1
    · exact a2.at fun o q => sb.extBut _ _ (Ne.symm n1) q
    · exact sb.extBut _ _ (Ne.symm n2) (hk _ _ (Ne.symm n2) D.TIz D.TITO D.TIi1 D.TIi2 hTI)
    · obtain ⟨u', v', a3⟩ := a3; exact ⟨u', v', sb.extBut _ _ (Ne.symm n3) a3⟩
    · exact a4.at fun o q => sb.extBut _ _ (Ne.symm n4) q
    · exact a5.at fun o q => sb.extBut _ _ (Ne.symm n5) q
    · rw [upd_ne (Nat.ne_of_lt (Nat.lt_succ_of_lt (lt b hb))), upd_ne (Nat.ne_of_lt (lt b hb))]
      exact (hf b hb).1
  done := by
    intro X hP hw hK hc i pins s σ H E I hf t hg
    subst hP hw hK
    obtain ⟨xs, ys, hq1, hq2, hx⟩ := hg
    obtain ⟨its1, rv1, p1, _⟩ := I.seqB hq1
    obtain ⟨its2, rv2, p2, _⟩ := I.seqB hq2
    have l1 := rv1.length
    have l2 := rv2.length
    obtain ⟨⟨old, he⟩, hz, hTI, ⟨u0, v0, hTO⟩, h1, h2⟩ := t
    refine pyEnd_enumZ (I.ok.hd hc) D he hz hTI hTO h1 h2 p1 p2 (by simp; omega) fun h' hk => ⟨rfl, I.turnedL (t' := s.toks) hf fun c o hc' q => ?_⟩
    simp only [List.mem_cons, List.not_mem_nil, or_false, not_or] at hc'
    obtain ⟨m1, m2, m3, m4, m5, m6⟩ := hc'
    exact hk c o m2 m4 m5 m6 q
  self := fun _ _ _ _ _ t h => by
    obtain ⟨⟨old, he⟩, _⟩ := t
    exact wpAny_pyIter_enum he h
end L2

set_option Elab.async false
set_option linter.all false
set_option maxRecDepth 100000
set_option maxHeartbeats 4000000
namespace L2
open PySem PySem.Spec PyProof.Rows
section
variable {prog : Program} {w : World} {A : Around} {E : Value → Shared → Prop} {s : Shared}
theorem enumK_new (z TI TO : Addr) (t : Tok) :
    Meets (Builtin.«enumerate.__new__» ⟨[.type "enumerate", .ref z], [(Str.ofString "start", .int 1 t)]⟩) (fun _ R s => IsZip s.heap z TI TO .none ∧
      R (.ok (.ret (.ref s.heap.objs.size))) { s with heap := s.heap.push { cls := .type "enumerate", data := .fields #[.none, .bool false, .ref z, rawInt 1, .none, .none] } }) :=
  .of_wp fun prog w A R s h => by
    obtain ⟨hp, g, d, tk, os⟩ := s
    obtain ⟨q1, h⟩ := h
    have hsub := sub_enumerate
    have a1 : IsZip (Shared.heap ⟨hp, g, d, tk, os⟩) z TI TO .none := q1
    wp_walk using AutoSeq1.wpAny_loadPart' q1
    refine wpAny_stack_any fun st => wpAny_pure ?_
    split
    · rename_i c _ _ _ _ _
      cases (c == Value.type "enumerate")
      · wp_walk using AutoSeq1.wpAny_loadPart' q1, wpAny_pyIter_zip a1
        exact ⟨_, rfl, h⟩
      · wp_walk using AutoSeq1.wpAny_loadPart' q1, wpAny_pyIter_zip a1
        exact ⟨_, rfl, h⟩
    · wp_walk using AutoSeq1.wpAny_loadPart' q1, wpAny_pyIter_zip a1
      exact ⟨_, rfl, h⟩
end
end L2

set_option Elab.async false
set_option linter.all false
set_option maxRecDepth 100000
set_option maxHeartbeats 4000000
namespace L2
open PySem PySem.Spec PyProof.Rows
section
variable {prog : Program} {w : World} {A : Around} {E : Value → Shared → Prop} {s : Shared}
/-- object.__init__ asked with keywords, too: it has nothing to do where the type has a __new__ of its own -/
theorem init_kw {T newId : String} {me : Value} {more : List Value} {kw : List (Str × Value)} (look : typeLookup (.type T) "__init__" = pure (some (.builtin "object.__init__")))
    (mk : Bind.madeBy (.type T) = pure (some newId)) (own : (some newId != some "object.__new__") = true) :
    Meets (Builtin.«object.__init__» ⟨me :: more, kw⟩) (fun _ R s => s.TypeIs me T ∧ R (.ok (.ret .none)) s) :=
  .of_wp fun prog w A R s ⟨ty, fin⟩ => by
    cases more <;> cases kw <;> (try repeat (any_goals (first | assumption | wp_step))) <;> exact ⟨_, rfl, fin⟩
/-- a type called with keywords: its __new__, then object.__init__ -/
theorem callType_kw {T newId : String} {Bn : Builtin} {xs : List Value} {kw : List (Str × Value)} {S : PySem.Spec} {Q : Value → Shared → Prop} (tc : TypeCalled T newId "object.__init__") (own : (some newId != some "object.__new__") = true)
    (okT : checkTypeCall T ⟨xs, kw⟩ = pure ()) (okN : checkBuiltinCall newId ⟨.type T :: xs, kw⟩ = pure ()) (okI : ∀ o, argsOk "object.__init__" ⟨o :: xs, kw⟩)
    (en : entryFor table newId = some Bn) (mt : Meets (Bn ⟨.type T :: xs, kw⟩) S) (h : S A.in1 (wants (fun o sa => sa.TypeIs o T ∧ Q o sa) E) s) :
    wpAny (model prog w) A (call (.type T) xs kw) Q E s := by
  have look := tc.init.lookup
  have k1 := tc.made; have k2 := tc.sub; have k3 := tc.notType; have k4 := tc.canCreate
  obtain ⟨c, rest, k5⟩ := tc.mro
  apply wpAny_call
  apply codeAny_of_tree
  change wpAny _ _ (callAny (.type T) _) _ _ _
  apply wpAny_pure
  refine And.intro (Code.quiet_builtin _ (by decide +kernel)) (codeAny_builtin F.entry_type_call ?_)
  rw [Around.under_plain (weight_type_call_type T xs kw) (units_type_call_type T xs kw)]
  repeat (any_goals (first | assumption | wp_step))
  have made := codeAny_call_builtin (prog := prog) (w := w) (A := A.in1) tc.plain en (wpAny_of_eq okN (mt prog w A.in1 _ s h))
  apply codeAny_mono made
  rintro (e | fl) sa ho
  · exact ho
  cases fl <;> first
    | exact False.elim ho
    | skip
  rename_i o
  obtain ⟨ty, q⟩ := ho
  have bind := tc.init.bind o
  repeat (any_goals (first | assumption | wp_step))
  have inited := codeAny_call_builtin (prog := prog) (w := w) (A := A.in1) tc.init.plain F.entry_object_init
    (tc.init.check _ _ _ _ _ _ _ _ ty (okI o) (init_kw look tc.made own prog w A.in1 (wants (fun v sb => v = .none ∧ Q o sb) E) sa ⟨ty, rfl, q⟩))
  apply codeAny_mono inited
  rintro (e | fl) sb hv
  · exact hv
  cases fl <;> first
    | exact False.elim hv
    | skip
  obtain ⟨rfl, qq⟩ := hv
  repeat (any_goals (first | assumption | wp_step))
theorem call_enumZ {z TI TO : Addr} {t : Tok} {Q : Value → Shared → Prop} (q1 : IsZip s.heap z TI TO .none)
    (h : ∀ h', IsEnum h' s.heap.objs.size z 1 .none → (∀ c o, s.heap.get? c = some o → h'.get? c = some o) → Q (.ref s.heap.objs.size) { s with heap := h' }) :
    wpAny (model prog w) A (call (.type "enumerate") [.ref z] [(Str.ofString "start", .int 1 t)]) Q E s := by
  refine callType_kw F.called_enumerate (by decide) (by kernel_rfl) (by kernel_rfl) (fun obj => ?_) F.entry_enumerate_new (enumK_new z TI TO t) ⟨q1, ?_⟩
  · unfold argsOk; rw [signature?_of (id := "object.__init__") (n := ['_', '_', 't', 'i', 'n', 'i', '_', '_']) (o := ['t', 'c', 'e', 'j', 'b', 'o']) (by kernel_rfl) F.owner_object]; kernel_rfl
  · have g2 : (s.heap.push { cls := .type "enumerate", data := .fields #[.none, .bool false, .ref z, rawInt 1, .none, .none] }).get? s.heap.objs.size = some _ := Heap.get?_push_size _ rfl
    exact ⟨⟨_, g2, rfl⟩, h _ g2 fun c o q => Heap.get?_push_of_some _ q⟩
end
end L2

set_option Elab.async false
set_option linter.all false
set_option maxRecDepth 100000
set_option maxHeartbeats 4000000
namespace L2
open PySem PySem.Spec PyProof.Rows
/-- a type called by name with one plain thing ahead and keywords behind -/
theorem callWith_typeK {M : Model} {A : Around} {E : Value → Shared → Prop} {s : Shared} {en : Env} {at' : Pos} {id : String} {x : Expr} {xs : List Expr} {ks : List Keyword} {Q : Value → Shared → Prop}
    (go : wpAny M A (spliced (backTo at' (starEach (x :: xs) en))) (fun us sa => wpAny M A (evalAll ((backToKw at' (keywordEach ks en)).map (·.2))) (fun kv sb => wpAny M A (call (.type id) us (((backToKw at' (keywordEach ks en)).filterMap (·.1)).zip kv)) Q E sb) E sa) E s)
    (first : backTo at' (starEach (x :: xs) en) = (false, eval x en) :: backTo at' (starEach xs en) := by rfl) (unstarred : (backTo at' (starEach (x :: xs) en)).any (·.1) = false := by rfl)
    (named : (backToKw at' (keywordEach ks en)).all (·.1.isSome) = true := by rfl) (noDouble : (backToKw at' (keywordEach ks en)).any (·.1.isNone) = false := by rfl) :
    wpAny M A (callWith at' (.type id) [] (backTo at' (starEach (x :: xs) en)) (backToKw at' (keywordEach ks en))) Q E s := by
  have args : wpAny M A (evalArgs (.type id) true (backTo at' (starEach (x :: xs) en)) (backToKw at' (keywordEach ks en))) (fun a sa => wpAny M A (call (.type id) ([] ++ a.pos) a.kw) Q E sa) E s := by
    rw [first] at go ⊢
    exact evalArgs_kwB named go
  unfold callWith
  apply wpAny_bind
  apply wpAny_holding
  refine wpAny_mono args (fun a sa ha => ?_) fun _ _ z => z
  apply wpAny_bind
  apply wpAny_standAt
  simp only [unstarred, noDouble, Bool.or_false]
  apply wpAny_bind
  apply wpAny_pure
  apply wpAny_bind
  exact wpAny_mono ha (fun v sb hv => wpAny_bind (wpAny_holding (wpAny_point (wpAny_pure hv)))) fun _ _ z => z
def iEnumZ (K : PySem.W.Frag) (st : Int) (b1 b2 : Bool) (ta : TA) : TI := fun σ H R => ta σ H fun vs H1 => ∃ a b, vs = [.ref a, .ref b] ∧ (∃ xs, SqB K H1 b1 a xs) ∧ (∃ ys, SqB K H1 b2 b ys) ∧ R (ItEZ K st b1 b2 a b) H1
/-- for k, (x, y) in enumerate(zip(xs, ys), start=1) -/
theorem pi_enumZ1 (b1 b2 : Bool) {X : Cx} {elts : List Expr} {c : Nat} {tpos : Pos} {a b : Expr} {ta : TA} {p p2 p3 kp pos zpos : Pos} {kk : _} (hg : Gl X "enumerate") (hm : X.mg "enumerate" = none) (hg2 : Gl X "zip") (hm2 : X.mg "zip" = none) (ha : PA X [a, b] ta)
    (hs : starEach [a, b] X.env = [(false, eval a X.env), (false, eval b X.env)] := by rfl) (hs2 : starEach [b] X.env = [(false, eval b X.env)] := by rfl)
    (he : backTo pos (starEach [.Call (.Name "zip" p2) [a, b] [] zpos] X.env) = (false, eval (.Call (.Name "zip" p2) [a, b] [] zpos) X.env) :: backTo pos (starEach [] X.env) := by rfl) (hpl : (backTo pos (starEach [.Call (.Name "zip" p2) [a, b] [] zpos] X.env)).any (·.1) = false := by rfl) :
    PI X (.Tuple elts c tpos) (.Call (.Name "enumerate" p) [.Call (.Name "zip" p2) [a, b] [] zpos] [⟨some "start", .Constant (.int 1) kk p3, kp⟩] pos) (iEnumZ X.K 1 b1 b2 ta) := by
  intro pins s σ H R I h
  refine wpAny_Call_Name_kw (ld_blt I hg hm boot_enumerate ?_ (by decide) (by decide))
  refine callWith_typeK (spliced_more ?_ he) he hpl
  refine Call_ (ld_blt I hg2 hm2 boot_zip (PyProof.Rows.callWith_type1 (thn (ha zpos pins s σ H _ I h) fun us s1 ⟨vs, H1, I1, r1, q1⟩ => ?_) (by rw [hs, hs2]) (by rw [hs2]; rfl)))
  obtain ⟨a, b, e, ⟨xs, hq1⟩, ⟨ys, hq2⟩, q⟩ := q1
  subst e
  cases r1 with
  | cons r rr =>
    cases rr with
    | cons r' rr =>
      cases rr
      cases r
      cases r'
      obtain ⟨its1, rv1, p1, _⟩ := I1.seqB hq1
      obtain ⟨its2, rv2, p2, _⟩ := I1.seqB hq2
      have la := p1.lt
      have lb := p2.lt
      refine call_zipB p1 p2 fun h' a1 a2 a3 a4 a5 hk => spliced_none ?_
      have D : ZipApart (s1.heap.objs.size + 4) (s1.heap.objs.size + 2) (s1.heap.objs.size + 3) s1.heap.objs.size (s1.heap.objs.size + 1) a b := zip_apart la lb
      show wpAny _ X.A (evalAll [(do let v ← eval (.Constant (.int 1) kk p3) X.env; standAt pos; pure v)]) _ _ _
      refine wpAny_evalAll_cons (wpAny_bind (wpAny_Constant_int (wpAny_bind (wpAny_standAt (wpAny_pure (wpAny_evalAll_nil ?_))))))
      show wpAny _ X.A (call (.type "enumerate") [.ref (s1.heap.objs.size + 4)] [(Str.ofString "start", .int 1 _)]) _ _ _
      refine call_enumZ a1 fun h2 e2 k2 => wpAny_pyIter_enum e2 ?_
      have l4 : s1.heap.objs.size + 4 < h'.objs.size := Heap.lt_size a1
      have De : h'.objs.size ∉ [s1.heap.objs.size + 4, s1.heap.objs.size + 2, s1.heap.objs.size + 3, s1.heap.objs.size, s1.heap.objs.size + 1] := by
        simp only [List.mem_cons, List.not_mem_nil, or_false, not_or]
        refine ⟨?_, ?_, ?_, ?_, ?_⟩ <;> (show ¬ ((_ : Nat) = (_ : Nat))) <;> omega
      refine ⟨_, _, _, _, H1, rfl, I1.kept (t' := s1.toks + 1) fun c o q => k2 c o (hk c o q), turn_enumZ (st := 1) (e := h'.objs.size) D De, ⟨⟨_, e2⟩, ⟨_, _, .inl rfl, k2 _ _ a1⟩, k2 _ _ a2, ⟨_, _, k2 _ _ a3⟩, a4.at fun o q => k2 _ _ q, a5.at fun o q => k2 _ _ q⟩, fun x hx => ?_, q⟩
      have hx' : s1.heap.objs.size ≤ x := by
        simp only [List.mem_cons, List.not_mem_nil, or_false] at hx
        rcases hx with rfl | rfl | rfl | rfl | rfl | rfl <;> (show (_ : Nat) ≤ (_ : Nat)) <;> omega
      exact I1.fpOk hx' (I1.hok.fresh hx')
end L2

set_option Elab.async false
set_option linter.all false
set_option maxRecDepth 100000
set_option maxHeartbeats 4000000
namespace L2
open PySem PySem.Spec PyProof.Rows
/-- for k, (x, y) in enumerate(zip(xs, ys), start=1), as long as one another -/
theorem for_enumZ {K : PySem.W.Frag} {st : Int} {b1 b2 : Bool} {a b : Addr} {xs ys : List V} {g : TG} {tb : TS} {D : Ends} {σ : St} {H : Hp} (Pv : Nat → St → Hp → Prop) (hxy : xs.length = ys.length) (h0 : Pv 0 σ H) (hl : ∀ i σ H, i ≤ xs.length → Pv i σ H → SqB K H b1 a xs ∧ SqB K H b2 b ys)
    (hs : ∀ i x y p q σ H, xs[i]? = some x → ys[i]? = some y → Pv i σ H → H p = none → H q = none → p ≠ q → g (.ref q) σ (upd (upd H p (.tup [x, y])) q (.tup [.int (st + i), .ref p])) fun σ2 H2 => tb { D with nx := Pv (i + 1), ct := Pv (i + 1), bk := D.nx } σ2 H2) (hd : ∀ σ H, Pv xs.length σ H → D.nx σ H) :
    ∃ W : Nat → Nat → St → Hp → Prop, (∃ m, W 0 m σ H) ∧ ∀ i m σ H, W i m σ H →
      ((ItEZ K st b1 b2 a b).stop i H ∧ D.nx σ H) ∨ ((ItEZ K st b1 b2 a b).go i H ∧ ∃ N : St → Hp → Prop, (∀ σ' H', N σ' H' → ∃ m', m' < m ∧ W (i + 1) m' σ' H') ∧ ∀ x H', (ItEZ K st b1 b2 a b).yld i H x H' → g x σ H' fun σ2 H2 => tb { D with nx := N, ct := N, bk := D.nx } σ2 H2) := by
  refine ⟨fun i m σ H => m = xs.length - i ∧ i ≤ xs.length ∧ Pv i σ H, ⟨xs.length, by simp, Nat.zero_le _, h0⟩, ?_⟩
  rintro i m σ H ⟨rfl, hi, p⟩
  obtain ⟨q1, q2⟩ := hl i σ H hi p
  by_cases hlt : i < xs.length
  · refine .inr ⟨⟨xs, ys, xs[i], ys[i]'(by omega), q1, q2, by simp [hlt], List.getElem?_eq_getElem (by omega)⟩, Pv (i + 1), fun σ' H' p' => ⟨xs.length - (i + 1), by omega, rfl, hlt, p'⟩, fun x H' y => ?_⟩
    obtain ⟨r, r2, z1, z2, rfl, hr, hr2, hne, rfl, hz⟩ := y
    obtain ⟨e1, e2⟩ := hz xs ys q1 q2
    exact hs i z1 z2 r r2 σ H e1 e2 p hr hr2 hne
  · have e : i = xs.length := by omega
    subst e
    exact .inl ⟨⟨xs, ys, q1, q2, .inl (Nat.le_refl _)⟩, hd σ H p⟩
end L2

set_option Elab.async false
set_option linter.all false
set_option maxRecDepth 100000
set_option maxHeartbeats 4000000
namespace L2
open PySem PySem.Spec PyProof.Rows MA
section
variable {X : Cx}
end
end L2

set_option Elab.async false
set_option linter.all false
set_option maxRecDepth 100000
set_option maxHeartbeats 4000000
namespace My
open PySem L2 MA
end My

set_option Elab.async false
set_option linter.all false
set_option maxRecDepth 100000
set_option maxHeartbeats 4000000
namespace L2
open PySem PySem.Spec PyProof.Rows MA SeqAt
section
variable {X : Cx}
end
end L2

set_option Elab.async false
set_option linter.all false
set_option maxRecDepth 100000
set_option maxHeartbeats 4000000
namespace My
open PySem L2 MA
end My

set_option Elab.async false
set_option linter.all false
set_option maxRecDepth 100000
set_option maxHeartbeats 4000000
namespace My
open PySem L2 MA
end My

set_option Elab.async false
set_option linter.all false
set_option maxRecDepth 100000
set_option maxHeartbeats 4000000
namespace My
open PySem L2 MA
end My

set_option Elab.async false
set_option linter.all false
set_option maxRecDepth 100000
set_option maxHeartbeats 4000000
/-! ### min(xs, key=lambda x: ..), over a list or a tuple -/
namespace L2
open PySem PySem.Spec PyProof.Rows
section
variable {P : Program} {w : World} {K : PySem.W.Frag} {mg : Str → Option Value} {base : Heap} {N : List Str} {qual : Str} {scope : Scope} {cl : List (Str × Addr)} {f c' : Addr} {cd : Value}
end
section
variable {X : Cx} {pins : List (Addr × Obj)} {σ : St} {H : Hp} {b : Bool} {l I S f : Addr} {xs : List V} {kf : Nat → Int} {R : Result → Shared → Prop}
end
end L2

set_option Elab.async false
set_option linter.all false
set_option maxRecDepth 100000
set_option maxHeartbeats 4000000
namespace L2
open PySem PySem.Spec PyProof.Rows
end L2

set_option Elab.async false
set_option linter.all false
set_option maxRecDepth 100000
set_option maxHeartbeats 4000000
/-! ### == and != of data: ints, texts, tuples and lists of them, nested -/
namespace L2
open PySem PySem.Spec PyProof.Rows MA SeqAt
section
variable {X : Cx} {pins : List (Addr × Obj)} {σ : St} {H : Hp} {s : Shared}
end
end L2

set_option Elab.async false
set_option linter.all false
set_option maxRecDepth 100000
set_option maxHeartbeats 4000000
namespace PySem.SeqAt
open AutoSeq1 (wpAny_loadPart')
open MeetsSeq MeetsSeq2 MeetsSeq3 SeqRoads2
end PySem.SeqAt
namespace L2
open PySem PySem.Spec PyProof.Rows MA
section
variable {X : Cx}
end
end L2

set_option Elab.async false
set_option linter.all false
set_option maxRecDepth 100000
set_option maxHeartbeats 4000000
/-! ### methods and classes of the text -/
namespace L2
open PySem PySem.Spec PyProof.Rows
section
variable {X : Cx} {C : Addr} {x m : Str} {ps : List Str} {k : Nat} {sp : Sp} {o e : Expr} {es : List Expr} {t : TA} {to : TE} {p pos apos : Pos}
end
end L2

set_option Elab.async false
set_option linter.all false
set_option maxRecDepth 100000
set_option maxHeartbeats 4000000
namespace PyProof.Rows
open PySem
section
variable {prog : Program} {w : World} {A : Around} {E : Value → Shared → Prop} {s : Shared}
end
end PyProof.Rows
namespace L2
open PySem PySem.Spec PyProof.Rows MA
section
variable {X : Cx} {e : Expr} {t : TA} {p p3 p4 pos : Pos}
end
end L2

set_option Elab.async false
set_option linter.all false
set_option maxRecDepth 100000
set_option maxHeartbeats 4000000
/-! ### reversed(range(n)) -/
namespace L2
open PySem PySem.Spec PyProof.Rows
theorem sub_ri_reversed : isSubtype (.type "range_iterator") (.type "reversed") = pure false := by rw [isSubtype_type]; kernel_rfl
section
variable {prog : Program} {w : World} {A : Around} {E : Value → Shared → Prop} {s : Shared}
abbrev revR (n : Int) : Obj := { cls := .type "range_iterator", data := .fields #[rawInt (n - 1), rawInt n, rawInt (-1)] }
theorem call_range_reversed {r : Addr} {n : Int} {t u v : Tok} {Q : Value → Shared → Prop} (hr : IsRange s.heap r 0 n 1 t u v) (h0 : 0 ≤ n) (h1 : n < 2 ^ 62)
    (h : Q (.ref s.heap.objs.size) { s with heap := s.heap.push (revR n) }) : wpAny (model prog w) A (call (.builtin "range.__reversed__") [.ref r]) Q E s := by
  have hT : s.TypeIs (.ref r) "range" := ⟨_, hr, rfl⟩
  refine wpAny_call_entry F.slot_range_reversed hT F.entry_range_reversed ?_ (F.args_range_reversed_1 _)
  unfold Builtin.«range.__reversed__»
  refine wpAny_bind (wpAny_of_eq (a := Value.ref r) rfl ?_)
  unfold Builtin.Range.rangeFields
  refine wpAny_bind ?_
  refine wpAny_bind (wpAny_field hr rfl (x := .int 0 t) rfl ?_)
  refine wpAny_bind (wpAny_of_eq (a := some (0 : Int)) rfl ?_)
  refine wpAny_bind (wpAny_field hr rfl (x := .int n u) rfl ?_)
  refine wpAny_bind (wpAny_of_eq (a := some n) rfl ?_)
  refine wpAny_bind (wpAny_field hr rfl (x := .int 1 v) rfl ?_)
  refine wpAny_bind (wpAny_of_eq (a := some (1 : Int)) rfl ?_)
  refine wpAny_pure ?_
  dsimp only
  have e : Builtin.Range.rangeSize 0 n 1 = n := by rw [rangeSize_one]; split <;> omega
  rw [e]
  have sm : (Builtin.Range.rangeFitsLong 0 && Builtin.Range.rangeFitsLong n && Builtin.Range.rangeFitsLong 1 && Builtin.Range.rangeFitsLong (-1) && Builtin.Range.rangeFitsLong (0 - 1) && Builtin.Range.rangeFitsLong n) = true := by
    simp only [Builtin.Range.rangeFitsLong, Bool.and_eq_true, decide_eq_true_eq]
    omega
  rw [sm]
  have e2 : 0 + (n - 1) * 1 = n - 1 := by omega
  rw [e2]
  exact wpAny_bind (wpAny_newObj_type (wpAny_pure ⟨_, rfl, h⟩))
theorem code_reversed_newR {r : Addr} {n : Int} {t u v : Tok} {Q₁ : Value → Shared → Prop} (hr : IsRange s.heap r 0 n 1 t u v) (h0 : 0 ≤ n) (h1 : n < 2 ^ 62)
    (h : Q₁ (.ref s.heap.objs.size) { s with heap := s.heap.push (revR n) }) :
    codeAny (model prog w) A (.call (.builtin "reversed.__new__") ⟨[.type "reversed", .ref r], []⟩) (wants Q₁ E) s := by
  have hT : s.TypeIs (.ref r) "range" := ⟨_, hr, rfl⟩
  refine codeAny_of_tree ?_
  show wpAny _ A.in1 (do checkBuiltinCall "reversed.__new__" ⟨[.type "reversed", .ref r], []⟩; again (.builtin "reversed.__new__" ⟨[.type "reversed", .ref r], []⟩)) _ _ s
  refine wpAny_bind (wpAny_of_eq (F.newCall_reversed_1 _) (wpAny_pure ⟨plainId_quiet F.plain_reversed_new _, codeAny_builtin F.entry_reversed_new ?_⟩))
  rw [Around.under_plainId F.plain_reversed_new _]
  unfold Builtin.«reversed.__new__»
  refine wpAny_bind (wpAny_of_eq (newClass_reversed _) ?_)
  try dsimp only
  refine wpAny_bind (wpAny_of_eq (a := ()) (by first | rfl | kernel_rfl) ?_)
  refine wpAny_bind (wpAny_of_eq (a := ()) (by first | rfl | kernel_rfl) ?_)
  try dsimp only
  refine wpAny_bind (wpAny_specialOf hT F.slot_range_reversed.lookup ?_)
  try dsimp only
  refine wpAny_bind (wpAny_of_eq (F.slot_range_reversed.bind _) ?_)
  try dsimp only
  first
  | rw [if_neg (show ¬ ((Value.builtin "range.__reversed__" == Value.none) = true) from Bool.false_ne_true)]
  | (show wpAny _ _ (if (Value.builtin "range.__reversed__" == Value.none) = true then _ else _) _ _ _; rw [if_neg (show ¬ ((Value.builtin "range.__reversed__" == Value.none) = true) from Bool.false_ne_true)])
  refine wpAny_bind (wpAny_rule ?_)
  refine wpAny_bind (m := runValue (.call (.builtin "range.__reversed__") ⟨[.ref r], []⟩)) (show wpAny _ _ (call (.builtin "range.__reversed__") [.ref r]) _ _ _ from call_range_reversed hr h0 h1 ?_)
  first
  | exact wpAny_pure h
  | exact wpAny_bind (wpAny_pure (wpAny_pure h))
theorem call_reversed_range {r : Addr} {n : Int} {t u v : Tok} {Q : Value → Shared → Prop} (hr : IsRange s.heap r 0 n 1 t u v) (h0 : 0 ≤ n) (h1 : n < 2 ^ 62)
    (h : Q (.ref s.heap.objs.size) { s with heap := s.heap.push (revR n) }) : wpAny (model prog w) A (call (.type "reversed") [.ref r]) Q E s := by
  refine callType_other (U := "range_iterator") (Q₁ := fun obj s₁ => obj = .ref s.heap.objs.size ∧ s₁ = { s with heap := s.heap.push (revR n) }) (by decide +kernel) F.create_reversed ⟨_, _, F.mro_reversed⟩ F.made_reversed sub_ri_reversed (F.typeCall_reversed_1 _) (code_reversed_newR hr h0 h1 ⟨rfl, rfl⟩) ?_
  rintro obj s₁ ⟨rfl, rfl⟩
  exact ⟨⟨_, Heap.get?_push_size _ rfl, rfl⟩, h⟩
end
/-- n - 1, n - 2, .. -/
def Itd (n : Nat) : It := ⟨fun i _ => i < n, fun i H x H' => H' = H ∧ x = .int ((n : Int) - 1 - i), fun i _ => n ≤ i⟩
theorem turn_revR {P : Program} {w : World} {K : PySem.W.Frag} {tg : Expr} (it : Addr) (n : Nat) : Turn P w K tg (Itd n) [it] it (fun i h => IsRangeIter h it ((n : Int) - 1 + (i : Nat) * -1) ((n : Int) - (i : Nat)) (-1)) where
  mem := by simp
  obj := fun i h st b hb => by
    have e : b = it := by simpa using hb
    subst e
    exact ⟨_, st, fun v z => by
      have z' : Data.fields _ = Data.cell v := z
      cases z'⟩
  keep := fun i h h' st k => k it (by simp) _ st
  item := by
    intro X hP hw hK hc i pins s σ H E I hf st hg
    subst hP hw hK
    obtain ⟨f0, f1, f2, f3, f4, f5⟩ := hf it (by simp)
    have W := Walks.range (prog := X.prog) (w := X.w) (I.ok.hd hc) it ((n : Int) - 1) (-1) n
    refine W.item i s _ _ hg st fun v h' tk hv st' kk => ?_
    obtain ⟨t, rfl⟩ := hv
    have I1 : Inv X pins σ H { s with heap := h', toks := tk } := I.turned (fun b o hb e => kk b o (by simpa using hb) e) f0 f1 f3 f4 f5
    refine ⟨_, rfl, go_of (s := { s with heap := h', toks := tk }) (n := "range_iterator") st' rfl rfl (by decide) ⟨.int ((n : Int) - 1 - i), H, I1, ⟨t, ?_⟩, ⟨rfl, rfl⟩, st', fun b hb => (hf b hb).1⟩⟩
    rw [show (n : Int) - 1 + (i : Int) * -1 = (n : Int) - 1 - i by omega]
  done := by
    intro X hP hw hK hc i pins s σ H E I hf st hg
    subst hP hw hK
    obtain ⟨f0, f1, f2, f3, f4, f5⟩ := hf it (by simp)
    exact wpAny_pyNext_range_end (I.ok.hd hc) st (by have : n ≤ i := hg; omega) fun h' eb => ⟨rfl, I.turned (t' := s.toks) (fun b o hb e => eb b o hb e) f0 f1 f3 f4 f5⟩
  self := fun _ _ _ _ _ st h => wpAny_pyIter_rangeiter st h
section
variable {X : Cx} {tg : Expr}
def iRevR (ta : TA) : TI := fun σ H R => ta σ H fun vs H1 => ∃ n : Nat, vs = [.int (n : Int)] ∧ n < 4611686018427387904 ∧ R (Itd n) H1
theorem pi_revR {a : Expr} {ta : TA} {p pos p2 pos2 : Pos} (hg : Gl X "reversed") (hm : X.mg "reversed" = none) (hg2 : Gl X "range") (hm2 : X.mg "range" = none) (ha : PA X [a] ta) (hs : starEach [a] X.env = [(false, eval a X.env)] := by rfl)
    (he : starEach [.Call (.Name "range" p2) [a] [] pos2] X.env = [(false, eval (.Call (.Name "range" p2) [a] [] pos2) X.env)] := by rfl) :
    PI X tg (.Call (.Name "reversed" p) [.Call (.Name "range" p2) [a] [] pos2] [] pos) (iRevR ta) := by
  intro pins s σ H R I h
  refine Call_ (ld_blt I hg hm boot_reversed (PyProof.Rows.callWith_type1 ?_ he rfl))
  rw [he]
  show wpAny _ _ (spliced ((false, eval (.Call (.Name "range" p2) [a] [] pos2) X.env) :: backTo pos (starEach [] X.env))) _ _ s
  refine Calls.spliced_cons ?_
  refine Call_ (ld_blt I hg2 hm2 boot_range (PyProof.Rows.callWith_type1 (thn (ha pos2 pins s σ H _ I h) fun us s1 ⟨vs, H1, I1, r1, q1⟩ => ?_) hs rfl))
  obtain ⟨n, e, q1, q⟩ := q1
  subst e
  cases r1 with
  | cons r rr =>
    cases rr
    obtain ⟨t, rfl⟩ := r
    refine call_range_1 (Calls.spliced_nil ?_)
    refine call_reversed_range (IsRange.new ..) (by omega) (by omega) ?_
    have I2 : Inv X pins σ H1 { s1 with heap := s1.heap.push { cls := .type "range", data := .fields #[.int 0 s1.toks, .int (n : Int) t, .int 1 (s1.toks + 1)] }, toks := s1.toks + 1 + 1 } := I1.kept fun b o e => Heap.get?_push_of_some _ e
    generalize s1.heap.push { cls := .type "range", data := .fields #[.int 0 s1.toks, .int (n : Int) t, .int 1 (s1.toks + 1)] } = h2 at I2
    have st : IsRangeIter (h2.push (revR n)) h2.objs.size ((n : Int) - 1 + ((0 : Nat) : Int) * -1) ((n : Int) - ((0 : Nat) : Int)) (-1) := by
      rw [show (n : Int) - 1 + ((0 : Nat) : Int) * -1 = (n : Int) - 1 by omega, show (n : Int) - ((0 : Nat) : Int) = n by omega]
      exact Heap.get?_push_size _ rfl
    refine wpAny_pyIter_rangeiter st ?_
    refine ⟨h2.objs.size, [h2.objs.size], _, _, H1, rfl, I2.kept fun b o e => Heap.get?_push_of_some _ e, turn_revR _ n, st, fun b hb => ?_, q⟩
    have e : b = h2.objs.size := by simpa using hb
    subst e
    exact I2.fpOk (Nat.le_refl _) (I2.hok.fresh (Nat.le_refl _))
end
theorem comp_revR {n : Nat} {te : TE} {H : Hp} {R : Addr → Hp → Prop} {fs : St} (Pv : Addr → Nat → List V → Hp → Prop) (hn : n ≤ 100000) (hp0 : ∀ p, H p = none → Pv p 0 [] (upd H p (.lst [])))
    (hte : ∀ p i ys H', H p = none → i < n → ys.length = i → Pv p i ys H' → H' p = some (.lst ys) → ∀ Q' : VK, (∀ v H'', H'' p = some (.lst ys) → Pv p (i + 1) (ys ++ [v]) (upd H'' p (.lst (ys ++ [v]))) → Q' v H'') → te (some (.int ((n : Int) - 1 - i)) :: fs) H' Q')
    (q : ∀ p ys H', H p = none → Pv p n ys H' → H' p = some (.lst ys) → ys.length = n → R p H') :
    ∀ p, H p = none → ∃ W : Nat → Nat → List V → St → Hp → Prop, (∃ m, W 0 m [] (none :: fs) (upd H p (.lst []))) ∧ ∀ i m ys σ' H', W i m ys σ' H' →
      ((Itd n).stop i H' ∧ R p H') ∨ ((Itd n).go i H' ∧ ∀ x H2, (Itd n).yld i H' x H2 → gName 0 x σ' H2 fun σ2 H3 => tTT σ2 H3 fun b H4 => if b = true then te σ2 H4 fun v H5 => ys.length < sizeLine ∧ H5 p = some (.lst ys) ∧ (∃ m', m' < m ∧ W (i + 1) m' (ys ++ [v]) σ2 (upd H5 p (.lst (ys ++ [v]))))
        else ∃ m', m' < m ∧ W (i + 1) m' ys σ2 H4) := by
  intro p hp
  refine ⟨fun i m ys σ' H' => m = n - i ∧ i ≤ n ∧ ys.length = i ∧ Pv p i ys H' ∧ H' p = some (.lst ys) ∧ ∃ o, σ' = o :: fs, ⟨n, by simp, Nat.zero_le _, rfl, hp0 p hp, upd_same, _, rfl⟩, ?_⟩
  rintro i m ys σ' H' ⟨rfl, hi, hl, pv, hp', o, rfl⟩
  by_cases hlt : i < n
  · refine .inr ⟨hlt, fun x H2 hy => ?_⟩
    obtain ⟨rfl, rfl⟩ := hy
    change te (some (.int ((n : Int) - 1 - i)) :: fs) H2 _
    refine hte p i ys H2 hp hlt hl pv hp' _ fun v H5 h5 pv5 => ⟨?_, h5, n - (i + 1), by omega, rfl, hlt, by simp [hl], pv5, upd_same, _, rfl⟩
    rw [hl, sizeLine_eq]; omega
  · have e : i = n := by omega
    subst e
    exact .inl ⟨Nat.le_refl _, q p ys H' hp pv hp' hl⟩
end L2

set_option Elab.async false
set_option linter.all false
set_option maxRecDepth 100000
set_option maxHeartbeats 4000000
/-! ### a def handed over, called in a try -/
namespace L2
open PySem PySem.Spec PyProof.Rows
/-- a def that may raise, as a thing -/
structure FnV (P : Program) (w : World) (K : PySem.W.Frag) (mg : Str → Option Value) (base : Heap) (k : Nat) (f : Addr) (ps : List Str) (sp : Sp) : Prop where
  ex : ∃ fd, FnOk P w K mg base (CX1 P w) k f fd ps sp ∧ PySem.W.keepIn K (.ref f) = true ∧ Binds K fd ps []
theorem FnV.mono {P : Program} {w : World} {K : PySem.W.Frag} {mg : Str → Option Value} {base : Heap} {j k : Nat} {f : Addr} {ps : List Str} {sp : Sp} (c : FnV P w K mg base j f ps sp) (h : j ≤ k) : FnV P w K mg base k f ps sp := let ⟨fd, F, r⟩ := c.ex; ⟨fd, F.mono h, r⟩
theorem Cal1.fnV {P : Program} {w : World} {K : PySem.W.Frag} {mg : Str → Option Value} {base : Heap} {x : Str} {ps : List Str} {k : Nat} {sp : Sp} (c : Cal1 P w K mg base x ps k sp) : ∃ f, mg x = some (.ref f) ∧ FnV P w K mg base k f ps sp :=
  let ⟨f, fd, F, m, kp, b⟩ := c.ex
  ⟨f, m, fd, F, kp, b⟩
def xCallV (P : Program) (w : World) (K : PySem.W.Frag) (mg : Str → Option Value) (base : Heap) (k i : Nat) (t : TA) : TEX := fun σ H Q EX => ∃ f ps sp, σ[i]? = some (some (.ref f)) ∧ FnV P w K mg base k f ps sp ∧ t σ H fun vs H1 => sp vs H1 Q (fun c _ H' => ∃ C, c = .ref C ∧ EX C H')
theorem pex_callV {X : Cx} {i k : Nat} {x : Str} {p pos : Pos} {e : Expr} {es : List Expr} {t : TA} (hr : Room k X.A) (hN : X.N[i]? = some x) (hv : Vis X.env.scope x) (ha : PA X.nox (e :: es) t) (hd : (x == ("__debug__" : Str)) = false := by decide) (hcd : (x == ("__classdict__" : Str)) = false := by decide)
    (he : starEach (e :: es) X.env = (false, eval e X.env) :: starEach es X.env := by rfl) (hpl : (backTo pos (starEach es X.env)).any (·.1) = false := by rfl) :
    PEX X (.Call (.Name x p) (e :: es) [] pos) (xCallV X.prog X.w X.K X.mg X.base k i t) := by
  intro pins s σ H Q EX I h
  obtain ⟨f, ps, sp, e1, ⟨fd, F, kp, hb⟩, hs⟩ := h
  have hn := pe_var (X := X.nox) (pos := p) hN hv hd hcd
  refine wpAny_Call_Name_kw (wpAny_mono (hn pins s σ H (fun v H' => v = .ref f ∧ H' = H) (I.wish _) ⟨.ref f, e1, rfl, rfl⟩) (fun u s1 h1 => ?_) fun _ _ z => False.elim z)
  obtain ⟨v, H1, I1, r, rfl, rfl⟩ := h1
  obtain rfl : u = Value.ref f := r
  have I1 := I1.unwish
  refine PySem.W.callWith_K (h₀ := X.base) I1.ok.mod.kin kp (wpAny_mono (ha pos pins s1 σ _ _ (I1.wish _) hs) (fun us s2 h2 => ?_) fun _ _ z => False.elim z) he hpl
  obtain ⟨vs, H2, I2, r, q⟩ := h2
  have I2 := I2.unwish
  refine ⟨I2.kIn, ?_⟩
  have hl : us.length = ps.length := by rw [← r.length]; exact F.len _ _ _ _ q
  have hbt := hb s2 us I2.kIn (by rw [List.append_nil]; exact hl)
  rw [List.append_nil] at hbt
  refine wpAny_call (codeAny_mono (F.run X.A X.stack s2 H2 ⟨us, []⟩ us vs Q _ hr I2.env0 hbt r q) fun r s' hz => ?_)
  cases r with
  | error e =>
    obtain ⟨y, C, H', rfl, F, C2, ec, hx⟩ := hz
    cases ec
    exact ⟨y, C, σ, _, H', s2, rfl, I2, F, hx⟩
  | ok fl =>
    cases fl with
    | ret u => exact I2.after hz
    | next => exact False.elim hz
    | brk => exact False.elim hz
    | cont => exact False.elim hz
/-- zip of two lists, the second no longer than the first -/
theorem for_zipS {K : PySem.W.Frag} {a b : Addr} {xs ys : List V} {g : TG} {tb : TS} {D : Ends} {σ : St} {H : Hp} (Pv : Nat → St → Hp → Prop) (hxy : ys.length ≤ xs.length) (h0 : Pv 0 σ H) (hl : ∀ i σ H, i ≤ ys.length → Pv i σ H → SqL K H a xs ∧ SqL K H b ys)
    (hs : ∀ i x y p σ H, xs[i]? = some x → ys[i]? = some y → Pv i σ H → H p = none → g (.ref p) σ (upd H p (.tup [x, y])) fun σ2 H2 => tb { D with nx := Pv (i + 1), ct := Pv (i + 1), bk := D.nx } σ2 H2) (hd : ∀ σ H, Pv ys.length σ H → D.nx σ H) :
    ∃ W : Nat → Nat → St → Hp → Prop, (∃ m, W 0 m σ H) ∧ ∀ i m σ H, W i m σ H →
      ((Itz K a b).stop i H ∧ D.nx σ H) ∨ ((Itz K a b).go i H ∧ ∃ N : St → Hp → Prop, (∀ σ' H', N σ' H' → ∃ m', m' < m ∧ W (i + 1) m' σ' H') ∧ ∀ x H', (Itz K a b).yld i H x H' → g x σ H' fun σ2 H2 => tb { D with nx := N, ct := N, bk := D.nx } σ2 H2) := by
  refine ⟨fun i m σ H => m = ys.length - i ∧ i ≤ ys.length ∧ Pv i σ H, ⟨ys.length, by simp, Nat.zero_le _, h0⟩, ?_⟩
  rintro i m σ H ⟨rfl, hi, p⟩
  obtain ⟨q1, q2⟩ := hl i σ H hi p
  by_cases hlt : i < ys.length
  · refine .inr ⟨⟨xs, ys, xs[i]'(by omega), ys[i], q1, q2, List.getElem?_eq_getElem (by omega), by simp [hlt]⟩, Pv (i + 1), fun σ' H' p' => ⟨ys.length - (i + 1), by omega, rfl, hlt, p'⟩, fun x H' y => ?_⟩
    obtain ⟨r, z1, z2, rfl, hr, rfl, hz⟩ := y
    obtain ⟨e1, e2⟩ := hz xs ys q1 q2
    exact hs i z1 z2 r σ H e1 e2 p hr
  · have e : i = ys.length := by omega
    subst e
    exact .inl ⟨⟨xs, ys, q1, q2, .inr (Nat.le_refl _)⟩, hd σ H p⟩
end L2

set_option Elab.async false
set_option linter.all false
set_option maxRecDepth 100000
set_option maxHeartbeats 4000000
namespace My
open PySem L2 MA
def top (i : Nat) : Stmt := PySem.Challenge.pw_emptierbox_k23_rules_held_beside.main.body.getD i (.Pass ⟨0, 0, 0, 0⟩)
abbrev s_measure : Stmt := top 12
theorem sc_measure : FnScope ["a", "b"] ["a", "b"] (defScope s_measure) := ⟨rfl, rfl, rfl, by decide +kernel, rfl, by decide +kernel, by decide +kernel⟩
abbrev s_plus : Stmt := top 13
theorem sc_plus : FnScope ["a", "b", "common", "top", "rest"] ["a", "b"] (defScope s_plus) := ⟨rfl, rfl, rfl, by decide +kernel, rfl, by decide +kernel, by decide +kernel⟩
abbrev s_minus : Stmt := top 14
theorem sc_minus : FnScope ["a", "b"] ["a", "b"] (defScope s_minus) := ⟨rfl, rfl, rfl, by decide +kernel, rfl, by decide +kernel, by decide +kernel⟩
abbrev s_times : Stmt := top 15
theorem sc_times : FnScope ["a", "b", "first", "second"] ["a", "b"] (defScope s_times) := ⟨rfl, rfl, rfl, by decide +kernel, rfl, by decide +kernel, by decide +kernel⟩
abbrev s_parted : Stmt := top 16
theorem sc_parted : FnScope ["top", "bottoms", "bottom", "number", "common"] ["top", "bottoms"] (defScope s_parted) := ⟨rfl, rfl, rfl, by decide +kernel, rfl, by decide +kernel, by decide +kernel⟩
abbrev s_ask_as_many : Stmt := top 18
theorem sc_ask_as_many : FnScope ["one", "other"] ["one", "other"] (defScope s_ask_as_many) := ⟨rfl, rfl, rfl, by decide +kernel, rfl, by decide +kernel, by decide +kernel⟩
abbrev s_drawn : Stmt := top 19
theorem sc_drawn : FnScope ["n", "many"] ["n", "many"] (defScope s_drawn) := ⟨rfl, rfl, rfl, by decide +kernel, rfl, by decide +kernel, by decide +kernel⟩
abbrev s_rows_up_to : Stmt := top 20
theorem sc_rows_up_to : FnScope ["rank", "many", "rows", "at"] ["rank", "many"] (defScope s_rows_up_to) := ⟨rfl, rfl, rfl, by decide +kernel, rfl, by decide +kernel, by decide +kernel⟩
abbrev s_unlike : Stmt := top 21
theorem sc_unlike : FnScope ["n", "many"] ["n", "many"] (defScope s_unlike) := ⟨rfl, rfl, rfl, by decide +kernel, rfl, by decide +kernel, by decide +kernel⟩
abbrev s_sets : Stmt := top 22
theorem sc_sets : FnScope ["things", "many", "found", "at"] ["things", "many"] (defScope s_sets) := ⟨rfl, rfl, rfl, by decide +kernel, rfl, by decide +kernel, by decide +kernel⟩
abbrev s_mixed : Stmt := top 23
theorem sc_mixed : FnScope ["share", "one", "other", "rest"] ["share", "one", "other"] (defScope s_mixed) := ⟨rfl, rfl, rfl, by decide +kernel, rfl, by decide +kernel, by decide +kernel⟩
abbrev s_fuller_at : Stmt := top 25
theorem sc_fuller_at : FnScope ["one", "other", "more", "k", "a", "b"] ["one", "other"] (defScope s_fuller_at) := ⟨rfl, rfl, rfl, by decide +kernel, rfl, by decide +kernel, by decide +kernel⟩
abbrev s_parting : Stmt := top 26
theorem sc_parting : FnScope ["one", "other", "k"] ["one", "other"] (defScope s_parting) := ⟨rfl, rfl, rfl, by decide +kernel, rfl, by decide +kernel, by decide +kernel⟩
abbrev s_l_pen : Stmt := top 28
theorem sc_l_pen : FnScope ["_law_script"] ["_law_script"] (defScope s_l_pen) := ⟨rfl, rfl, rfl, by decide +kernel, rfl, by decide +kernel, by decide +kernel⟩
abbrev s_l_take : Stmt := top 29
theorem sc_l_take : FnScope ["_law_pen_here", "_law_many", "_law_turns", "_law_cell", "_law_prime", "_law_mixed_cell", "_law_digit"] ["_law_pen_here", "_law_many"] (defScope s_l_take) := ⟨rfl, rfl, rfl, by decide +kernel, rfl, by decide +kernel, by decide +kernel⟩
abbrev s_l_share : Stmt := top 30
theorem sc_l_share : FnScope ["_law_top", "_law_bottom", "_law_one", "_law_rest"] ["_law_top", "_law_bottom"] (defScope s_l_share) := ⟨rfl, rfl, rfl, by decide +kernel, rfl, by decide +kernel, by decide +kernel⟩
abbrev s_l_sum : Stmt := top 31
theorem sc_l_sum : FnScope ["_law_some", "_law_top", "_law_bottom", "_law_one"] ["_law_some"] (defScope s_l_sum) := ⟨rfl, rfl, rfl, by decide +kernel, rfl, by decide +kernel, by decide +kernel⟩
abbrev s_l_weights : Stmt := top 32
theorem sc_l_weights : FnScope ["_law_pen_here", "_law_boxes", "_law_most", "_law_spot", "_law_found"] ["_law_pen_here", "_law_boxes"] (defScope s_l_weights) := ⟨rfl, rfl, rfl, by decide +kernel, rfl, by decide +kernel, by decide +kernel⟩
abbrev s_l_rule : Stmt := top 33
theorem sc_l_rule : FnScope ["_law_weights_here"] ["_law_weights_here"] (defScope s_l_rule) := ⟨rfl, rfl, rfl, by decide +kernel, rfl, by decide +kernel, by decide +kernel⟩
abbrev s_l_behind : Stmt := top 34
theorem sc_l_behind : FnScope ["_law_pen_here", "_law_weights_here", "_law_found", "_law_turns", "_law_at", "_law_to", "_law_much"] ["_law_pen_here", "_law_weights_here"] (defScope s_l_behind) := ⟨rfl, rfl, rfl, by decide +kernel, rfl, by decide +kernel, by decide +kernel⟩
abbrev s_l_near : Stmt := top 35
theorem sc_l_near : FnScope ["_law_pen_here", "_law_boxes", "_law_base", "_law_found", "_law_turns"] ["_law_pen_here"] (defScope s_l_near) := ⟨rfl, rfl, rfl, by decide +kernel, rfl, by decide +kernel, by decide +kernel⟩
abbrev s_l_pair : Stmt := top 36
theorem sc_l_pair : FnScope ["_law_pen_here", "_law_way", "_law_boxes", "_law_weights_here", "_law_one", "_law_pair_here"] ["_law_pen_here"] (defScope s_l_pair) := ⟨rfl, rfl, rfl, by decide +kernel, rfl, by decide +kernel, by decide +kernel⟩
abbrev s_l_due : Stmt := top 37
theorem sc_l_due : FnScope ["_law_one", "_law_other", "_law_k", "_law_here", "_law_there"] ["_law_one", "_law_other"] (defScope s_l_due) := ⟨rfl, rfl, rfl, by decide +kernel, rfl, by decide +kernel, by decide +kernel⟩
abbrev s_l_right : Stmt := top 38
theorem sc_l_right : FnScope ["_law_one", "_law_other", "_law_due_here"] ["_law_one", "_law_other"] (defScope s_l_right) := ⟨rfl, rfl, rfl, by decide +kernel, rfl, by decide +kernel, by decide +kernel⟩
abbrev s_l_is_refused : Stmt := top 39
theorem sc_l_is_refused : FnScope ["_law_ask", "_law_one", "_law_other", "_law_caught", "e"] ["_law_ask", "_law_one", "_law_other"] (defScope s_l_is_refused) := ⟨rfl, rfl, rfl, by decide +kernel, rfl, by decide +kernel, by decide +kernel⟩
abbrev s_law : Stmt := top 40
theorem sc_law : FnScope ["_law_script", "_law_pen_here", "_law_some", "_law_one", "_law_other"] ["_law_script"] (defScope s_law) := ⟨rfl, rfl, rfl, by decide +kernel, rfl, by decide +kernel, by decide +kernel⟩

section
variable {P : Program} {w : World} {K : PySem.W.Frag} {mg : Str → Option Value} {base : Heap}
theorem ok_measure (T : Txt mg) (F : FunAt K mg "measure" ["a", "b"] s_measure) : Cal P w K mg base "measure" ["a", "b"] 1 spMeasure := by
  have S := sc_measure
  refine F.cal sc_measure (fun vs H Q E h => ?_) (fun f cdv A outer s H vs Q E hr h => ?_)
  · obtain ⟨a, b, rfl, _⟩ := h; rfl
  obtain ⟨a, b, rfl, q⟩ := h
  refine ⟨_, (@pss_cons _ _ _ _ _ (@ps_par _ _ (0) (1) _ _ _ _ _ _ _ _ _ _ _ (by rfl) (by exact S.nd) (by rfl) (by rfl) (by decide) (by rfl) (by rfl) (@pa_consN _ _ _ _ _ (@pe_callB _ _ _ _ _ _ _ _ _ call_abs (by rfl) (by exact T.z_abs) (by exact bt_abs) (@pa_consN _ _ _ _ _ (pv 0) pa_nil (by first | rfl | decide | exact Or.inl rfl | exact Or.inr rfl | (intro _; rfl) | (intro _ _; rfl) | (intro _ _ _; rfl))) (by first | rfl | decide | exact Or.inl rfl | exact Or.inr rfl | (intro _; rfl) | (intro _ _; rfl) | (intro _ _ _; rfl)) (by first | rfl | decide | exact Or.inl rfl | exact Or.inr rfl | (intro _; rfl) | (intro _ _; rfl) | (intro _ _ _; rfl)) (by first | rfl | decide | exact Or.inl rfl | exact Or.inr rfl | (intro _; rfl) | (intro _ _; rfl) | (intro _ _ _; rfl)) (by first | rfl | decide | exact Or.inl rfl | exact Or.inr rfl | (intro _; rfl) | (intro _ _; rfl) | (intro _ _ _; rfl))) (@pa_consN _ _ _ _ _ (@pe_callB _ _ _ _ _ _ _ _ _ call_abs (by rfl) (by exact T.z_abs) (by exact bt_abs) (@pa_consN _ _ _ _ _ (pv 1) pa_nil (by first | rfl | decide | exact Or.inl rfl | exact Or.inr rfl | (intro _; rfl) | (intro _ _; rfl) | (intro _ _ _; rfl))) (by first | rfl | decide | exact Or.inl rfl | exact Or.inr rfl | (intro _; rfl) | (intro _ _; rfl) | (intro _ _ _; rfl)) (by first | rfl | decide | exact Or.inl rfl | exact Or.inr rfl | (intro _; rfl) | (intro _ _; rfl) | (intro _ _ _; rfl)) (by first | rfl | decide | exact Or.inl rfl | exact Or.inr rfl | (intro _; rfl) | (intro _ _; rfl) | (intro _ _ _; rfl)) (by first | rfl | decide | exact Or.inl rfl | exact Or.inr rfl | (intro _; rfl) | (intro _ _; rfl) | (intro _ _ _; rfl))) pa_nil (by first | rfl | decide | exact Or.inl rfl | exact Or.inr rfl | (intro _; rfl) | (intro _ _; rfl) | (intro _ _ _; rfl))) (by first | rfl | decide | exact Or.inl rfl | exact Or.inr rfl | (intro _; rfl) | (intro _ _; rfl) | (intro _ _ _; rfl))) (by rfl) (by first | rfl | decide | exact Or.inl rfl | exact Or.inr rfl | (intro _; rfl) | (intro _ _; rfl) | (intro _ _ _; rfl))) (@pss_cons _ _ _ _ _ (@ps_while _ _ _ _ _ _ (by exact PassesOwn.never) (@pt_cmpR _ _ _ _ _ _ _ _ op_ne (pv 1) pe_int (by exact (nomark _))) (@pss_one _ _ _ (@ps_par _ _ (0) (1) _ _ _ _ _ _ _ _ _ _ _ (by rfl) (by exact S.nd) (by rfl) (by rfl) (by decide) (by rfl) (by rfl) (@pa_consN _ _ _ _ _ (pv 1) (@pa_consN _ _ _ _ _ (@pe_op _ _ _ _ _ _ _ _ op_mod (pv 0) (pv 1)) pa_nil (by first | rfl | decide | exact Or.inl rfl | exact Or.inr rfl | (intro _; rfl) | (intro _ _; rfl) | (intro _ _ _; rfl))) (by first | rfl | decide | exact Or.inl rfl | exact Or.inr rfl | (intro _; rfl) | (intro _ _; rfl) | (intro _ _ _; rfl))) (by rfl) (by first | rfl | decide | exact Or.inl rfl | exact Or.inr rfl | (intro _; rfl) | (intro _ _; rfl) | (intro _ _ _; rfl))))) (@pss_one _ _ _ (@ps_ret _ _ _ _ (pv 0))))), ?_⟩
  refine ⟨_, rfl, _, rfl, _, rfl, _, rfl, _, _, rfl, ?_⟩
  refine while_by (fun σ H' => H' = H ∧ ∃ x y : Int, σ = [some (.int x), some (.int y)] ∧ 0 ≤ x ∧ 0 ≤ y ∧ gI x y = gI a b) (fun σ _ => match σ with | [_, some (.int y)] => y.toNat | _ => 0) ⟨rfl, _, _, rfl, ?_, ?_, ?_⟩ ?_ ?_
  · split <;> omega
  · split <;> omega
  · exact gI_abs a b
  · rintro σ H' ⟨rfl, x, y, rfl, hx, hy, hg⟩
    refine ⟨_, rfl, rfl, _, rfl, ?_⟩
    refine ite2 (fun c => ?_) (fun c => ?_)
    · have hy0 : 0 < y := by
        have : ¬ (V.int y = V.int 0) := by simpa using c
        have : y ≠ 0 := fun e => this (by rw [e])
        omega
      refine ⟨_, rfl, _, rfl, _, rfl, _, _, rfl, rfl, hy0, _, _, rfl, ?_⟩
      have hm := Int.emod_nonneg x (show y ≠ 0 by omega)
      have hl := Int.emod_lt_of_pos x hy0
      refine ⟨⟨rfl, _, _, rfl, hy, hm, ?_⟩, ?_⟩
      · rw [gI_step hx]; exact hg
      · show (x % y).toNat < y.toNat
        omega
    · have hy0 : y = 0 := by
        have : V.int y = V.int 0 := by simpa using c
        exact V.int.inj this
      subst hy0
      refine ⟨_, rfl, ?_⟩
      rw [gI_zero hx] at hg
      rw [hg]
      exact q
  · rintro σ H' Q1 Q2 hQ ⟨v, e, h1, b1, e2, h2⟩
    exact ⟨v, e, h1, b1, e2, hQ _ _ h2⟩
theorem ok_plus (C_measure : Cal P w K mg base "measure" ["a", "b"] 1 spMeasure) (F : FunAt K mg "plus" ["a", "b"] s_plus) : Cal P w K mg base "plus" ["a", "b"] 2 spPlus := by
  have S := sc_plus
  refine F.cal sc_plus (fun vs H Q E h => ?_) (fun f cdv A outer s H vs Q E hr h => ?_)
  · obtain ⟨a, b, _, _, rfl, _⟩ := h; rfl
  obtain ⟨_, _, q, r, rfl, ⟨pa, rfl, ha⟩, ⟨pb, rfl, hb⟩, ⟨b1, b2⟩, ⟨b3, b4⟩, _, k⟩ := h
  refine ⟨_, (@pss_cons _ _ _ _ _ (@ps_set _ _ (2) _ _ _ _ (by exact S.nd) (by rfl) (by first | exact Or.inl rfl | exact Or.inr rfl) (@cc _ _ _ _ _ _ _ _ _ _ (by exact C_measure) (by exact (hr.mono (by decide))) (@pa_consN _ _ _ _ _ (@pe_ix _ _ _ _ _ _ _ ix_tup (pv 0) pe_int (by exact (fun _ _ => rfl))) (@pa_consN _ _ _ _ _ (@pe_ix _ _ _ _ _ _ _ ix_tup (pv 1) pe_int (by exact (fun _ _ => rfl))) pa_nil (by first | rfl | decide | exact Or.inl rfl | exact Or.inr rfl | (intro _; rfl) | (intro _ _; rfl) | (intro _ _ _; rfl))) (by first | rfl | decide | exact Or.inl rfl | exact Or.inr rfl | (intro _; rfl) | (intro _ _; rfl) | (intro _ _ _; rfl))) (by first | rfl | decide | exact Or.inl rfl | exact Or.inr rfl | (intro _; rfl) | (intro _ _; rfl) | (intro _ _ _; rfl)) (by first | rfl | decide | exact Or.inl rfl | exact Or.inr rfl | (intro _; rfl) | (intro _ _; rfl) | (intro _ _ _; rfl)) (by first | rfl | decide | exact Or.inl rfl | exact Or.inr rfl | (intro _; rfl) | (intro _ _; rfl) | (intro _ _ _; rfl)) (by first | rfl | decide | exact Or.inl rfl | exact Or.inr rfl | (intro _; rfl) | (intro _ _; rfl) | (intro _ _ _; rfl))) (by first | rfl | decide | exact Or.inl rfl | exact Or.inr rfl | (intro _; rfl) | (intro _ _; rfl) | (intro _ _ _; rfl)) (by first | rfl | decide | exact Or.inl rfl | exact Or.inr rfl | (intro _; rfl) | (intro _ _; rfl) | (intro _ _ _; rfl))) (@pss_cons _ _ _ _ _ (@ps_set _ _ (3) _ _ _ _ (by exact S.nd) (by rfl) (by first | exact Or.inl rfl | exact Or.inr rfl) (@pe_op _ _ _ _ _ _ _ _ op_add (@pe_op _ _ _ _ _ _ _ _ op_mulB (@pe_ix _ _ _ _ _ _ _ ix_tup (pv 0) pe_int (by exact (fun _ _ => rfl))) (@pe_op _ _ _ _ _ _ _ _ op_fdivB (@pe_ix _ _ _ _ _ _ _ ix_tup (pv 1) pe_int (by exact (fun _ _ => rfl))) (pv 2))) (@pe_op _ _ _ _ _ _ _ _ op_mulB (@pe_ix _ _ _ _ _ _ _ ix_tup (pv 1) pe_int (by exact (fun _ _ => rfl))) (@pe_op _ _ _ _ _ _ _ _ op_fdivB (@pe_ix _ _ _ _ _ _ _ ix_tup (pv 0) pe_int (by exact (fun _ _ => rfl))) (pv 2)))) (by first | rfl | decide | exact Or.inl rfl | exact Or.inr rfl | (intro _; rfl) | (intro _ _; rfl) | (intro _ _ _; rfl)) (by first | rfl | decide | exact Or.inl rfl | exact Or.inr rfl | (intro _; rfl) | (intro _ _; rfl) | (intro _ _ _; rfl))) (@pss_cons _ _ _ _ _ (@ps_set _ _ (4) _ _ _ _ (by exact S.nd) (by rfl) (by first | exact Or.inl rfl | exact Or.inr rfl) (@cc _ _ _ _ _ _ _ _ _ _ (by exact C_measure) (by exact (hr.mono (by decide))) (@pa_consN _ _ _ _ _ (pv 3) (@pa_consN _ _ _ _ _ (pv 2) pa_nil (by first | rfl | decide | exact Or.inl rfl | exact Or.inr rfl | (intro _; rfl) | (intro _ _; rfl) | (intro _ _ _; rfl))) (by first | rfl | decide | exact Or.inl rfl | exact Or.inr rfl | (intro _; rfl) | (intro _ _; rfl) | (intro _ _ _; rfl))) (by first | rfl | decide | exact Or.inl rfl | exact Or.inr rfl | (intro _; rfl) | (intro _ _; rfl) | (intro _ _ _; rfl)) (by first | rfl | decide | exact Or.inl rfl | exact Or.inr rfl | (intro _; rfl) | (intro _ _; rfl) | (intro _ _ _; rfl)) (by first | rfl | decide | exact Or.inl rfl | exact Or.inr rfl | (intro _; rfl) | (intro _ _; rfl) | (intro _ _ _; rfl)) (by first | rfl | decide | exact Or.inl rfl | exact Or.inr rfl | (intro _; rfl) | (intro _ _; rfl) | (intro _ _ _; rfl))) (by first | rfl | decide | exact Or.inl rfl | exact Or.inr rfl | (intro _; rfl) | (intro _ _; rfl) | (intro _ _ _; rfl)) (by first | rfl | decide | exact Or.inl rfl | exact Or.inr rfl | (intro _; rfl) | (intro _ _; rfl) | (intro _ _ _; rfl))) (@pss_one _ _ _ (@ps_ret _ _ _ _ (@pe_tup _ _ _ _ _ (@pa_consN _ _ _ _ _ (@pe_op _ _ _ _ _ _ _ _ op_fdivB (pv 3) (pv 4)) (@pa_consN _ _ _ _ _ (@pe_op _ _ _ _ _ _ _ _ op_mulB (@pe_op _ _ _ _ _ _ _ _ op_fdivB (@pe_ix _ _ _ _ _ _ _ ix_tup (pv 0) pe_int (by exact (fun _ _ => rfl))) (pv 2)) (@pe_op _ _ _ _ _ _ _ _ op_fdivB (@pe_ix _ _ _ _ _ _ _ ix_tup (pv 1) pe_int (by exact (fun _ _ => rfl))) (pv 4))) pa_nil (by first | rfl | decide | exact Or.inl rfl | exact Or.inr rfl | (intro _; rfl) | (intro _ _; rfl) | (intro _ _ _; rfl))) (by first | rfl | decide | exact Or.inl rfl | exact Or.inr rfl | (intro _; rfl) | (intro _ _; rfl) | (intro _ _ _; rfl))))))))), ?_⟩
  have c0 : 0 < gI q.den r.den := gI_pos_left (den_ne q)
  have cb : Bt 3000 (gI q.den r.den) := b2.gl (den_ne q)
  refine ⟨_, rfl, pa, _, _, _, rfl, rfl, SqT.of ha, rfl, _, rfl, pb, _, _, _, rfl, rfl, SqT.of hb, rfl, _, _, rfl, ?_⟩
  refine ⟨_, rfl, pa, _, _, _, rfl, rfl, SqT.of ha, rfl, _, rfl, pb, _, _, _, rfl, rfl, SqT.of hb, rfl, _, rfl, _, _, rfl, rfl, ⟨c0, cb.mono (by decide)⟩, _, _, rfl, rfl, ⟨b1.mono (by decide), (b4.ediv c0).mono (by decide)⟩,
    _, rfl, pb, _, _, _, rfl, rfl, SqT.of hb, rfl, _, rfl, pa, _, _, _, rfl, rfl, SqT.of ha, rfl, _, rfl, _, _, rfl, rfl, ⟨c0, cb.mono (by decide)⟩, _, _, rfl, rfl, ⟨b3.mono (by decide), (b2.ediv c0).mono (by decide)⟩, _, _, rfl, rfl, ?_⟩
  refine ⟨_, rfl, _, rfl, _, _, rfl, ?_⟩
  have r0 : 0 < gI (q.num * ((r.den : Int) / gI q.den r.den) + r.num * ((q.den : Int) / gI q.den r.den)) (gI q.den r.den) := gI_pos_right (by omega)
  have rb : Bt 8000 (gI (q.num * ((r.den : Int) / gI q.den r.den) + r.num * ((q.den : Int) / gI q.den r.den)) (gI q.den r.den)) := (cb.gr (by omega)).mono (by decide)
  refine ⟨_, rfl, _, rfl, _, _, rfl, rfl, ⟨r0, rb⟩, _, rfl, pa, _, _, _, rfl, rfl, SqT.of ha, rfl, _, rfl, _, _, rfl, rfl, ⟨c0, cb.mono (by decide)⟩,
    _, rfl, pb, _, _, _, rfl, rfl, SqT.of hb, rfl, _, rfl, _, _, rfl, rfl, ⟨r0, rb⟩, _, _, rfl, rfl, ⟨(b2.ediv c0).mono (by decide), (b4.ediv r0).mono (by decide)⟩, (by show 2 ≤ sizeLine; decide), fun p hp => ?_⟩
  have e := plus_ok q r _ _ _ rfl rfl rfl
  exact k _ _ (same_new hp _) ⟨p, rfl, by rw [upd_same]; dsimp only; rw [e.1, e.2]⟩
theorem ok_minus (C_plus : Cal P w K mg base "plus" ["a", "b"] 2 spPlus) (F : FunAt K mg "minus" ["a", "b"] s_minus) : Cal P w K mg base "minus" ["a", "b"] 3 spMinus := by
  have S := sc_minus
  refine F.cal sc_minus (fun vs H Q E h => ?_) (fun f cdv A outer s H vs Q E hr h => ?_)
  · obtain ⟨a, b, _, _, rfl, _⟩ := h; rfl
  obtain ⟨_, _, q, r, rfl, ⟨pa, rfl, ha⟩, ⟨pb, rfl, hb⟩, bq, br, _, k⟩ := h
  refine ⟨_, (@pss_one _ _ _ (@ps_ret _ _ _ _ (@cc _ _ _ _ _ _ _ _ _ _ (by exact C_plus) (by exact (hr.mono (by decide))) (@pa_consN _ _ _ _ _ (pv 0) (@pa_consN _ _ _ _ _ (@pe_tup _ _ _ _ _ (@pa_consN _ _ _ _ _ (@pe_un _ _ _ _ _ _ un_neg (@pe_ix _ _ _ _ _ _ _ ix_tup (pv 1) pe_int (by exact (fun _ _ => rfl)))) (@pa_consN _ _ _ _ _ (@pe_ix _ _ _ _ _ _ _ ix_tup (pv 1) pe_int (by exact (fun _ _ => rfl))) pa_nil (by first | rfl | decide | exact Or.inl rfl | exact Or.inr rfl | (intro _; rfl) | (intro _ _; rfl) | (intro _ _ _; rfl))) (by first | rfl | decide | exact Or.inl rfl | exact Or.inr rfl | (intro _; rfl) | (intro _ _; rfl) | (intro _ _ _; rfl)))) pa_nil (by first | rfl | decide | exact Or.inl rfl | exact Or.inr rfl | (intro _; rfl) | (intro _ _; rfl) | (intro _ _ _; rfl))) (by first | rfl | decide | exact Or.inl rfl | exact Or.inr rfl | (intro _; rfl) | (intro _ _; rfl) | (intro _ _ _; rfl))) (by first | rfl | decide | exact Or.inl rfl | exact Or.inr rfl | (intro _; rfl) | (intro _ _; rfl) | (intro _ _ _; rfl)) (by first | rfl | decide | exact Or.inl rfl | exact Or.inr rfl | (intro _; rfl) | (intro _ _; rfl) | (intro _ _ _; rfl)) (by first | rfl | decide | exact Or.inl rfl | exact Or.inr rfl | (intro _; rfl) | (intro _ _; rfl) | (intro _ _ _; rfl)) (by first | rfl | decide | exact Or.inl rfl | exact Or.inr rfl | (intro _; rfl) | (intro _ _; rfl) | (intro _ _ _; rfl))))), ?_⟩
  refine ⟨_, rfl, _, rfl, pb, _, _, _, rfl, rfl, SqT.of hb, rfl, _, rfl, _, rfl, pb, _, _, _, rfl, rfl, SqT.of hb, rfl, (by show 2 ≤ sizeLine; decide), fun p hp => ?_⟩
  refine ⟨_, _, q, -r, rfl, ⟨pa, rfl, same_new hp _ _ _ ha⟩, ⟨p, rfl, upd_same⟩, bq, br.neg, trivial, fun v H' hs hv => ?_⟩
  have hv : ShAt H' v (q + -r) := hv
  rw [← Rat.sub_eq_add_neg] at hv
  exact k _ _ ((same_new hp _).trans hs) hv
theorem ok_times (C_measure : Cal P w K mg base "measure" ["a", "b"] 1 spMeasure) (F : FunAt K mg "times" ["a", "b"] s_times) : Cal P w K mg base "times" ["a", "b"] 3 spTimes := by
  have S := sc_times
  refine (F.cal (k := 1) sc_times (fun vs H Q E h => ?_) (fun f cdv A outer s H vs Q E hr h => ?_)).mono (by decide)
  · obtain ⟨a, b, _, _, rfl, _⟩ := h; rfl
  obtain ⟨_, _, q, r, rfl, ⟨pa, rfl, ha⟩, ⟨pb, rfl, hb⟩, ⟨b1, b2⟩, ⟨b3, b4⟩, _, k⟩ := h
  refine ⟨_, (@pss_cons _ _ _ _ _ (@ps_par _ _ (2) (3) _ _ _ _ _ _ _ _ _ _ _ (by rfl) (by exact S.nd) (by rfl) (by rfl) (by decide) (by rfl) (by rfl) (@pa_consN _ _ _ _ _ (@cc _ _ _ _ _ _ _ _ _ _ (by exact C_measure) (by exact (hr.mono (by decide))) (@pa_consN _ _ _ _ _ (@pe_ix _ _ _ _ _ _ _ ix_tup (pv 0) pe_int (by exact (fun _ _ => rfl))) (@pa_consN _ _ _ _ _ (@pe_ix _ _ _ _ _ _ _ ix_tup (pv 1) pe_int (by exact (fun _ _ => rfl))) pa_nil (by first | rfl | decide | exact Or.inl rfl | exact Or.inr rfl | (intro _; rfl) | (intro _ _; rfl) | (intro _ _ _; rfl))) (by first | rfl | decide | exact Or.inl rfl | exact Or.inr rfl | (intro _; rfl) | (intro _ _; rfl) | (intro _ _ _; rfl))) (by first | rfl | decide | exact Or.inl rfl | exact Or.inr rfl | (intro _; rfl) | (intro _ _; rfl) | (intro _ _ _; rfl)) (by first | rfl | decide | exact Or.inl rfl | exact Or.inr rfl | (intro _; rfl) | (intro _ _; rfl) | (intro _ _ _; rfl)) (by first | rfl | decide | exact Or.inl rfl | exact Or.inr rfl | (intro _; rfl) | (intro _ _; rfl) | (intro _ _ _; rfl)) (by first | rfl | decide | exact Or.inl rfl | exact Or.inr rfl | (intro _; rfl) | (intro _ _; rfl) | (intro _ _ _; rfl))) (@pa_consN _ _ _ _ _ (@cc _ _ _ _ _ _ _ _ _ _ (by exact C_measure) (by exact (hr.mono (by decide))) (@pa_consN _ _ _ _ _ (@pe_ix _ _ _ _ _ _ _ ix_tup (pv 1) pe_int (by exact (fun _ _ => rfl))) (@pa_consN _ _ _ _ _ (@pe_ix _ _ _ _ _ _ _ ix_tup (pv 0) pe_int (by exact (fun _ _ => rfl))) pa_nil (by first | rfl | decide | exact Or.inl rfl | exact Or.inr rfl | (intro _; rfl) | (intro _ _; rfl) | (intro _ _ _; rfl))) (by first | rfl | decide | exact Or.inl rfl | exact Or.inr rfl | (intro _; rfl) | (intro _ _; rfl) | (intro _ _ _; rfl))) (by first | rfl | decide | exact Or.inl rfl | exact Or.inr rfl | (intro _; rfl) | (intro _ _; rfl) | (intro _ _ _; rfl)) (by first | rfl | decide | exact Or.inl rfl | exact Or.inr rfl | (intro _; rfl) | (intro _ _; rfl) | (intro _ _ _; rfl)) (by first | rfl | decide | exact Or.inl rfl | exact Or.inr rfl | (intro _; rfl) | (intro _ _; rfl) | (intro _ _ _; rfl)) (by first | rfl | decide | exact Or.inl rfl | exact Or.inr rfl | (intro _; rfl) | (intro _ _; rfl) | (intro _ _ _; rfl))) pa_nil (by first | rfl | decide | exact Or.inl rfl | exact Or.inr rfl | (intro _; rfl) | (intro _ _; rfl) | (intro _ _ _; rfl))) (by first | rfl | decide | exact Or.inl rfl | exact Or.inr rfl | (intro _; rfl) | (intro _ _; rfl) | (intro _ _ _; rfl))) (by rfl) (by first | rfl | decide | exact Or.inl rfl | exact Or.inr rfl | (intro _; rfl) | (intro _ _; rfl) | (intro _ _ _; rfl))) (@pss_one _ _ _ (@ps_ret _ _ _ _ (@pe_tup _ _ _ _ _ (@pa_consN _ _ _ _ _ (@pe_op _ _ _ _ _ _ _ _ op_mulB (@pe_op _ _ _ _ _ _ _ _ op_fdivB (@pe_ix _ _ _ _ _ _ _ ix_tup (pv 0) pe_int (by exact (fun _ _ => rfl))) (pv 2)) (@pe_op _ _ _ _ _ _ _ _ op_fdivB (@pe_ix _ _ _ _ _ _ _ ix_tup (pv 1) pe_int (by exact (fun _ _ => rfl))) (pv 3))) (@pa_consN _ _ _ _ _ (@pe_op _ _ _ _ _ _ _ _ op_mulB (@pe_op _ _ _ _ _ _ _ _ op_fdivB (@pe_ix _ _ _ _ _ _ _ ix_tup (pv 0) pe_int (by exact (fun _ _ => rfl))) (pv 3)) (@pe_op _ _ _ _ _ _ _ _ op_fdivB (@pe_ix _ _ _ _ _ _ _ ix_tup (pv 1) pe_int (by exact (fun _ _ => rfl))) (pv 2))) pa_nil (by first | rfl | decide | exact Or.inl rfl | exact Or.inr rfl | (intro _; rfl) | (intro _ _; rfl) | (intro _ _ _; rfl))) (by first | rfl | decide | exact Or.inl rfl | exact Or.inr rfl | (intro _; rfl) | (intro _ _; rfl) | (intro _ _ _; rfl))))))), ?_⟩
  have f0 : 0 < gI q.num r.den := gI_pos_right (den_ne r)
  have s0 : 0 < gI r.num q.den := gI_pos_right (den_ne q)
  have fb : Bt 8000 (gI q.num r.den) := (b4.gr (den_ne r)).mono (by decide)
  have sb : Bt 8000 (gI r.num q.den) := (b2.gr (den_ne q)).mono (by decide)
  refine ⟨_, rfl, pa, _, _, _, rfl, rfl, SqT.of ha, rfl, _, rfl, pb, _, _, _, rfl, rfl, SqT.of hb, rfl, _, _, rfl, _, rfl, pb, _, _, _, rfl, rfl, SqT.of hb, rfl, _, rfl, pa, _, _, _, rfl, rfl, SqT.of ha, rfl, _, _, rfl, _, _, rfl, ?_⟩
  refine ⟨_, rfl, pa, _, _, _, rfl, rfl, SqT.of ha, rfl, _, rfl, _, _, rfl, rfl, ⟨f0, fb⟩, _, rfl, pb, _, _, _, rfl, rfl, SqT.of hb, rfl, _, rfl, _, _, rfl, rfl, ⟨s0, sb⟩, _, _, rfl, rfl, ⟨(b1.ediv f0).mono (by decide), (b3.ediv s0).mono (by decide)⟩,
    _, rfl, pa, _, _, _, rfl, rfl, SqT.of ha, rfl, _, rfl, _, _, rfl, rfl, ⟨s0, sb⟩, _, rfl, pb, _, _, _, rfl, rfl, SqT.of hb, rfl, _, rfl, _, _, rfl, rfl, ⟨f0, fb⟩, _, _, rfl, rfl, ⟨(b2.ediv s0).mono (by decide), (b4.ediv f0).mono (by decide)⟩, (by show 2 ≤ sizeLine; decide), fun p hp => ?_⟩
  have e := timesX_ok q r
  exact k _ _ (same_new hp _) ⟨p, rfl, by rw [upd_same]; dsimp only; rw [e.1, e.2]⟩
theorem joinI1 {C R : Int → Hp → Prop} {G : Prop} (main : (∀ a h, C a h → R a h) → G) (key : ∀ a h, C a h → R a h) : G := main key
def partedF (t : Int) (bs : List Int) : Int × Int := bs.foldl (fun s x => (s.1 / gI s.1 x, s.2 * (x / gI s.1 x))) (t, 1)
def setsF (t : Int) (k : Nat) : Int := (List.range k).foldl (fun (f : Int) (j : Nat) => f * (t - (j : Int)) / ((j : Int) + 1)) 1
def spRowsUp : Sp := fun vs H Q _ => ∃ r k : Int, vs = [.int r, .int k] ∧ 0 ≤ r ∧ r ≤ 100 ∧ 0 ≤ k ∧ k ≤ 100 ∧ Q (.int (r ^ k.toNat)) H
theorem ok_rowsup (T : Txt mg) (F : FunAt K mg "rows_up_to" ["rank", "many"] s_rows_up_to) : Cal P w K mg base "rows_up_to" ["rank", "many"] 1 spRowsUp := by
  have S := sc_rows_up_to
  refine F.cal sc_rows_up_to (fun vs H Q E h => ?_) (fun f cdv A outer s H vs Q E hr h => ?_)
  · obtain ⟨r, k, rfl, _⟩ := h; rfl
  obtain ⟨r, k, rfl, r0, r1, k0, k1, q⟩ := h
  refine ⟨_, (@pss_cons _ _ _ _ _ (@ps_set _ _ (2) _ _ _ _ (by exact S.nd) (by rfl) (by first | exact Or.inl rfl | exact Or.inr rfl) pe_int (by first | rfl | decide | exact Or.inl rfl | exact Or.inr rfl | (intro _; rfl) | (intro _ _; rfl) | (intro _ _ _; rfl)) (by first | rfl | decide | exact Or.inl rfl | exact Or.inr rfl | (intro _; rfl) | (intro _ _; rfl) | (intro _ _ _; rfl))) (@pss_cons _ _ _ _ _ (@ps_for _ _ _ _ _ _ _ _ (by exact PassesOwn.never) (by rfl) (@pi_range1 _ _ _ _ _ _ (by rfl) (by exact T.z_range) (@pa_consN _ _ _ _ _ (pv 1) pa_nil (by first | rfl | decide | exact Or.inl rfl | exact Or.inr rfl | (intro _; rfl) | (intro _ _; rfl) | (intro _ _ _; rfl))) (by first | rfl | decide | exact Or.inl rfl | exact Or.inr rfl | (intro _; rfl) | (intro _ _; rfl) | (intro _ _ _; rfl))) (@pg_name _ _ (3) _ (by exact S.nd) (by rfl) (by first | exact Or.inl rfl | exact Or.inr rfl) (by first | rfl | decide | exact Or.inl rfl | exact Or.inr rfl | (intro _; rfl) | (intro _ _; rfl) | (intro _ _ _; rfl))) (@pss_one _ _ _ (@ps_aug _ _ (2) _ _ _ _ _ _ (by exact S.nd) (by rfl) (by first | exact Or.inl rfl | exact Or.inr rfl) (pv 0) ip_mul (by first | rfl | decide | exact Or.inl rfl | exact Or.inr rfl | (intro _; rfl) | (intro _ _; rfl) | (intro _ _ _; rfl)))) (by first | rfl | decide | exact Or.inl rfl | exact Or.inr rfl | (intro _; rfl) | (intro _ _; rfl) | (intro _ _ _; rfl))) (@pss_one _ _ _ (@ps_ret _ _ _ _ (pv 2))))), ?_⟩
  refine ⟨_, rfl, k, rfl, by omega, by omega, for_range (n := k.toNat) (fun i σ H' => H' = H ∧ ∃ o, σ = [some (.int r), some (.int k), some (.int (r ^ i)), o]) ⟨rfl, none, by rw [Int.pow_zero]; rfl⟩ ?_ ?_⟩
  · rintro i σ H' hi ⟨rfl, o, rfl⟩
    refine ⟨_, rfl, _, rfl, _, _, rfl, rfl, .inr ⟨by omega, by omega⟩, rfl, some (.int (0 + i)), ?_⟩
    rw [Int.pow_succ]
    rfl
  · rintro σ H' ⟨rfl, o, rfl⟩
    exact ⟨_, rfl, q⟩
def spSets : Sp := fun vs H Q _ => ∃ t k : Int, vs = [.int t, .int k] ∧ 0 ≤ t ∧ t ≤ 100 ∧ 0 ≤ k ∧ k ≤ 100 ∧ Q (.int (setsF t k.toNat)) H
theorem setsF_succ (t : Int) (i : Nat) : setsF t (i + 1) = setsF t i * (t - (i : Int)) / ((i : Int) + 1) := by
  unfold setsF
  rw [List.range_succ, List.foldl_append]
  rfl
theorem ok_sets (T : Txt mg) (F : FunAt K mg "sets" ["things", "many"] s_sets) : Cal P w K mg base "sets" ["things", "many"] 1 spSets := by
  have S := sc_sets
  refine F.cal sc_sets (fun vs H Q E h => ?_) (fun f cdv A outer s H vs Q E hr h => ?_)
  · obtain ⟨r, k, rfl, _⟩ := h; rfl
  obtain ⟨t, k, rfl, r0, r1, k0, k1, q⟩ := h
  refine ⟨_, (@pss_cons _ _ _ _ _ (@ps_set _ _ (2) _ _ _ _ (by exact S.nd) (by rfl) (by first | exact Or.inl rfl | exact Or.inr rfl) pe_int (by first | rfl | decide | exact Or.inl rfl | exact Or.inr rfl | (intro _; rfl) | (intro _ _; rfl) | (intro _ _ _; rfl)) (by first | rfl | decide | exact Or.inl rfl | exact Or.inr rfl | (intro _; rfl) | (intro _ _; rfl) | (intro _ _ _; rfl))) (@pss_cons _ _ _ _ _ (@ps_for _ _ _ _ _ _ _ _ (by exact PassesOwn.never) (by rfl) (@pi_range1 _ _ _ _ _ _ (by rfl) (by exact T.z_range) (@pa_consN _ _ _ _ _ (pv 1) pa_nil (by first | rfl | decide | exact Or.inl rfl | exact Or.inr rfl | (intro _; rfl) | (intro _ _; rfl) | (intro _ _ _; rfl))) (by first | rfl | decide | exact Or.inl rfl | exact Or.inr rfl | (intro _; rfl) | (intro _ _; rfl) | (intro _ _ _; rfl))) (@pg_name _ _ (3) _ (by exact S.nd) (by rfl) (by first | exact Or.inl rfl | exact Or.inr rfl) (by first | rfl | decide | exact Or.inl rfl | exact Or.inr rfl | (intro _; rfl) | (intro _ _; rfl) | (intro _ _ _; rfl))) (@pss_one _ _ _ (@ps_set _ _ (2) _ _ _ _ (by exact S.nd) (by rfl) (by first | exact Or.inl rfl | exact Or.inr rfl) (@pe_op _ _ _ _ _ _ _ _ op_fdiv (@pe_op _ _ _ _ _ _ _ _ op_mul (pv 2) (@pe_op _ _ _ _ _ _ _ _ op_sub (pv 0) (pv 3))) (@pe_op _ _ _ _ _ _ _ _ op_add (pv 3) pe_int)) (by first | rfl | decide | exact Or.inl rfl | exact Or.inr rfl | (intro _; rfl) | (intro _ _; rfl) | (intro _ _ _; rfl)) (by first | rfl | decide | exact Or.inl rfl | exact Or.inr rfl | (intro _; rfl) | (intro _ _; rfl) | (intro _ _ _; rfl)))) (by first | rfl | decide | exact Or.inl rfl | exact Or.inr rfl | (intro _; rfl) | (intro _ _; rfl) | (intro _ _ _; rfl))) (@pss_one _ _ _ (@ps_ret _ _ _ _ (pv 2))))), ?_⟩
  refine ⟨_, rfl, k, rfl, by omega, by omega, for_range (n := k.toNat) (fun i σ H' => H' = H ∧ ∃ o, σ = [some (.int t), some (.int k), some (.int (setsF t i)), o]) ⟨rfl, _, rfl⟩ ?_ ?_⟩
  · rintro i σ H' hi ⟨rfl, o, rfl⟩
    refine ⟨_, rfl, _, rfl, _, rfl, _, _, rfl, rfl, _, _, rfl, rfl, .inr ⟨by omega, by omega⟩, _, rfl, _, _, rfl, rfl, _, _, rfl, rfl, ⟨by omega, by omega⟩, rfl, some (.int (0 + i)), ?_⟩
    rw [setsF_succ, Int.zero_add]
    rfl
  · rintro σ H' ⟨rfl, o, rfl⟩
    exact ⟨_, rfl, q⟩
def spParted : Sp := fun vs H Q _ => ∃ (t : Int) (l : Addr) (bs : List Int), vs = [.int t, .ref l] ∧ H l = some (.lst (bs.map V.int)) ∧ (∀ b ∈ bs, 0 < b ∧ b < 1000000) ∧ ∀ v H', Same H H' → PrAt H' v (partedF t bs) → Q v H'
theorem partedF_take {t : Int} {bs : List Int} {i : Nat} {b : Int} (h : bs[i]? = some b) : partedF t (bs.take (i + 1)) = ((partedF t (bs.take i)).1 / gI (partedF t (bs.take i)).1 b, (partedF t (bs.take i)).2 * (b / gI (partedF t (bs.take i)).1 b)) := by
  unfold partedF
  rw [List.take_add_one, h, List.foldl_append]
  rfl
theorem ok_parted (C_measure : Cal P w K mg base "measure" ["a", "b"] 1 spMeasure) (F : FunAt K mg "parted" ["top", "bottoms"] s_parted) : Cal P w K mg base "parted" ["top", "bottoms"] 2 spParted := by
  have S := sc_parted
  refine F.cal sc_parted (fun vs H Q E h => ?_) (fun f cdv A outer s H vs Q E hr h => ?_)
  · obtain ⟨t, l, bs, rfl, _⟩ := h; rfl
  obtain ⟨t, l, bs, rfl, hl, hb, k⟩ := h
  refine ⟨_, (@pss_cons _ _ _ _ _ (@ps_set _ _ (2) _ _ _ _ (by exact S.nd) (by rfl) (by first | exact Or.inl rfl | exact Or.inr rfl) pe_int (by first | rfl | decide | exact Or.inl rfl | exact Or.inr rfl | (intro _; rfl) | (intro _ _; rfl) | (intro _ _ _; rfl)) (by first | rfl | decide | exact Or.inl rfl | exact Or.inr rfl | (intro _; rfl) | (intro _ _; rfl) | (intro _ _ _; rfl))) (@pss_cons _ _ _ _ _ (@ps_for _ _ _ _ _ _ _ _ (by exact PassesOwn.never) (by rfl) (@pi_list _ _ _ _ (pv 1)) (@pg_name _ _ (3) _ (by exact S.nd) (by rfl) (by first | exact Or.inl rfl | exact Or.inr rfl) (by first | rfl | decide | exact Or.inl rfl | exact Or.inr rfl | (intro _; rfl) | (intro _ _; rfl) | (intro _ _ _; rfl))) (@pss_cons _ _ _ _ _ (@ps_set _ _ (4) _ _ _ _ (by exact S.nd) (by rfl) (by first | exact Or.inl rfl | exact Or.inr rfl) (@cc _ _ _ _ _ _ _ _ _ _ (by exact C_measure) (by exact (hr.mono (by decide))) (@pa_consN _ _ _ _ _ (pv 0) (@pa_consN _ _ _ _ _ (pv 3) pa_nil (by first | rfl | decide | exact Or.inl rfl | exact Or.inr rfl | (intro _; rfl) | (intro _ _; rfl) | (intro _ _ _; rfl))) (by first | rfl | decide | exact Or.inl rfl | exact Or.inr rfl | (intro _; rfl) | (intro _ _; rfl) | (intro _ _ _; rfl))) (by first | rfl | decide | exact Or.inl rfl | exact Or.inr rfl | (intro _; rfl) | (intro _ _; rfl) | (intro _ _ _; rfl)) (by first | rfl | decide | exact Or.inl rfl | exact Or.inr rfl | (intro _; rfl) | (intro _ _; rfl) | (intro _ _ _; rfl)) (by first | rfl | decide | exact Or.inl rfl | exact Or.inr rfl | (intro _; rfl) | (intro _ _; rfl) | (intro _ _ _; rfl)) (by first | rfl | decide | exact Or.inl rfl | exact Or.inr rfl | (intro _; rfl) | (intro _ _; rfl) | (intro _ _ _; rfl))) (by first | rfl | decide | exact Or.inl rfl | exact Or.inr rfl | (intro _; rfl) | (intro _ _; rfl) | (intro _ _ _; rfl)) (by first | rfl | decide | exact Or.inl rfl | exact Or.inr rfl | (intro _; rfl) | (intro _ _; rfl) | (intro _ _ _; rfl))) (@pss_cons _ _ _ _ _ (@ps_set _ _ (0) _ _ _ _ (by exact S.nd) (by rfl) (by first | exact Or.inl rfl | exact Or.inr rfl) (@pe_op _ _ _ _ _ _ _ _ op_fdivB (pv 0) (pv 4)) (by first | rfl | decide | exact Or.inl rfl | exact Or.inr rfl | (intro _; rfl) | (intro _ _; rfl) | (intro _ _ _; rfl)) (by first | rfl | decide | exact Or.inl rfl | exact Or.inr rfl | (intro _; rfl) | (intro _ _; rfl) | (intro _ _ _; rfl))) (@pss_one _ _ _ (@ps_set _ _ (2) _ _ _ _ (by exact S.nd) (by rfl) (by first | exact Or.inl rfl | exact Or.inr rfl) (@pe_op _ _ _ _ _ _ _ _ op_mul (pv 2) (@pe_op _ _ _ _ _ _ _ _ op_fdivB (pv 3) (pv 4))) (by first | rfl | decide | exact Or.inl rfl | exact Or.inr rfl | (intro _; rfl) | (intro _ _; rfl) | (intro _ _ _; rfl)) (by first | rfl | decide | exact Or.inl rfl | exact Or.inr rfl | (intro _; rfl) | (intro _ _; rfl) | (intro _ _ _; rfl)))))) (by first | rfl | decide | exact Or.inl rfl | exact Or.inr rfl | (intro _; rfl) | (intro _ _; rfl) | (intro _ _ _; rfl))) (@pss_one _ _ _ (@ps_ret _ _ _ _ (@pe_tup _ _ _ _ _ (@pa_consN _ _ _ _ _ (pv 0) (@pa_consN _ _ _ _ _ (pv 2) pa_nil (by first | rfl | decide | exact Or.inl rfl | exact Or.inr rfl | (intro _; rfl) | (intro _ _; rfl) | (intro _ _ _; rfl))) (by first | rfl | decide | exact Or.inl rfl | exact Or.inr rfl | (intro _; rfl) | (intro _ _; rfl) | (intro _ _ _; rfl)))))))), ?_⟩
  refine ⟨_, rfl, l, rfl, ⟨_, SqL.of hl⟩, for_list (xs := bs.map V.int) (fun i σ H' => H' = H ∧ ∃ o1 o2, σ = [some (.int (partedF t (bs.take i)).1), some (.ref l), some (.int (partedF t (bs.take i)).2), o1, o2]) ⟨rfl, _, _, rfl⟩ (fun i σ H2 _ ⟨e, _⟩ => by rw [e]; exact SqL.of hl) ?_ ?_⟩
  · rintro i y σ H' hi ⟨rfl, o1, o2, rfl⟩
    rw [List.getElem?_map] at hi
    cases hbi : bs[i]? with
    | none => rw [hbi] at hi; cases hi
    | some b =>
      rw [hbi] at hi
      cases hi
      obtain ⟨b0, b1⟩ := hb b (List.mem_of_getElem? hbi)
      have g0 := gI_pos_right (a := (partedF t (bs.take i)).1) (b := b) (by omega)
      have bb : Bt 20 b := intBits_le_iff.mpr (by show b.natAbs < 2 ^ 20; have : (2 : Nat) ^ 20 = 1048576 := rfl; omega)
      have gb : Bt 8000 (gI (partedF t (bs.take i)).1 b) := (bb.gr (by omega)).mono (by decide)
      have q0 : 0 ≤ b / gI (partedF t (bs.take i)).1 b := Int.ediv_nonneg (by omega) (by omega)
      have q1 : b / gI (partedF t (bs.take i)).1 b ≤ b := Int.ediv_le_self _ (by omega)
      refine ⟨_, rfl, _, rfl, _, _, rfl, ?_⟩
      refine ⟨_, rfl, _, rfl, _, _, rfl, rfl, ⟨g0, gb⟩, ?_⟩
      refine ⟨_, rfl, _, rfl, _, rfl, _, _, rfl, rfl, ⟨g0, gb⟩, _, _, rfl, rfl, .inr ⟨by omega, by omega⟩, rfl, some (.int b), some (.int (gI (partedF t (bs.take i)).1 b)), ?_⟩
      rw [partedF_take hbi]
      rfl
  · rintro σ H' ⟨rfl, o1, o2, rfl⟩
    rw [List.length_map, List.take_length]
    exact ⟨_, rfl, _, rfl, lz 2 rfl, fun p hp => k _ _ (same_new hp _) ⟨p, rfl, upd_same⟩⟩

theorem same_upd {H H' : Hp} {l : Addr} {o : HO} (s : Same H H') (hl : H l = none) : Same H (upd H' l o) := fun b u e => by rw [upd_ne (ne_of_none e hl)]; exact s _ _ e
def drawnF (n k : Int) : List (Int × Int) := (List.range n.toNat).map fun (r : Nat) => partedF (((r : Int) + 1) ^ k.toNat - (r : Int) ^ k.toNat) (List.replicate k.toNat n)
def unlikeF (n k : Int) : List (Int × Int) := (List.range n.toNat).map fun (r : Nat) => partedF (setsF (r : Int) (k - 1).toNat) [setsF n k.toNat]
theorem map_range_succ {α : Type} (f : Nat → α) (i : Nat) : (List.range (i + 1)).map f = (List.range i).map f ++ [f i] := by
  rw [List.range_succ, List.map_append]; rfl
def spTup (f : Int → Int → List (Int × Int)) (ok : Int → Int → Prop) : Sp := fun vs H Q _ => ∃ n k : Int, vs = [.int n, .int k] ∧ ok n k ∧ ∀ (p : Addr) (ys : List V) (H' : Hp), Same H H' → H' p = some (.tup ys) → Prs H' ys (f n k) → Q (.ref p) H'
abbrev okD : Int → Int → Prop := fun n k => 1 ≤ n ∧ n ≤ 12 ∧ 1 ≤ k ∧ k ≤ 4
theorem ok_drawn (T : Txt mg) (C_parted : Cal P w K mg base "parted" ["top", "bottoms"] 2 spParted) (C_rows_up_to : Cal P w K mg base "rows_up_to" ["rank", "many"] 1 spRowsUp)
    (F : FunAt K mg "drawn" ["n", "many"] s_drawn) : Cal P w K mg base "drawn" ["n", "many"] 3 (spTup drawnF okD) := by
  have S := sc_drawn
  refine F.cal sc_drawn (fun vs H Q E h => ?_) (fun f cdv A outer s H vs Q E hr h => ?_)
  · obtain ⟨n, k, rfl, _⟩ := h; rfl
  obtain ⟨n, k, rfl, ⟨n1, n2, k1, k2⟩, q⟩ := h
  refine ⟨_, (@pss_one _ _ _ (@ps_ret _ _ _ _ (@pe_callTy _ _ _ _ _ _ _ _ _ call_tuple_of (by rfl) (by exact T.z_tuple) (by exact bt_tuple) (@pa_consN _ _ _ _ _ (@pe_comp _ _ _ _ _ _ _ _ _ _ _ _ _ (by rfl) (by exact (fun _ _ h => h)) (by decide +kernel) (by rfl) (by decide +kernel) (by exact hfr_of rfl) (by exact Sees.frees ["rank"] [("many", 1), ("n", 0)] (fr_cons ⟨rfl, rfl⟩ (fr_cons ⟨rfl, rfl⟩ fr_nil))) (@pi_range1 _ _ _ _ _ _ (by rfl) (by exact T.z_range) (@pa_consN _ _ _ _ _ (pv 0) pa_nil (by first | rfl | decide | exact Or.inl rfl | exact Or.inr rfl | (intro _; rfl) | (intro _ _; rfl) | (intro _ _ _; rfl))) (by first | rfl | decide | exact Or.inl rfl | exact Or.inr rfl | (intro _; rfl) | (intro _ _; rfl) | (intro _ _ _; rfl))) (fun _ _ _ _ _ => @pg_name _ _ (0) _ (by exact (show (["rank", "many", "n"] : List Str).Nodup by decide +kernel)) (by rfl) (by first | exact Or.inl rfl | exact Or.inr rfl) (by first | rfl | decide | exact Or.inl rfl | exact Or.inr rfl | (intro _; rfl) | (intro _ _; rfl) | (intro _ _ _; rfl))) (fun _ _ _ _ _ => pts_nil) (fun _ _ _ _ _ => (@cc _ _ _ _ _ _ _ _ _ _ (by exact C_parted) (by exact (hr.mono (by decide))) (@pa_consN _ _ _ _ _ (@pe_op _ _ _ _ _ _ _ _ op_sub (@cc _ _ _ _ _ _ _ _ _ _ (by exact C_rows_up_to) (by exact (hr.mono (by decide))) (@pa_consN _ _ _ _ _ (@pe_op _ _ _ _ _ _ _ _ op_add (pv 0) pe_int) (@pa_consN _ _ _ _ _ (pv 1) pa_nil (by first | rfl | decide | exact Or.inl rfl | exact Or.inr rfl | (intro _; rfl) | (intro _ _; rfl) | (intro _ _ _; rfl))) (by first | rfl | decide | exact Or.inl rfl | exact Or.inr rfl | (intro _; rfl) | (intro _ _; rfl) | (intro _ _ _; rfl))) (by first | rfl | decide | exact Or.inl rfl | exact Or.inr rfl | (intro _; rfl) | (intro _ _; rfl) | (intro _ _ _; rfl)) (by first | rfl | decide | exact Or.inl rfl | exact Or.inr rfl | (intro _; rfl) | (intro _ _; rfl) | (intro _ _ _; rfl)) (by first | rfl | decide | exact Or.inl rfl | exact Or.inr rfl | (intro _; rfl) | (intro _ _; rfl) | (intro _ _ _; rfl)) (by first | rfl | decide | exact Or.inl rfl | exact Or.inr rfl | (intro _; rfl) | (intro _ _; rfl) | (intro _ _ _; rfl))) (@cc _ _ _ _ _ _ _ _ _ _ (by exact C_rows_up_to) (by exact (hr.mono (by decide))) (@pa_consN _ _ _ _ _ (pv 0) (@pa_consN _ _ _ _ _ (pv 1) pa_nil (by first | rfl | decide | exact Or.inl rfl | exact Or.inr rfl | (intro _; rfl) | (intro _ _; rfl) | (intro _ _ _; rfl))) (by first | rfl | decide | exact Or.inl rfl | exact Or.inr rfl | (intro _; rfl) | (intro _ _; rfl) | (intro _ _ _; rfl))) (by first | rfl | decide | exact Or.inl rfl | exact Or.inr rfl | (intro _; rfl) | (intro _ _; rfl) | (intro _ _ _; rfl)) (by first | rfl | decide | exact Or.inl rfl | exact Or.inr rfl | (intro _; rfl) | (intro _ _; rfl) | (intro _ _ _; rfl)) (by first | rfl | decide | exact Or.inl rfl | exact Or.inr rfl | (intro _; rfl) | (intro _ _; rfl) | (intro _ _ _; rfl)) (by first | rfl | decide | exact Or.inl rfl | exact Or.inr rfl | (intro _; rfl) | (intro _ _; rfl) | (intro _ _ _; rfl)))) (@pa_consN _ _ _ _ _ (@pe_op _ _ _ _ _ _ _ _ op_rep (@pe_lst _ _ _ _ (@pa_consN _ _ _ _ _ (pv 2) pa_nil (by first | rfl | decide | exact Or.inl rfl | exact Or.inr rfl | (intro _; rfl) | (intro _ _; rfl) | (intro _ _ _; rfl)))) (pv 1)) pa_nil (by first | rfl | decide | exact Or.inl rfl | exact Or.inr rfl | (intro _; rfl) | (intro _ _; rfl) | (intro _ _ _; rfl))) (by first | rfl | decide | exact Or.inl rfl | exact Or.inr rfl | (intro _; rfl) | (intro _ _; rfl) | (intro _ _ _; rfl))) (by first | rfl | decide | exact Or.inl rfl | exact Or.inr rfl | (intro _; rfl) | (intro _ _; rfl) | (intro _ _ _; rfl)) (by first | rfl | decide | exact Or.inl rfl | exact Or.inr rfl | (intro _; rfl) | (intro _ _; rfl) | (intro _ _ _; rfl)) (by first | rfl | decide | exact Or.inl rfl | exact Or.inr rfl | (intro _; rfl) | (intro _ _; rfl) | (intro _ _ _; rfl)) (by first | rfl | decide | exact Or.inl rfl | exact Or.inr rfl | (intro _; rfl) | (intro _ _; rfl) | (intro _ _ _; rfl)))) (by first | rfl | decide | exact Or.inl rfl | exact Or.inr rfl | (intro _; rfl) | (intro _ _; rfl) | (intro _ _ _; rfl))) pa_nil (by first | rfl | decide | exact Or.inl rfl | exact Or.inr rfl | (intro _; rfl) | (intro _ _; rfl) | (intro _ _ _; rfl))) (by first | rfl | decide | exact Or.inl rfl | exact Or.inr rfl | (intro _; rfl) | (intro _ _; rfl) | (intro _ _ _; rfl)) (by first | rfl | decide | exact Or.inl rfl | exact Or.inr rfl | (intro _; rfl) | (intro _ _; rfl) | (intro _ _ _; rfl)) (by first | rfl | decide | exact Or.inl rfl | exact Or.inr rfl | (intro _; rfl) | (intro _ _; rfl) | (intro _ _ _; rfl)) (by first | rfl | decide | exact Or.inl rfl | exact Or.inr rfl | (intro _; rfl) | (intro _ _; rfl) | (intro _ _ _; rfl))))), ?_⟩
  refine ⟨_, rfl, n, rfl, by omega, by omega, comp_rng (n := n.toNat) (lo := 0) (fs := [some (.int k), some (.int n)]) (fun acc i ys H' => Same H H' ∧ Prs H' ys ((List.range i).map fun (r : Nat) => partedF (((r : Int) + 1) ^ k.toNat - (r : Int) ^ k.toNat) (List.replicate k.toNat n))) (by omega) ?_ ?_ ?_⟩
  · intro acc hacc
    exact ⟨same_new hacc _, .nil⟩
  · rintro acc i ys H' hacc hi hl ⟨s', h'⟩ hH' Q' hQ
    refine ⟨_, rfl, _, _, rfl, rfl, _, rfl, _, _, rfl, by omega, by omega, by omega, by omega, _, rfl, _, rfl, _, _, rfl, by omega, by omega, by omega, by omega, _, _, rfl, rfl, _, rfl, lz 1 rfl, fun l1 hl1 => ?_⟩
    have s1 := same_new hl1 (.lst [.int n])
    refine ⟨_, rfl, l1, k, _, rfl, rfl, upd_same, by omega, by omega, ?_, fun l2 hl2 => ?_⟩
    · show 1 * k.toNat ≤ sizeLine
      rw [sizeLine_eq]; omega
    have s2 := same_new hl2 (.lst (List.replicate k.toNat [V.int n]).flatten)
    refine ⟨_, l2, List.replicate k.toNat n, rfl, by rw [upd_same, rep1], fun b hb => ?_, fun v H3 s3 h3 => ?_⟩
    · have := (List.mem_replicate.mp hb).2
      omega
    have s13 := s1.trans (s2.trans s3)
    have hH3 := s13 _ _ hH'
    refine hQ v H3 hH3 ⟨same_upd (s'.trans s13) hacc, ?_⟩
    rw [map_range_succ]
    have h3' := PrAt.updL (o := .lst (ys ++ [v])) hH3 h3
    rw [Int.zero_add] at h3'
    exact Prs.snoc h3' ((h'.same s13).updL hH3)
  rintro acc ys H' hacc ⟨s', h'⟩ hH' hl
  refine ⟨acc, ys, rfl, .inl ⟨SqL.of hH', fun t ht => ?_⟩⟩
  exact q t ys _ (s'.trans (same_new ht _)) upd_same (h'.same (same_new ht _))
abbrev okU : Int → Int → Prop := fun n k => 1 ≤ n ∧ n ≤ 12 ∧ 1 ≤ k ∧ k ≤ n
theorem sets_pos : ∀ n : Nat, n < 13 → ∀ k : Nat, k < 13 → (k ≤ n → 0 < setsF n k ∧ setsF n k < 1000000) := by decide +kernel
theorem ok_unlike (T : Txt mg) (C_parted : Cal P w K mg base "parted" ["top", "bottoms"] 2 spParted) (C_sets : Cal P w K mg base "sets" ["things", "many"] 1 spSets)
    (F : FunAt K mg "unlike" ["n", "many"] s_unlike) : Cal P w K mg base "unlike" ["n", "many"] 3 (spTup unlikeF okU) := by
  have S := sc_unlike
  refine F.cal sc_unlike (fun vs H Q E h => ?_) (fun f cdv A outer s H vs Q E hr h => ?_)
  · obtain ⟨n, k, rfl, _⟩ := h; rfl
  obtain ⟨n, k, rfl, ⟨n1, n2, k1, k2⟩, q⟩ := h
  refine ⟨_, (@pss_one _ _ _ (@ps_ret _ _ _ _ (@pe_callTy _ _ _ _ _ _ _ _ _ call_tuple_of (by rfl) (by exact T.z_tuple) (by exact bt_tuple) (@pa_consN _ _ _ _ _ (@pe_comp _ _ _ _ _ _ _ _ _ _ _ _ _ (by rfl) (by exact (fun _ _ h => h)) (by decide +kernel) (by rfl) (by decide +kernel) (by exact hfr_of rfl) (by exact Sees.frees ["rank"] [("many", 1), ("n", 0)] (fr_cons ⟨rfl, rfl⟩ (fr_cons ⟨rfl, rfl⟩ fr_nil))) (@pi_range1 _ _ _ _ _ _ (by rfl) (by exact T.z_range) (@pa_consN _ _ _ _ _ (pv 0) pa_nil (by first | rfl | decide | exact Or.inl rfl | exact Or.inr rfl | (intro _; rfl) | (intro _ _; rfl) | (intro _ _ _; rfl))) (by first | rfl | decide | exact Or.inl rfl | exact Or.inr rfl | (intro _; rfl) | (intro _ _; rfl) | (intro _ _ _; rfl))) (fun _ _ _ _ _ => @pg_name _ _ (0) _ (by exact (show (["rank", "many", "n"] : List Str).Nodup by decide +kernel)) (by rfl) (by first | exact Or.inl rfl | exact Or.inr rfl) (by first | rfl | decide | exact Or.inl rfl | exact Or.inr rfl | (intro _; rfl) | (intro _ _; rfl) | (intro _ _ _; rfl))) (fun _ _ _ _ _ => pts_nil) (fun _ _ _ _ _ => (@cc _ _ _ _ _ _ _ _ _ _ (by exact C_parted) (by exact (hr.mono (by decide))) (@pa_consN _ _ _ _ _ (@cc _ _ _ _ _ _ _ _ _ _ (by exact C_sets) (by exact (hr.mono (by decide))) (@pa_consN _ _ _ _ _ (pv 0) (@pa_consN _ _ _ _ _ (@pe_op _ _ _ _ _ _ _ _ op_sub (pv 1) pe_int) pa_nil (by first | rfl | decide | exact Or.inl rfl | exact Or.inr rfl | (intro _; rfl) | (intro _ _; rfl) | (intro _ _ _; rfl))) (by first | rfl | decide | exact Or.inl rfl | exact Or.inr rfl | (intro _; rfl) | (intro _ _; rfl) | (intro _ _ _; rfl))) (by first | rfl | decide | exact Or.inl rfl | exact Or.inr rfl | (intro _; rfl) | (intro _ _; rfl) | (intro _ _ _; rfl)) (by first | rfl | decide | exact Or.inl rfl | exact Or.inr rfl | (intro _; rfl) | (intro _ _; rfl) | (intro _ _ _; rfl)) (by first | rfl | decide | exact Or.inl rfl | exact Or.inr rfl | (intro _; rfl) | (intro _ _; rfl) | (intro _ _ _; rfl)) (by first | rfl | decide | exact Or.inl rfl | exact Or.inr rfl | (intro _; rfl) | (intro _ _; rfl) | (intro _ _ _; rfl))) (@pa_consN _ _ _ _ _ (@pe_lst _ _ _ _ (@pa_consN _ _ _ _ _ (@cc _ _ _ _ _ _ _ _ _ _ (by exact C_sets) (by exact (hr.mono (by decide))) (@pa_consN _ _ _ _ _ (pv 2) (@pa_consN _ _ _ _ _ (pv 1) pa_nil (by first | rfl | decide | exact Or.inl rfl | exact Or.inr rfl | (intro _; rfl) | (intro _ _; rfl) | (intro _ _ _; rfl))) (by first | rfl | decide | exact Or.inl rfl | exact Or.inr rfl | (intro _; rfl) | (intro _ _; rfl) | (intro _ _ _; rfl))) (by first | rfl | decide | exact Or.inl rfl | exact Or.inr rfl | (intro _; rfl) | (intro _ _; rfl) | (intro _ _ _; rfl)) (by first | rfl | decide | exact Or.inl rfl | exact Or.inr rfl | (intro _; rfl) | (intro _ _; rfl) | (intro _ _ _; rfl)) (by first | rfl | decide | exact Or.inl rfl | exact Or.inr rfl | (intro _; rfl) | (intro _ _; rfl) | (intro _ _ _; rfl)) (by first | rfl | decide | exact Or.inl rfl | exact Or.inr rfl | (intro _; rfl) | (intro _ _; rfl) | (intro _ _ _; rfl))) pa_nil (by first | rfl | decide | exact Or.inl rfl | exact Or.inr rfl | (intro _; rfl) | (intro _ _; rfl) | (intro _ _ _; rfl)))) pa_nil (by first | rfl | decide | exact Or.inl rfl | exact Or.inr rfl | (intro _; rfl) | (intro _ _; rfl) | (intro _ _ _; rfl))) (by first | rfl | decide | exact Or.inl rfl | exact Or.inr rfl | (intro _; rfl) | (intro _ _; rfl) | (intro _ _ _; rfl))) (by first | rfl | decide | exact Or.inl rfl | exact Or.inr rfl | (intro _; rfl) | (intro _ _; rfl) | (intro _ _ _; rfl)) (by first | rfl | decide | exact Or.inl rfl | exact Or.inr rfl | (intro _; rfl) | (intro _ _; rfl) | (intro _ _ _; rfl)) (by first | rfl | decide | exact Or.inl rfl | exact Or.inr rfl | (intro _; rfl) | (intro _ _; rfl) | (intro _ _ _; rfl)) (by first | rfl | decide | exact Or.inl rfl | exact Or.inr rfl | (intro _; rfl) | (intro _ _; rfl) | (intro _ _ _; rfl)))) (by first | rfl | decide | exact Or.inl rfl | exact Or.inr rfl | (intro _; rfl) | (intro _ _; rfl) | (intro _ _ _; rfl))) pa_nil (by first | rfl | decide | exact Or.inl rfl | exact Or.inr rfl | (intro _; rfl) | (intro _ _; rfl) | (intro _ _ _; rfl))) (by first | rfl | decide | exact Or.inl rfl | exact Or.inr rfl | (intro _; rfl) | (intro _ _; rfl) | (intro _ _ _; rfl)) (by first | rfl | decide | exact Or.inl rfl | exact Or.inr rfl | (intro _; rfl) | (intro _ _; rfl) | (intro _ _ _; rfl)) (by first | rfl | decide | exact Or.inl rfl | exact Or.inr rfl | (intro _; rfl) | (intro _ _; rfl) | (intro _ _ _; rfl)) (by first | rfl | decide | exact Or.inl rfl | exact Or.inr rfl | (intro _; rfl) | (intro _ _; rfl) | (intro _ _ _; rfl))))), ?_⟩
  refine ⟨_, rfl, n, rfl, by omega, by omega, comp_rng (n := n.toNat) (lo := 0) (fs := [some (.int k), some (.int n)]) (fun acc i ys H' => Same H H' ∧ Prs H' ys ((List.range i).map fun (r : Nat) => partedF (setsF (r : Int) (k - 1).toNat) [setsF n k.toNat])) (by omega) ?_ ?_ ?_⟩
  · intro acc hacc
    exact ⟨same_new hacc _, .nil⟩
  · rintro acc i ys H' hacc hi hl ⟨s', h'⟩ hH' Q' hQ
    refine ⟨_, rfl, _, rfl, _, _, rfl, rfl, _, _, rfl, by omega, by omega, by omega, by omega, _, rfl, _, rfl, _, _, rfl, by omega, by omega, by omega, by omega, lz 1 rfl, fun l1 hl1 => ?_⟩
    have s1 := same_new hl1 (.lst [.int (setsF n k.toNat)])
    refine ⟨_, l1, [setsF n k.toNat], rfl, upd_same, fun b hb => ?_, fun v H3 s3 h3 => ?_⟩
    · have e : b = setsF n k.toNat := by simpa using hb
      have := sets_pos n.toNat (by omega) k.toNat (by omega) (by omega)
      rw [show ((n.toNat : Nat) : Int) = n by omega] at this
      rw [e]; exact this
    have s13 := s1.trans s3
    have hH3 := s13 _ _ hH'
    refine hQ v H3 hH3 ⟨same_upd (s'.trans s13) hacc, ?_⟩
    rw [map_range_succ]
    have h3' := PrAt.updL (o := .lst (ys ++ [v])) hH3 h3
    rw [Int.zero_add] at h3'
    exact Prs.snoc h3' ((h'.same s13).updL hH3)
  rintro acc ys H' hacc ⟨s', h'⟩ hH' hl
  refine ⟨acc, ys, rfl, .inl ⟨SqL.of hH', fun t ht => ?_⟩⟩
  exact q t ys _ (s'.trans (same_new ht _)) upd_same (h'.same (same_new ht _))
end
end My

set_option Elab.async false
set_option linter.all false
set_option maxRecDepth 100000
set_option maxHeartbeats 4000000
namespace My
open PySem L2 MA
/-! a pen that is a list, whose cells are the script itself -/
def PenZ (K : PySem.W.Frag) (H : Hp) (p : Addr) (n : Nat) : Prop := ∃ (c : Addr) (ns : List Int) (a l : Int), H p = some (.lst (penV c a l)) ∧ SqL K H c (ns.map V.int) ∧ 0 ≤ a ∧ a ≤ n
theorem PenZ.mono {K : PySem.W.Frag} {H : Hp} {p : Addr} {m n : Nat} (h : PenZ K H p m) (l : m ≤ n) : PenZ K H p n := let ⟨c, ns, a, x, h1, h2, h3, h4⟩ := h; ⟨c, ns, a, x, h1, h2, h3, by omega⟩
theorem PenZ.same {K : PySem.W.Frag} {H H' : Hp} {p : Addr} {n : Nat} (h : PenZ K H p n) (s : Same H H') : PenZ K H' p n := let ⟨c, ns, a, x, h1, h2, h3, h4⟩ := h; ⟨c, ns, a, x, s _ _ h1, s.seq h2, h3, h4⟩
theorem not_pen {c : Addr} {a l : Int} {ns : List Int} (h : penV c a l = ns.map V.int) : False := by
  cases ns with
  | nil => cases h
  | cons x r => cases h
theorem sq_ne {K : PySem.W.Frag} {H : Hp} {p c c' : Addr} {ns : List Int} {a l : Int} (h : SqL K H c (ns.map V.int)) (hp : H p = some (.lst (penV c' a l))) : (∃ o, H c = some o ∧ c ≠ p ∧ ∀ H', H' c = some o → SqL K H' c (ns.map V.int)) ∨ ∀ H', SqL K H' c (ns.map V.int) := by
  rcases h with (h | ⟨ob, h⟩) | h
  · refine .inl ⟨_, h, fun z => ?_, fun H' e => .inl (.inl e)⟩
    rw [z, hp] at h
    exact not_pen (HO.lst.inj (Option.some.inj h))
  · refine .inl ⟨_, h, fun z => ?_, fun H' e => .inl (.inr ⟨ob, e⟩)⟩
    rw [z, hp] at h
    cases h
  · exact .inr fun H' => .inr h
theorem sq_pen {K : PySem.W.Frag} {H : Hp} {p c c' : Addr} {ns : List Int} {a l : Int} {o : HO} (h : SqL K H c (ns.map V.int)) (hp : H p = some (.lst (penV c' a l))) : SqL K (upd H p o) c (ns.map V.int) := by
  rcases sq_ne h hp with ⟨o', e, ne, f⟩ | f
  · exact f _ (by rw [upd_ne ne]; exact e)
  · exact f _
def spTakeZ (K : PySem.W.Frag) : Sp := fun vs H Q _ => ∃ (p : Addr) (m : Int) (n : Nat), vs = [.ref p, .int m] ∧ PenZ K H p n ∧ n < 100000 ∧ 0 < m ∧ m < 1073741824 ∧ ∀ (r : Int) (H' : Hp), 0 ≤ r → r < m → PenZ K H' p (n + 1) → SameY p H H' → Q (.int r) H'
def spPenZ (K : PySem.W.Frag) : Sp := fun vs H Q _ => ∃ (a : Addr) (ns : List Int), vs = [.ref a] ∧ SqL K H a (ns.map V.int) ∧ ∀ (p : Addr) (H' : Hp), Same H H' → PenZ K H' p 0 → Q (.ref p) H'
section
variable {P : Program} {w : World} {K : PySem.W.Frag} {mg : Str → Option Value} {base : Heap}
theorem ok_penZ (F : FunAt K mg "_law_pen" ["_law_script"] s_l_pen) : Cal P w K mg base "_law_pen" ["_law_script"] 1 (spPenZ K) := by
  have S := sc_l_pen
  refine F.cal sc_l_pen (fun vs H Q E h => ?_) (fun f cdv A outer s H vs Q E hr h => ?_)
  · obtain ⟨a, ns, rfl, _⟩ := h; rfl
  obtain ⟨a, ns, rfl, ha, k⟩ := h
  refine ⟨_, (@pss_one _ _ _ (@ps_ret _ _ _ _ (@pe_lst _ _ _ _ (@pa_consN _ _ _ _ _ (pv 0) (@pa_consN _ _ _ _ _ pe_int (@pa_consN _ _ _ _ _ pe_int pa_nil (by first | rfl | decide | exact Or.inl rfl | exact Or.inr rfl | (intro _; rfl) | (intro _ _; rfl) | (intro _ _ _; rfl))) (by first | rfl | decide | exact Or.inl rfl | exact Or.inr rfl | (intro _; rfl) | (intro _ _; rfl) | (intro _ _ _; rfl))) (by first | rfl | decide | exact Or.inl rfl | exact Or.inr rfl | (intro _; rfl) | (intro _ _; rfl) | (intro _ _ _; rfl)))))), ?_⟩
  refine ⟨_, rfl, lz 3 rfl, fun p hp => ?_⟩
  have s1 := same_new hp (.lst [.ref a, .int 0, .int 0])
  exact k p _ s1 ⟨a, ns, 0, 0, upd_same, s1.seq ha, by omega, by omega⟩
theorem ok_take (T : Txt mg) (F : FunAt K mg "_law_take" ["_law_pen_here", "_law_many"] s_l_take) : Cal P w K mg base "_law_take" ["_law_pen_here", "_law_many"] 1 (spTakeZ K) := by
  have S := sc_l_take
  refine F.cal sc_l_take (fun vs H Q E h => ?_) (fun f cdv A outer s H vs Q E hr h => ?_)
  · obtain ⟨p, m, n, rfl, _⟩ := h; rfl
  obtain ⟨p, m, n, rfl, ⟨c, ns, a, l, hp, hc, ha0, han⟩, hn, hm, hm2, k⟩ := h
  refine ⟨_, (@pss_cons _ _ _ _ _ (@ps_if _ _ _ _ _ _ _ _ (@pt_cmpR _ _ _ _ _ _ _ _ op_gt (@pe_ix _ _ _ _ _ _ _ ix_list (pv 0) pe_int (by exact (fun _ _ => rfl))) pe_int (by exact (nomark _))) (@pss_cons _ _ _ _ _ (@ps_set _ _ (6) _ _ _ _ (by exact S.nd) (by rfl) (by first | exact Or.inl rfl | exact Or.inr rfl) (@pe_op _ _ _ _ _ _ _ _ op_mod (@pe_ix _ _ _ _ _ _ _ ix_list (pv 0) pe_int (by exact (fun _ _ => rfl))) (pv 1)) (by first | rfl | decide | exact Or.inl rfl | exact Or.inr rfl | (intro _; rfl) | (intro _ _; rfl) | (intro _ _ _; rfl)) (by first | rfl | decide | exact Or.inl rfl | exact Or.inr rfl | (intro _; rfl) | (intro _ _; rfl) | (intro _ _ _; rfl))) (@pss_cons _ _ _ _ _ (@ps_asg _ _ _ _ _ _ (@pe_op _ _ _ _ _ _ _ _ op_fdiv (@pe_ix _ _ _ _ _ _ _ ix_list (pv 0) pe_int (by exact (fun _ _ => rfl))) (pv 1)) (@pg_sub _ _ _ _ _ _ _ (pv 0) pe_int set_list (by first | rfl | decide | exact Or.inl rfl | exact Or.inr rfl | (intro _; rfl) | (intro _ _; rfl) | (intro _ _ _; rfl))) (by first | rfl | decide | exact Or.inl rfl | exact Or.inr rfl | (intro _; rfl) | (intro _ _; rfl) | (intro _ _ _; rfl)) (by first | rfl | decide | exact Or.inl rfl | exact Or.inr rfl | (intro _; rfl) | (intro _ _; rfl) | (intro _ _ _; rfl)) (by first | rfl | decide | exact Or.inl rfl | exact Or.inr rfl | (intro _; rfl) | (intro _ _; rfl) | (intro _ _ _; rfl))) (@pss_one _ _ _ (@ps_ret _ _ _ _ (pv 6))))) pss_nil) (@pss_cons _ _ _ _ _ (@ps_set _ _ (2) _ _ _ _ (by exact S.nd) (by rfl) (by first | exact Or.inl rfl | exact Or.inr rfl) (@pe_ix _ _ _ _ _ _ _ ix_list (pv 0) pe_int (by exact (fun _ _ => rfl))) (by first | rfl | decide | exact Or.inl rfl | exact Or.inr rfl | (intro _; rfl) | (intro _ _; rfl) | (intro _ _ _; rfl)) (by first | rfl | decide | exact Or.inl rfl | exact Or.inr rfl | (intro _; rfl) | (intro _ _; rfl) | (intro _ _ _; rfl))) (@pss_cons _ _ _ _ _ (@ps_asg _ _ _ _ _ _ (@pe_op _ _ _ _ _ _ _ _ op_add (pv 2) pe_int) (@pg_sub _ _ _ _ _ _ _ (pv 0) pe_int set_list (by first | rfl | decide | exact Or.inl rfl | exact Or.inr rfl | (intro _; rfl) | (intro _ _; rfl) | (intro _ _ _; rfl))) (by first | rfl | decide | exact Or.inl rfl | exact Or.inr rfl | (intro _; rfl) | (intro _ _; rfl) | (intro _ _ _; rfl)) (by first | rfl | decide | exact Or.inl rfl | exact Or.inr rfl | (intro _; rfl) | (intro _ _; rfl) | (intro _ _ _; rfl)) (by first | rfl | decide | exact Or.inl rfl | exact Or.inr rfl | (intro _; rfl) | (intro _ _; rfl) | (intro _ _ _; rfl))) (@pss_cons _ _ _ _ _ (@ps_set _ _ (3) _ _ _ _ (by exact S.nd) (by rfl) (by first | exact Or.inl rfl | exact Or.inr rfl) (@pe_op _ _ _ _ _ _ _ _ op_add (@pe_op _ _ _ _ _ _ _ _ op_mul pe_int (pv 2)) pe_int) (by first | rfl | decide | exact Or.inl rfl | exact Or.inr rfl | (intro _; rfl) | (intro _ _; rfl) | (intro _ _ _; rfl)) (by first | rfl | decide | exact Or.inl rfl | exact Or.inr rfl | (intro _; rfl) | (intro _ _; rfl) | (intro _ _ _; rfl))) (@pss_cons _ _ _ _ _ (@ps_if _ _ _ _ _ _ _ _ (@pt_cmpR _ _ _ _ _ _ _ _ op_gt (@pe_callB _ _ _ _ _ _ _ _ _ call_len_seq (by rfl) (by exact T.z_len) (by exact bt_len) (@pa_consN _ _ _ _ _ (@pe_ix _ _ _ _ _ _ _ ix_list (pv 0) pe_int (by exact (fun _ _ => rfl))) pa_nil (by first | rfl | decide | exact Or.inl rfl | exact Or.inr rfl | (intro _; rfl) | (intro _ _; rfl) | (intro _ _ _; rfl))) (by first | rfl | decide | exact Or.inl rfl | exact Or.inr rfl | (intro _; rfl) | (intro _ _; rfl) | (intro _ _ _; rfl)) (by first | rfl | decide | exact Or.inl rfl | exact Or.inr rfl | (intro _; rfl) | (intro _ _; rfl) | (intro _ _ _; rfl)) (by first | rfl | decide | exact Or.inl rfl | exact Or.inr rfl | (intro _; rfl) | (intro _ _; rfl) | (intro _ _ _; rfl)) (by first | rfl | decide | exact Or.inl rfl | exact Or.inr rfl | (intro _; rfl) | (intro _ _; rfl) | (intro _ _ _; rfl))) pe_int (by exact (nomark _))) (@pss_one _ _ _ (@ps_set _ _ (3) _ _ _ _ (by exact S.nd) (by rfl) (by first | exact Or.inl rfl | exact Or.inr rfl) (@pe_ix _ _ _ _ _ _ _ ix_list (@pe_ix _ _ _ _ _ _ _ ix_list (pv 0) pe_int (by exact (fun _ _ => rfl))) (@pe_op _ _ _ _ _ _ _ _ op_mod (pv 2) (@pe_callB _ _ _ _ _ _ _ _ _ call_len_seq (by rfl) (by exact T.z_len) (by exact bt_len) (@pa_consN _ _ _ _ _ (@pe_ix _ _ _ _ _ _ _ ix_list (pv 0) pe_int (by exact (fun _ _ => rfl))) pa_nil (by first | rfl | decide | exact Or.inl rfl | exact Or.inr rfl | (intro _; rfl) | (intro _ _; rfl) | (intro _ _ _; rfl))) (by first | rfl | decide | exact Or.inl rfl | exact Or.inr rfl | (intro _; rfl) | (intro _ _; rfl) | (intro _ _ _; rfl)) (by first | rfl | decide | exact Or.inl rfl | exact Or.inr rfl | (intro _; rfl) | (intro _ _; rfl) | (intro _ _ _; rfl)) (by first | rfl | decide | exact Or.inl rfl | exact Or.inr rfl | (intro _; rfl) | (intro _ _; rfl) | (intro _ _ _; rfl)) (by first | rfl | decide | exact Or.inl rfl | exact Or.inr rfl | (intro _; rfl) | (intro _ _; rfl) | (intro _ _ _; rfl)))) (by exact (fun _ _ => rfl))) (by first | rfl | decide | exact Or.inl rfl | exact Or.inr rfl | (intro _; rfl) | (intro _ _; rfl) | (intro _ _ _; rfl)) (by first | rfl | decide | exact Or.inl rfl | exact Or.inr rfl | (intro _; rfl) | (intro _ _; rfl) | (intro _ _ _; rfl)))) pss_nil) (@pss_cons _ _ _ _ _ (@ps_if _ _ _ _ _ _ _ _ (@PW.pt _ _ _ (@pw_and _ _ _ _ _ _ _ (@pt_cmpR _ _ _ _ _ _ _ _ op_lt (pv 2) (@pe_callB _ _ _ _ _ _ _ _ _ call_len_seq (by rfl) (by exact T.z_len) (by exact bt_len) (@pa_consN _ _ _ _ _ (@pe_ix _ _ _ _ _ _ _ ix_list (pv 0) pe_int (by exact (fun _ _ => rfl))) pa_nil (by first | rfl | decide | exact Or.inl rfl | exact Or.inr rfl | (intro _; rfl) | (intro _ _; rfl) | (intro _ _ _; rfl))) (by first | rfl | decide | exact Or.inl rfl | exact Or.inr rfl | (intro _; rfl) | (intro _ _; rfl) | (intro _ _ _; rfl)) (by first | rfl | decide | exact Or.inl rfl | exact Or.inr rfl | (intro _; rfl) | (intro _ _; rfl) | (intro _ _ _; rfl)) (by first | rfl | decide | exact Or.inl rfl | exact Or.inr rfl | (intro _; rfl) | (intro _ _; rfl) | (intro _ _ _; rfl)) (by first | rfl | decide | exact Or.inl rfl | exact Or.inr rfl | (intro _; rfl) | (intro _ _; rfl) | (intro _ _ _; rfl))) (by exact (nomark _))) (@pw_and1 _ _ _ _ (@pt_cmpR _ _ _ _ _ _ _ _ op_ge (@pe_callB _ _ _ _ _ _ _ _ _ call_abs (by rfl) (by exact T.z_abs) (by exact bt_abs) (@pa_consN _ _ _ _ _ (pv 3) pa_nil (by first | rfl | decide | exact Or.inl rfl | exact Or.inr rfl | (intro _; rfl) | (intro _ _; rfl) | (intro _ _ _; rfl))) (by first | rfl | decide | exact Or.inl rfl | exact Or.inr rfl | (intro _; rfl) | (intro _ _; rfl) | (intro _ _ _; rfl)) (by first | rfl | decide | exact Or.inl rfl | exact Or.inr rfl | (intro _; rfl) | (intro _ _; rfl) | (intro _ _ _; rfl)) (by first | rfl | decide | exact Or.inl rfl | exact Or.inr rfl | (intro _; rfl) | (intro _ _; rfl) | (intro _ _ _; rfl)) (by first | rfl | decide | exact Or.inl rfl | exact Or.inr rfl | (intro _; rfl) | (intro _ _; rfl) | (intro _ _ _; rfl))) (@pe_op _ _ _ _ _ _ _ _ op_pow pe_int pe_int) (by exact (nomark _)))))) (@pss_cons _ _ _ _ _ (@ps_asg _ _ _ _ _ _ (@pe_op _ _ _ _ _ _ _ _ op_fdiv (@pe_callB _ _ _ _ _ _ _ _ _ call_abs (by rfl) (by exact T.z_abs) (by exact bt_abs) (@pa_consN _ _ _ _ _ (pv 3) pa_nil (by first | rfl | decide | exact Or.inl rfl | exact Or.inr rfl | (intro _; rfl) | (intro _ _; rfl) | (intro _ _ _; rfl))) (by first | rfl | decide | exact Or.inl rfl | exact Or.inr rfl | (intro _; rfl) | (intro _ _; rfl) | (intro _ _ _; rfl)) (by first | rfl | decide | exact Or.inl rfl | exact Or.inr rfl | (intro _; rfl) | (intro _ _; rfl) | (intro _ _ _; rfl)) (by first | rfl | decide | exact Or.inl rfl | exact Or.inr rfl | (intro _; rfl) | (intro _ _; rfl) | (intro _ _ _; rfl)) (by first | rfl | decide | exact Or.inl rfl | exact Or.inr rfl | (intro _; rfl) | (intro _ _; rfl) | (intro _ _ _; rfl))) (pv 1)) (@pg_sub _ _ _ _ _ _ _ (pv 0) pe_int set_list (by first | rfl | decide | exact Or.inl rfl | exact Or.inr rfl | (intro _; rfl) | (intro _ _; rfl) | (intro _ _ _; rfl))) (by first | rfl | decide | exact Or.inl rfl | exact Or.inr rfl | (intro _; rfl) | (intro _ _; rfl) | (intro _ _ _; rfl)) (by first | rfl | decide | exact Or.inl rfl | exact Or.inr rfl | (intro _; rfl) | (intro _ _; rfl) | (intro _ _ _; rfl)) (by first | rfl | decide | exact Or.inl rfl | exact Or.inr rfl | (intro _; rfl) | (intro _ _; rfl) | (intro _ _ _; rfl))) (@pss_one _ _ _ (@ps_ret _ _ _ _ (@pe_op _ _ _ _ _ _ _ _ op_mod (@pe_callB _ _ _ _ _ _ _ _ _ call_abs (by rfl) (by exact T.z_abs) (by exact bt_abs) (@pa_consN _ _ _ _ _ (pv 3) pa_nil (by first | rfl | decide | exact Or.inl rfl | exact Or.inr rfl | (intro _; rfl) | (intro _ _; rfl) | (intro _ _ _; rfl))) (by first | rfl | decide | exact Or.inl rfl | exact Or.inr rfl | (intro _; rfl) | (intro _ _; rfl) | (intro _ _ _; rfl)) (by first | rfl | decide | exact Or.inl rfl | exact Or.inr rfl | (intro _; rfl) | (intro _ _; rfl) | (intro _ _ _; rfl)) (by first | rfl | decide | exact Or.inl rfl | exact Or.inr rfl | (intro _; rfl) | (intro _ _; rfl) | (intro _ _ _; rfl)) (by first | rfl | decide | exact Or.inl rfl | exact Or.inr rfl | (intro _; rfl) | (intro _ _; rfl) | (intro _ _ _; rfl))) (pv 1))))) pss_nil) (@pss_cons _ _ _ _ _ (@ps_set _ _ (4) _ _ _ _ (by exact S.nd) (by rfl) (by first | exact Or.inl rfl | exact Or.inr rfl) (@pe_ix _ _ _ _ _ _ _ ix_tup (@pe_tup _ _ _ _ _ (@pa_consN _ _ _ _ _ pe_int (@pa_consN _ _ _ _ _ pe_int (@pa_consN _ _ _ _ _ pe_int (@pa_consN _ _ _ _ _ pe_int (@pa_consN _ _ _ _ _ pe_int (@pa_consN _ _ _ _ _ pe_int (@pa_consN _ _ _ _ _ pe_int pa_nil (by first | rfl | decide | exact Or.inl rfl | exact Or.inr rfl | (intro _; rfl) | (intro _ _; rfl) | (intro _ _ _; rfl))) (by first | rfl | decide | exact Or.inl rfl | exact Or.inr rfl | (intro _; rfl) | (intro _ _; rfl) | (intro _ _ _; rfl))) (by first | rfl | decide | exact Or.inl rfl | exact Or.inr rfl | (intro _; rfl) | (intro _ _; rfl) | (intro _ _ _; rfl))) (by first | rfl | decide | exact Or.inl rfl | exact Or.inr rfl | (intro _; rfl) | (intro _ _; rfl) | (intro _ _ _; rfl))) (by first | rfl | decide | exact Or.inl rfl | exact Or.inr rfl | (intro _; rfl) | (intro _ _; rfl) | (intro _ _ _; rfl))) (by first | rfl | decide | exact Or.inl rfl | exact Or.inr rfl | (intro _; rfl) | (intro _ _; rfl) | (intro _ _ _; rfl))) (by first | rfl | decide | exact Or.inl rfl | exact Or.inr rfl | (intro _; rfl) | (intro _ _; rfl) | (intro _ _ _; rfl)))) (@pe_op _ _ _ _ _ _ _ _ op_mod (pv 2) pe_int) (by exact (fun _ _ => rfl))) (by first | rfl | decide | exact Or.inl rfl | exact Or.inr rfl | (intro _; rfl) | (intro _ _; rfl) | (intro _ _ _; rfl)) (by first | rfl | decide | exact Or.inl rfl | exact Or.inr rfl | (intro _; rfl) | (intro _ _; rfl) | (intro _ _ _; rfl))) (@pss_cons _ _ _ _ _ (@ps_set _ _ (5) _ _ _ _ (by exact S.nd) (by rfl) (by first | exact Or.inl rfl | exact Or.inr rfl) (@pe_op _ _ _ _ _ _ _ _ op_mod (@pe_op _ _ _ _ _ _ _ _ op_pow (@pe_op _ _ _ _ _ _ _ _ op_add (@pe_op _ _ _ _ _ _ _ _ op_mul (@pe_op _ _ _ _ _ _ _ _ op_mod (pv 3) (pv 4)) (@pe_op _ _ _ _ _ _ _ _ op_add (@pe_op _ _ _ _ _ _ _ _ op_mul pe_int (pv 2)) pe_int)) (pv 2)) pe_int) (pv 4)) (by first | rfl | decide | exact Or.inl rfl | exact Or.inr rfl | (intro _; rfl) | (intro _ _; rfl) | (intro _ _ _; rfl)) (by first | rfl | decide | exact Or.inl rfl | exact Or.inr rfl | (intro _; rfl) | (intro _ _; rfl) | (intro _ _ _; rfl))) (@pss_cons _ _ _ _ _ (@ps_set _ _ (5) _ _ _ _ (by exact S.nd) (by rfl) (by first | exact Or.inl rfl | exact Or.inr rfl) (@pe_op _ _ _ _ _ _ _ _ op_mod (@pe_op _ _ _ _ _ _ _ _ op_add (@pe_op _ _ _ _ _ _ _ _ op_mul (pv 5) (@pe_op _ _ _ _ _ _ _ _ op_add (@pe_op _ _ _ _ _ _ _ _ op_add (@pe_op _ _ _ _ _ _ _ _ op_mod (pv 5) pe_int) (pv 2)) pe_int)) (@pe_op _ _ _ _ _ _ _ _ op_mod (pv 3) pe_int)) pe_int) (by first | rfl | decide | exact Or.inl rfl | exact Or.inr rfl | (intro _; rfl) | (intro _ _; rfl) | (intro _ _ _; rfl)) (by first | rfl | decide | exact Or.inl rfl | exact Or.inr rfl | (intro _; rfl) | (intro _ _; rfl) | (intro _ _ _; rfl))) (@pss_one _ _ _ (@ps_ret _ _ _ _ (@pe_op _ _ _ _ _ _ _ _ op_mod (@pe_op _ _ _ _ _ _ _ _ op_fdiv (pv 5) pe_int) (pv 1))))))))))))), ?_⟩
  apply joinI1 (C := fun (x : Int) (H' : Hp) => PenZ K H' p (n + 1) ∧ SameY p H H')
  case main =>
    intro key
    refine ⟨_, rfl, p, _, _, _, rfl, rfl, SqL.of hp, rfl, _, _, rfl, rfl, _, rfl, ?_⟩
    refine ite2 (fun _ => ?_) (fun _ => ?_)
    · refine ⟨_, rfl, p, _, _, _, rfl, rfl, SqL.of hp, rfl, _, rfl, _, _, rfl, rfl, hm, ?_⟩
      refine ⟨_, rfl, p, _, _, _, rfl, rfl, SqL.of hp, rfl, _, rfl, _, _, rfl, rfl, ⟨hm, hm2⟩, _, rfl, p, _, _, _, rfl, rfl, hp, rfl, ?_⟩
      refine ⟨_, rfl, ?_⟩
      exact k _ _ (Int.emod_nonneg _ (by omega)) (Int.emod_lt_of_pos _ hm) ⟨c, ns, a, _, upd_same, sq_pen hc hp, ha0, by omega⟩ (SameY.upd hp)
    refine ⟨_, rfl, p, _, _, _, rfl, rfl, SqL.of hp, rfl, ?_⟩
    refine ⟨_, rfl, _, _, rfl, rfl, _, rfl, p, _, _, _, rfl, rfl, hp, rfl, ?_⟩
    have hp1 : (upd H p (.lst (penV c (a + 1) l))) p = some (.lst (penV c (a + 1) l)) := upd_same
    have hc1 : SqL K (upd H p (.lst (penV c (a + 1) l))) c (ns.map V.int) := sq_pen hc hp
    have x1 : SameY p H (upd H p (.lst (penV c (a + 1) l))) := SameY.upd hp
    have es : (penV c a l).set (Int.toNat 1) (V.int (a + 1)) = penV c (a + 1) l := rfl
    rw [es]
    generalize upd H p (.lst (penV c (a + 1) l)) = H1 at hp1 hc1 x1
    have pen1 : PenZ K H1 p (n + 1) := ⟨c, ns, a + 1, l, hp1, hc1, by omega, by omega⟩
    have ha1 : a ≤ 100000 := by omega
    refine ⟨_, rfl, _, _, rfl, rfl, .inl ⟨by decide, by decide⟩, _, _, rfl, rfl, ?_⟩
    refine ⟨_, rfl, p, _, _, _, rfl, rfl, SqL.of hp1, rfl, c, _, rfl, .inl (hc1), _, _, rfl, rfl, _, rfl, ?_⟩
    refine ite2 (fun c0 => ?_) (fun c0 => ?_)
    · have hl : 0 < ns.length := by
        have : (0 : Int) < (((ns.map V.int).length : Nat) : Int) := of_decide_eq_true c0
        rw [List.length_map] at this
        omega
      obtain ⟨z, hz⟩ := cell_at (ns := ns) a hl
      refine ⟨_, rfl, p, _, _, _, rfl, rfl, SqL.of hp1, rfl, _, rfl, _, rfl, p, _, _, _, rfl, rfl, SqL.of hp1, rfl, c, _, rfl, .inl (hc1), _, _, rfl, rfl, (by rw [List.length_map]; omega), c, _, _, _, rfl, rfl, hc1, hz, ?_⟩
      refine ⟨_, rfl, _, rfl, p, _, _, _, rfl, rfl, SqL.of hp1, rfl, c, _, rfl, .inl (hc1), _, _, rfl, rfl, _, rfl, ?_⟩
      refine ite2 (fun c1 => ?_) (fun c1 => iteF ?_)
      · refine ⟨_, rfl, _, rfl, _, _, rfl, rfl, ⟨by decide, by decide, by decide⟩, _, _, rfl, rfl, _, rfl, ?_⟩
        refine ite2 (fun c2 => ?_) (fun c2 => ?_)
        · refine ⟨_, rfl, _, rfl, _, rfl, _, _, rfl, rfl, ⟨hm, hm2⟩, _, rfl, p, _, _, _, rfl, rfl, hp1, rfl, ?_⟩
          refine ⟨_, rfl, _, rfl, _, rfl, _, _, rfl, rfl, hm, ?_⟩
          exact k _ _ (Int.emod_nonneg _ (by omega)) (Int.emod_lt_of_pos _ hm) ⟨c, ns, a + 1, _, upd_same, sq_pen hc1 hp1, by omega, by omega⟩ (x1.trans (SameY.upd hp1))
        · exact key z H1 ⟨pen1, x1⟩
      · exact key z H1 ⟨pen1, x1⟩
    · refine ⟨_, rfl, _, rfl, p, _, _, _, rfl, rfl, SqL.of hp1, rfl, c, _, rfl, .inl (hc1), _, _, rfl, rfl, _, rfl, ?_⟩
      refine ite2 (fun c1 => ?_) (fun c1 => iteF ?_)
      · exfalso
        have e1 : ¬ (0 : Int) < (((ns.map V.int).length : Nat) : Int) := by simpa using c0
        have e2 : a < (((ns.map V.int).length : Nat) : Int) := of_decide_eq_true c1
        omega
      · exact key (13 * a + 7) H1 ⟨pen1, x1⟩
  case key =>
    rintro x H' ⟨pen1, x1⟩
    have a1 : a ≤ 100000 := by omega
    obtain ⟨pr, hpr, pr0, pr1⟩ : ∃ pr : Int, atI ([.int 2147483629, .int 2147483587, .int 2147483647, .int 2147483563, .int 2147483579, .int 2147483543, .int 2147483549] : List V) (a % 7) = some (.int pr) ∧ 0 < pr ∧ pr ≤ 2147483647 := by
      rcases (show a % 7 = 0 ∨ a % 7 = 1 ∨ a % 7 = 2 ∨ a % 7 = 3 ∨ a % 7 = 4 ∨ a % 7 = 5 ∨ a % 7 = 6 by omega) with e | e | e | e | e | e | e <;> rw [e]
      · exact ⟨2147483629, rfl, by decide, by decide⟩
      · exact ⟨2147483587, rfl, by decide, by decide⟩
      · exact ⟨2147483647, rfl, by decide, by decide⟩
      · exact ⟨2147483563, rfl, by decide, by decide⟩
      · exact ⟨2147483579, rfl, by decide, by decide⟩
      · exact ⟨2147483543, rfl, by decide, by decide⟩
      · exact ⟨2147483549, rfl, by decide, by decide⟩
    refine ⟨lz 7 rfl, fun t ht => ⟨_, rfl, _, _, rfl, rfl, (show (0 : Int) < 7 by decide), t, _, _, _, rfl, rfl, SqT.of upd_same, hpr, ?_⟩⟩
    have st := same_new ht (.tup [.int 2147483629, .int 2147483587, .int 2147483647, .int 2147483563, .int 2147483579, .int 2147483543, .int 2147483549])
    have e0 := Int.emod_nonneg x (show pr ≠ 0 by omega)
    have e1 := Int.emod_lt_of_pos x pr0
    have b0 : 0 ≤ x % pr * (2 * a + 5) + a := by have := Int.mul_nonneg e0 (show 0 ≤ 2 * a + 5 by omega); omega
    have b1 : x % pr * (2 * a + 5) + a < 2 ^ 60 := by
      have := Int.mul_le_mul (show x % pr ≤ 2147483647 by omega) (show 2 * a + 5 ≤ 200005 by omega) (by omega) (by decide)
      omega
    refine ⟨_, rfl, _, rfl, _, _, rfl, rfl, pr0, _, rfl, _, _, rfl, rfl, .inl ⟨by decide, by decide⟩, _, _, rfl, rfl, _, _, rfl, rfl, .inl ⟨by omega, by omega⟩, _, rfl, _, _, rfl, rfl, _, _, rfl, rfl, ?cp, _, rfl, _, _, rfl, rfl, pr0, ?_⟩
    case cp => exact ⟨by decide, by decide, by omega⟩
    have w0 := Int.emod_nonneg ((x % pr * (2 * a + 5) + a) ^ Int.toNat 5) (show pr ≠ 0 by omega)
    have w1 := Int.emod_lt_of_pos ((x % pr * (2 * a + 5) + a) ^ Int.toNat 5) pr0
    dsimp only
    generalize (x % pr * (2 * a + 5) + a) ^ Int.toNat 5 % pr = y at w0 w1 ⊢
    have c0 := Int.emod_nonneg y (show (65519 : Int) ≠ 0 by decide)
    have c1 := Int.emod_lt_of_pos y (show (0 : Int) < 65519 by decide)
    refine ⟨_, rfl, _, rfl, _, _, rfl, rfl, (show (0 : Int) < 65519 by decide), _, rfl, _, _, rfl, rfl, _, _, rfl, rfl, _, _, rfl, rfl, .inl ⟨by omega, by omega⟩, _, rfl, _, _, rfl, rfl, (show (0 : Int) < 65521 by decide), _, _, rfl, rfl, _, _, rfl, rfl, (show (0 : Int) < 2147483489 by decide), ?_⟩
    refine ⟨_, rfl, _, _, rfl, rfl, ⟨by decide, by decide⟩, _, rfl, _, _, rfl, rfl, hm, ?_⟩
    exact k _ _ (Int.emod_nonneg _ (by omega)) (Int.emod_lt_of_pos _ hm) (pen1.same st) (x1.trans (Same.y st))
end
end My

set_option Elab.async false
set_option linter.all false
set_option maxRecDepth 100000
set_option maxHeartbeats 4000000
namespace My
open PySem L2 MA
theorem shUpdL {H : Hp} {l : Addr} {zs : List V} {o : HO} {v : V} {q : Rat} (hl : H l = some (.lst zs)) (h : ShAt H v q) : ShAt (upd H l o) v q := by
  obtain ⟨a, rfl, ha⟩ := h
  exact ⟨a, rfl, by rw [upd_ne (ne_of ha hl (by intro z; cases z))]; exact ha⟩
theorem Shs.updL {H : Hp} {l : Addr} {zs : List V} {o : HO} (hl : H l = some (.lst zs)) : ∀ {xs : List V} {qs : List Rat}, Shs H xs qs → Shs (upd H l o) xs qs
  | _, _, .nil => .nil
  | _, _, .cons r t => .cons (shUpdL hl r) (Shs.updL hl t)
theorem Shs.snoc {H : Hp} {v : V} {q : Rat} (h : ShAt H v q) : ∀ {xs : List V} {qs : List Rat}, Shs H xs qs → Shs H (xs ++ [v]) (qs ++ [q])
  | _, _, .nil => .cons h .nil
  | _, _, .cons r t => .cons r (Shs.snoc h t)
theorem Shs.length {H : Hp} {xs : List V} {qs : List Rat} (h : Shs H xs qs) : xs.length = qs.length := Paired.length h
theorem Shs.at {H : Hp} {xs : List V} {qs : List Rat} {i : Nat} {x : V} (h : Shs H xs qs) (e : xs[i]? = some x) : ∃ q, qs[i]? = some q ∧ ShAt H x q := Paired.at' h e
abbrev prq (q : Rat) : Int × Int := (q.num, (q.den : Int))
theorem shs_of : ∀ {H : Hp} {qs : List Rat} {xs : List V}, Prs H xs (qs.map prq) → Shs H xs qs
  | _, [], _, .nil => .nil
  | _, q :: qs, _, .cons r t => .cons r (shs_of t)
/-- a rule -/
def RuAt (H : Hp) (v : V) (qs : List Rat) : Prop := ∃ a xs, v = .ref a ∧ H a = some (.tup xs) ∧ Shs H xs qs
theorem RuAt.same {H H' : Hp} {v : V} {qs : List Rat} (h : RuAt H v qs) (s : Same H H') : RuAt H' v qs := let ⟨a, xs, e, h1, h2⟩ := h; ⟨a, xs, e, s _ _ h1, h2.same s⟩
def mixF (q : Rat) (a b : Rat) : Rat := q * a + (1 - q) * b
section
variable {P : Program} {w : World} {K : PySem.W.Frag} {mg : Str → Option Value} {base : Heap}
def spAsk1 (c2 : Addr) : Sp := fun vs H Q E => ∃ a b xs ys, vs = [.ref a, .ref b] ∧ H a = some (.tup xs) ∧ H b = some (.tup ys) ∧ (xs.length ≠ ys.length → E (.ref c2) none H) ∧ (xs.length = ys.length → Q .non H)
theorem ok_ask {er : Errs} (T : Txt2 mg) (N : ErrN mg er) (z2 : PySem.W.excIn K er.c2 bmVE "ValueError.__new__" = true) (F : FunAt K mg "ask_as_many" ["one", "other"] s_ask_as_many) : Cal1 P w K mg base "ask_as_many" ["one", "other"] 1 (spAsk1 er.c2) := by
  have S := sc_ask_as_many
  refine F.cal1 sc_ask_as_many (fun vs H Q E h => ?_) (fun f cdv A outer s H vs Q E hr h => ?_)
  · obtain ⟨a, b, xs, ys, rfl, _⟩ := h; rfl
  obtain ⟨a, b, xs, ys, rfl, ha, hb, hE, k⟩ := h
  refine ⟨_, (@pss_one _ _ _ (@ps_if _ _ _ _ _ _ _ _ (@pt_cmpR _ _ _ _ _ _ _ _ op_ne (@pe_callB _ _ _ _ _ _ _ _ _ call_len_seq (by rfl) (by exact T.z_len) (by exact bt_len) (@pa_consN _ _ _ _ _ (pv 0) pa_nil (by first | rfl | decide | exact Or.inl rfl | exact Or.inr rfl | (intro _; rfl) | (intro _ _; rfl) | (intro _ _ _; rfl))) (by first | rfl | decide | exact Or.inl rfl | exact Or.inr rfl | (intro _; rfl) | (intro _ _; rfl) | (intro _ _ _; rfl)) (by first | rfl | decide | exact Or.inl rfl | exact Or.inr rfl | (intro _; rfl) | (intro _ _; rfl) | (intro _ _ _; rfl)) (by first | rfl | decide | exact Or.inl rfl | exact Or.inr rfl | (intro _; rfl) | (intro _ _; rfl) | (intro _ _ _; rfl)) (by first | rfl | decide | exact Or.inl rfl | exact Or.inr rfl | (intro _; rfl) | (intro _ _; rfl) | (intro _ _ _; rfl))) (@pe_callB _ _ _ _ _ _ _ _ _ call_len_seq (by rfl) (by exact T.z_len) (by exact bt_len) (@pa_consN _ _ _ _ _ (pv 1) pa_nil (by first | rfl | decide | exact Or.inl rfl | exact Or.inr rfl | (intro _; rfl) | (intro _ _; rfl) | (intro _ _ _; rfl))) (by first | rfl | decide | exact Or.inl rfl | exact Or.inr rfl | (intro _; rfl) | (intro _ _; rfl) | (intro _ _ _; rfl)) (by first | rfl | decide | exact Or.inl rfl | exact Or.inr rfl | (intro _; rfl) | (intro _ _; rfl) | (intro _ _ _; rfl)) (by first | rfl | decide | exact Or.inl rfl | exact Or.inr rfl | (intro _; rfl) | (intro _ _; rfl) | (intro _ _ _; rfl)) (by first | rfl | decide | exact Or.inl rfl | exact Or.inr rfl | (intro _; rfl) | (intro _ _; rfl) | (intro _ _ _; rfl))) (by exact (nomark _))) (@pss_one _ _ _ (@ps_raise _ _ _ _ _ _ _ _ _ _ (by exact raises1) (by rfl) (by exact z2) (by rfl) (by exact N.m2) (@pa_consN _ _ _ _ _ pe_str pa_nil (by first | rfl | decide | exact Or.inl rfl | exact Or.inr rfl | (intro _; rfl) | (intro _ _; rfl) | (intro _ _ _; rfl))) (by first | rfl | decide | exact Or.inl rfl | exact Or.inr rfl | (intro _; rfl) | (intro _ _; rfl) | (intro _ _ _; rfl)) (by first | rfl | decide | exact Or.inl rfl | exact Or.inr rfl | (intro _; rfl) | (intro _ _; rfl) | (intro _ _ _; rfl)) (by first | rfl | decide | exact Or.inl rfl | exact Or.inr rfl | (intro _; rfl) | (intro _ _; rfl) | (intro _ _ _; rfl)))) pss_nil)), ?_⟩
  refine ⟨_, rfl, a, _, rfl, .inr (SqT.of ha), _, rfl, b, _, rfl, .inr (SqT.of hb), rfl, _, rfl, ?_⟩
  by_cases e : xs.length = ys.length
  · refine ite2 (fun c => absurd (congrArg (fun n : Nat => V.int n) e) (by simpa using c)) (fun _ => k e)
  · refine ite2 (fun _ => ⟨(by show 1 ≤ sizeLine; decide), hE e⟩) (fun c => absurd (V.int.inj (by simpa using c)) (by omega))
def spMixed1 (c2 : Addr) : Sp := fun vs H Q E => ∃ s o r q qs rs, vs = [s, o, r] ∧ ShAt H s q ∧ RuAt H o qs ∧ RuAt H r rs ∧ SB 30 q ∧ (∀ x ∈ qs, SB 1000 x) ∧ (∀ x ∈ rs, SB 1000 x) ∧ qs.length ≤ 100 ∧ (qs.length ≠ rs.length → E (.ref c2) none H) ∧
  (qs.length = rs.length → ∀ v H', Same H H' → RuAt H' v (List.zipWith (mixF q) qs rs) → Q v H')
def spMixed : Sp := fun vs H Q E => ∃ s o r q qs rs, vs = [s, o, r] ∧ ShAt H s q ∧ RuAt H o qs ∧ RuAt H r rs ∧ SB 30 q ∧ (∀ x ∈ qs, SB 1000 x) ∧ (∀ x ∈ rs, SB 1000 x) ∧ qs.length ≤ 100 ∧ qs.length = rs.length ∧
  (∀ v H', Same H H' → RuAt H' v (List.zipWith (mixF q) qs rs) → Q v H')
theorem mixed1_0 {c2 : Addr} : ∀ vs H Q E, spMixed vs H Q E → spMixed1 c2 vs H Q E0 := fun vs H Q E ⟨s, o, r, q, qs, rs, h1, h2, h3, h4, h5, h6, h7, h8, h9, h10⟩ => ⟨s, o, r, q, qs, rs, h1, h2, h3, h4, h5, h6, h7, h8, fun z => absurd h9 z, fun _ => h10⟩
theorem ok_mixed {er : Errs} (T : Txt2 mg) (C_ask_as_many : Cal1 P w K mg base "ask_as_many" ["one", "other"] 1 (spAsk1 er.c2)) (C_plus : Cal P w K mg base "plus" ["a", "b"] 2 spPlus) (C_minus : Cal P w K mg base "minus" ["a", "b"] 3 spMinus) (C_times : Cal P w K mg base "times" ["a", "b"] 3 spTimes)
    (F : FunAt K mg "mixed" ["share", "one", "other"] s_mixed) : Cal1 P w K mg base "mixed" ["share", "one", "other"] 4 (spMixed1 er.c2) := by
  have S := sc_mixed
  refine F.cal1 sc_mixed (fun vs H Q E h => ?_) (fun f cdv A outer s H vs Q E hr h => ?_)
  · obtain ⟨s, o, r, q, qs, rs, rfl, _⟩ := h; rfl
  obtain ⟨vs, vo, vr, q, qs, rs, rfl, hs, ⟨a, xs, rfl, ha, hxs⟩, ⟨b, ys, rfl, hb, hys⟩, bq, bqs, brs, hlen, hE, k⟩ := h
  refine ⟨_, (@pss_cons _ _ _ _ _ (@ps_expr _ _ _ _ (@cc1 _ _ _ _ _ _ _ _ _ _ _ (by exact passes1) (by exact C_ask_as_many) (by exact (hr.mono (by decide))) (@pa_consN _ _ _ _ _ (pv 1) (@pa_consN _ _ _ _ _ (pv 2) pa_nil (by first | rfl | decide | exact Or.inl rfl | exact Or.inr rfl | (intro _; rfl) | (intro _ _; rfl) | (intro _ _ _; rfl))) (by first | rfl | decide | exact Or.inl rfl | exact Or.inr rfl | (intro _; rfl) | (intro _ _; rfl) | (intro _ _ _; rfl))) (by first | rfl | decide | exact Or.inl rfl | exact Or.inr rfl | (intro _; rfl) | (intro _ _; rfl) | (intro _ _ _; rfl)) (by first | rfl | decide | exact Or.inl rfl | exact Or.inr rfl | (intro _; rfl) | (intro _ _; rfl) | (intro _ _ _; rfl)) (by first | rfl | decide | exact Or.inl rfl | exact Or.inr rfl | (intro _; rfl) | (intro _ _; rfl) | (intro _ _ _; rfl)) (by first | rfl | decide | exact Or.inl rfl | exact Or.inr rfl | (intro _; rfl) | (intro _ _; rfl) | (intro _ _ _; rfl))) (by first | rfl | decide | exact Or.inl rfl | exact Or.inr rfl | (intro _; rfl) | (intro _ _; rfl) | (intro _ _ _; rfl))) (@pss_cons _ _ _ _ _ (@ps_set _ _ (3) _ _ _ _ (by exact S.nd) (by rfl) (by first | exact Or.inl rfl | exact Or.inr rfl) (@cc _ _ _ _ _ _ _ _ _ _ (by exact C_minus) (by exact (hr.mono (by decide))) (@pa_consN _ _ _ _ _ (@pe_tup _ _ _ _ _ (@pa_consN _ _ _ _ _ pe_int (@pa_consN _ _ _ _ _ pe_int pa_nil (by first | rfl | decide | exact Or.inl rfl | exact Or.inr rfl | (intro _; rfl) | (intro _ _; rfl) | (intro _ _ _; rfl))) (by first | rfl | decide | exact Or.inl rfl | exact Or.inr rfl | (intro _; rfl) | (intro _ _; rfl) | (intro _ _ _; rfl)))) (@pa_consN _ _ _ _ _ (pv 0) pa_nil (by first | rfl | decide | exact Or.inl rfl | exact Or.inr rfl | (intro _; rfl) | (intro _ _; rfl) | (intro _ _ _; rfl))) (by first | rfl | decide | exact Or.inl rfl | exact Or.inr rfl | (intro _; rfl) | (intro _ _; rfl) | (intro _ _ _; rfl))) (by first | rfl | decide | exact Or.inl rfl | exact Or.inr rfl | (intro _; rfl) | (intro _ _; rfl) | (intro _ _ _; rfl)) (by first | rfl | decide | exact Or.inl rfl | exact Or.inr rfl | (intro _; rfl) | (intro _ _; rfl) | (intro _ _ _; rfl)) (by first | rfl | decide | exact Or.inl rfl | exact Or.inr rfl | (intro _; rfl) | (intro _ _; rfl) | (intro _ _ _; rfl)) (by first | rfl | decide | exact Or.inl rfl | exact Or.inr rfl | (intro _; rfl) | (intro _ _; rfl) | (intro _ _ _; rfl))) (by first | rfl | decide | exact Or.inl rfl | exact Or.inr rfl | (intro _; rfl) | (intro _ _; rfl) | (intro _ _ _; rfl)) (by first | rfl | decide | exact Or.inl rfl | exact Or.inr rfl | (intro _; rfl) | (intro _ _; rfl) | (intro _ _ _; rfl))) (@pss_one _ _ _ (@ps_ret _ _ _ _ (@PE.nox _ _ _ (@pe_callTy _ _ _ _ _ _ _ _ _ call_tuple_of (by rfl) (by exact T.z_tuple) (by exact bt_tuple) (@pa_consN _ _ _ _ _ (@pe_comp _ _ _ _ _ _ _ _ _ _ _ _ _ (by rfl) (by exact (fun _ _ h => h)) (by decide +kernel) (by rfl) (by decide +kernel) (by exact hfr_of rfl) (by exact Sees.frees ["a", "b"] [("share", 0), ("rest", 3)] (fr_cons ⟨rfl, rfl⟩ (fr_cons ⟨rfl, rfl⟩ fr_nil))) (@pi_zipB false false _ _ _ _ _ _ _ _ _ (by rfl) (by exact T.z_zip) (@pa_consN _ _ _ _ _ (pv 1) (@pa_consN _ _ _ _ _ (pv 2) pa_nil (by first | rfl | decide | exact Or.inl rfl | exact Or.inr rfl | (intro _; rfl) | (intro _ _; rfl) | (intro _ _ _; rfl))) (by first | rfl | decide | exact Or.inl rfl | exact Or.inr rfl | (intro _; rfl) | (intro _ _; rfl) | (intro _ _ _; rfl))) (by first | rfl | decide | exact Or.inl rfl | exact Or.inr rfl | (intro _; rfl) | (intro _ _; rfl) | (intro _ _ _; rfl)) (by first | rfl | decide | exact Or.inl rfl | exact Or.inr rfl | (intro _; rfl) | (intro _ _; rfl) | (intro _ _ _; rfl))) (fun _ _ _ _ _ => @pg_tup0 _ _ _ _ _ (2) (by rfl) (@pgs_cons _ _ _ _ _ (@pg_name _ _ (0) _ (by exact (show (["a", "b", "share", "rest"] : List Str).Nodup by decide +kernel)) (by rfl) (by first | exact Or.inl rfl | exact Or.inr rfl) (by first | rfl | decide | exact Or.inl rfl | exact Or.inr rfl | (intro _; rfl) | (intro _ _; rfl) | (intro _ _ _; rfl))) (@pgs_cons _ _ _ _ _ (@pg_name _ _ (1) _ (by exact (show (["a", "b", "share", "rest"] : List Str).Nodup by decide +kernel)) (by rfl) (by first | exact Or.inl rfl | exact Or.inr rfl) (by first | rfl | decide | exact Or.inl rfl | exact Or.inr rfl | (intro _; rfl) | (intro _ _; rfl) | (intro _ _ _; rfl))) pgs_nil (by first | rfl | decide | exact Or.inl rfl | exact Or.inr rfl | (intro _; rfl) | (intro _ _; rfl) | (intro _ _ _; rfl))) (by first | rfl | decide | exact Or.inl rfl | exact Or.inr rfl | (intro _; rfl) | (intro _ _; rfl) | (intro _ _ _; rfl))) (by first | rfl | decide | exact Or.inl rfl | exact Or.inr rfl | (intro _; rfl) | (intro _ _; rfl) | (intro _ _ _; rfl)) (by first | rfl | decide | exact Or.inl rfl | exact Or.inr rfl | (intro _; rfl) | (intro _ _; rfl) | (intro _ _ _; rfl))) (fun _ _ _ _ _ => pts_nil) (fun _ _ _ _ _ => (@cc _ _ _ _ _ _ _ _ _ _ (by exact C_plus) (by exact (hr.mono (by decide))) (@pa_consN _ _ _ _ _ (@cc _ _ _ _ _ _ _ _ _ _ (by exact C_times) (by exact (hr.mono (by decide))) (@pa_consN _ _ _ _ _ (pv 2) (@pa_consN _ _ _ _ _ (pv 0) pa_nil (by first | rfl | decide | exact Or.inl rfl | exact Or.inr rfl | (intro _; rfl) | (intro _ _; rfl) | (intro _ _ _; rfl))) (by first | rfl | decide | exact Or.inl rfl | exact Or.inr rfl | (intro _; rfl) | (intro _ _; rfl) | (intro _ _ _; rfl))) (by first | rfl | decide | exact Or.inl rfl | exact Or.inr rfl | (intro _; rfl) | (intro _ _; rfl) | (intro _ _ _; rfl)) (by first | rfl | decide | exact Or.inl rfl | exact Or.inr rfl | (intro _; rfl) | (intro _ _; rfl) | (intro _ _ _; rfl)) (by first | rfl | decide | exact Or.inl rfl | exact Or.inr rfl | (intro _; rfl) | (intro _ _; rfl) | (intro _ _ _; rfl)) (by first | rfl | decide | exact Or.inl rfl | exact Or.inr rfl | (intro _; rfl) | (intro _ _; rfl) | (intro _ _ _; rfl))) (@pa_consN _ _ _ _ _ (@cc _ _ _ _ _ _ _ _ _ _ (by exact C_times) (by exact (hr.mono (by decide))) (@pa_consN _ _ _ _ _ (pv 3) (@pa_consN _ _ _ _ _ (pv 1) pa_nil (by first | rfl | decide | exact Or.inl rfl | exact Or.inr rfl | (intro _; rfl) | (intro _ _; rfl) | (intro _ _ _; rfl))) (by first | rfl | decide | exact Or.inl rfl | exact Or.inr rfl | (intro _; rfl) | (intro _ _; rfl) | (intro _ _ _; rfl))) (by first | rfl | decide | exact Or.inl rfl | exact Or.inr rfl | (intro _; rfl) | (intro _ _; rfl) | (intro _ _ _; rfl)) (by first | rfl | decide | exact Or.inl rfl | exact Or.inr rfl | (intro _; rfl) | (intro _ _; rfl) | (intro _ _ _; rfl)) (by first | rfl | decide | exact Or.inl rfl | exact Or.inr rfl | (intro _; rfl) | (intro _ _; rfl) | (intro _ _ _; rfl)) (by first | rfl | decide | exact Or.inl rfl | exact Or.inr rfl | (intro _; rfl) | (intro _ _; rfl) | (intro _ _ _; rfl))) pa_nil (by first | rfl | decide | exact Or.inl rfl | exact Or.inr rfl | (intro _; rfl) | (intro _ _; rfl) | (intro _ _ _; rfl))) (by first | rfl | decide | exact Or.inl rfl | exact Or.inr rfl | (intro _; rfl) | (intro _ _; rfl) | (intro _ _ _; rfl))) (by first | rfl | decide | exact Or.inl rfl | exact Or.inr rfl | (intro _; rfl) | (intro _ _; rfl) | (intro _ _ _; rfl)) (by first | rfl | decide | exact Or.inl rfl | exact Or.inr rfl | (intro _; rfl) | (intro _ _; rfl) | (intro _ _ _; rfl)) (by first | rfl | decide | exact Or.inl rfl | exact Or.inr rfl | (intro _; rfl) | (intro _ _; rfl) | (intro _ _ _; rfl)) (by first | rfl | decide | exact Or.inl rfl | exact Or.inr rfl | (intro _; rfl) | (intro _ _; rfl) | (intro _ _ _; rfl)))) (by first | rfl | decide | exact Or.inl rfl | exact Or.inr rfl | (intro _; rfl) | (intro _ _; rfl) | (intro _ _ _; rfl))) pa_nil (by first | rfl | decide | exact Or.inl rfl | exact Or.inr rfl | (intro _; rfl) | (intro _ _; rfl) | (intro _ _ _; rfl))) (by first | rfl | decide | exact Or.inl rfl | exact Or.inr rfl | (intro _; rfl) | (intro _ _; rfl) | (intro _ _ _; rfl)) (by first | rfl | decide | exact Or.inl rfl | exact Or.inr rfl | (intro _; rfl) | (intro _ _; rfl) | (intro _ _ _; rfl)) (by first | rfl | decide | exact Or.inl rfl | exact Or.inr rfl | (intro _; rfl) | (intro _ _; rfl) | (intro _ _ _; rfl)) (by first | rfl | decide | exact Or.inl rfl | exact Or.inr rfl | (intro _; rfl) | (intro _ _; rfl) | (intro _ _ _; rfl)))))))), ?_⟩
  refine ⟨_, rfl, _, rfl, a, b, xs, ys, rfl, ha, hb, fun z => hE (by rw [← hxs.length, ← hys.length]; exact z), fun e => ?_⟩
  have e' : qs.length = rs.length := by rw [← hxs.length, ← hys.length]; exact e
  replace k := k e'
  refine ⟨(by show 2 ≤ sizeLine; decide), fun t1 ht1 => ?_⟩
  have s1 := same_new ht1 (.tup [.int 1, .int 1])
  refine ⟨_, rfl, _, _, 1, q, rfl, ⟨t1, rfl, upd_same⟩, hs.same s1, ⟨by decide, by decide⟩, bq.mono (by decide), trivial, fun vrest H2 s2 hrest => ?_⟩
  have s12 := s1.trans s2
  replace hs := hs.same s12; replace ha := s12 _ _ ha; replace hb := s12 _ _ hb; replace hxs := hxs.same s12; replace hys := hys.same s12
  have brest : SB 40 (1 - q) := (SB.sub (m := 1) ⟨by decide, by decide⟩ bq).mono (by decide)
  have hrest : ShAt H2 vrest (1 - q) := hrest
  refine ⟨_, rfl, _, rfl, a, b, rfl, ⟨xs, SqB.t ha⟩, ⟨ys, SqB.t hb⟩, comp_zipP (b1 := false) (b2 := false) (xs := xs) (ys := ys) (fs := [some vs, some vrest]) (fun p i zs H' => Same H2 H' ∧ Shs H' zs (List.zipWith (mixF q) (qs.take i) (rs.take i))) (by have := hxs.length; omega) e (fun p hp => ⟨same_new hp _, .nil⟩) (fun p i zs H' _ h => ⟨h.1 _ _ ha, h.1 _ _ hb⟩) ?_ ?_⟩
  · rintro p i zs H' x y t hp hx hy ⟨s', hz⟩ hp' ht Q' hQ
    obtain ⟨qa, eqa, hqa⟩ := hxs.at hx
    obtain ⟨rb, erb, hrb⟩ := hys.at hy
    have st := s'.trans (same_new ht (.tup [x, y]))
    have ba := bqs qa (List.mem_of_getElem? eqa)
    have bb := brs rb (List.mem_of_getElem? erb)
    refine ⟨_, rfl, _, rfl, _, _, q, qa, rfl, hs.same st, hqa.same st, bq.mono (by decide), ba.mono (by decide), trivial, fun v1 H3 s3 h1 => ?_⟩
    refine ⟨_, rfl, _, rfl, _, _, 1 - q, rb, rfl, hrest.same (st.trans s3), hrb.same (st.trans s3), brest.mono (by decide), bb.mono (by decide), trivial, fun v2 H4 s4 h2 => ?_⟩
    refine ⟨_, _, q * qa, (1 - q) * rb, rfl, h1.same s4, h2, (bq.mul ba).mono (by decide), (brest.mul bb).mono (by decide), trivial, fun v3 H5 s5 h3 => ?_⟩
    have hh : Same H' H5 := ((same_new ht (.tup [x, y])).trans s3).trans (s4.trans s5)
    refine hQ _ H5 (hh _ _ hp') ⟨same_updN hp (s'.trans hh) _, ?_⟩
    rw [List.take_add_one, List.take_add_one, eqa, erb, List.zipWith_append (by rw [List.length_take, List.length_take]; omega)]
    exact Shs.snoc (shUpdL (hh _ _ hp') h3) (Shs.updL (hh _ _ hp') (hz.same hh))
  · rintro p zs H' hp ⟨s', hz⟩ hp' hzl
    refine ⟨p, zs, rfl, .inl ⟨SqL.of hp', fun t ht => ?_⟩⟩
    rw [List.take_of_length_le (by rw [hxs.length]; omega), List.take_of_length_le (by rw [hxs.length]; omega)] at hz
    exact k _ _ ((s12.trans s').trans (same_new ht _)) ⟨t, zs, rfl, upd_same, hz.same (same_new ht _)⟩
end
end My

set_option Elab.async false
set_option linter.all false
set_option maxRecDepth 100000
set_option maxHeartbeats 4000000
namespace My
open PySem L2 MA
section
variable {P : Program} {w : World} {K : PySem.W.Frag} {mg : Str → Option Value} {base : Heap}
def spShareL : Sp := fun vs H Q _ => ∃ t b : Int, vs = [.int t, .int b] ∧ 0 ≤ t ∧ 0 < b ∧ Bt 8000 b ∧ ∀ v H', Same H H' → ShAt H' v (Rat.divInt t b) → Q v H'
theorem ok_shareL (T : Txt2 mg) (F : FunAt K mg "_law_share" ["_law_top", "_law_bottom"] s_l_share) : Cal P w K mg base "_law_share" ["_law_top", "_law_bottom"] 1 spShareL := by
  have S := sc_l_share
  refine F.cal sc_l_share (fun vs H Q E h => ?_) (fun f cdv A outer s H vs Q E hr h => ?_)
  · obtain ⟨a, b, rfl, _⟩ := h; rfl
  obtain ⟨t, b, rfl, ht, hb, bb, k⟩ := h
  refine ⟨_, (@pss_cons _ _ _ _ _ (@ps_set _ _ (2) _ _ _ _ (by exact S.nd) (by rfl) (by first | exact Or.inl rfl | exact Or.inr rfl) (@pe_callB _ _ _ _ _ _ _ _ _ call_abs (by rfl) (by exact T.z_abs) (by exact bt_abs) (@pa_consN _ _ _ _ _ (pv 0) pa_nil (by first | rfl | decide | exact Or.inl rfl | exact Or.inr rfl | (intro _; rfl) | (intro _ _; rfl) | (intro _ _ _; rfl))) (by first | rfl | decide | exact Or.inl rfl | exact Or.inr rfl | (intro _; rfl) | (intro _ _; rfl) | (intro _ _ _; rfl)) (by first | rfl | decide | exact Or.inl rfl | exact Or.inr rfl | (intro _; rfl) | (intro _ _; rfl) | (intro _ _ _; rfl)) (by first | rfl | decide | exact Or.inl rfl | exact Or.inr rfl | (intro _; rfl) | (intro _ _; rfl) | (intro _ _ _; rfl)) (by first | rfl | decide | exact Or.inl rfl | exact Or.inr rfl | (intro _; rfl) | (intro _ _; rfl) | (intro _ _ _; rfl))) (by first | rfl | decide | exact Or.inl rfl | exact Or.inr rfl | (intro _; rfl) | (intro _ _; rfl) | (intro _ _ _; rfl)) (by first | rfl | decide | exact Or.inl rfl | exact Or.inr rfl | (intro _; rfl) | (intro _ _; rfl) | (intro _ _ _; rfl))) (@pss_cons _ _ _ _ _ (@ps_set _ _ (3) _ _ _ _ (by exact S.nd) (by rfl) (by first | exact Or.inl rfl | exact Or.inr rfl) (pv 1) (by first | rfl | decide | exact Or.inl rfl | exact Or.inr rfl | (intro _; rfl) | (intro _ _; rfl) | (intro _ _ _; rfl)) (by first | rfl | decide | exact Or.inl rfl | exact Or.inr rfl | (intro _; rfl) | (intro _ _; rfl) | (intro _ _ _; rfl))) (@pss_cons _ _ _ _ _ (@ps_while _ _ _ _ _ _ (by exact PassesOwn.never) (@pt_cmpR _ _ _ _ _ _ _ _ op_gt (pv 3) pe_int (by exact (nomark _))) (@pss_one _ _ _ (@ps_par _ _ (2) (3) _ _ _ _ _ _ _ _ _ _ _ (by rfl) (by exact S.nd) (by rfl) (by rfl) (by decide) (by rfl) (by rfl) (@pa_consN _ _ _ _ _ (pv 3) (@pa_consN _ _ _ _ _ (@pe_op _ _ _ _ _ _ _ _ op_mod (pv 2) (pv 3)) pa_nil (by first | rfl | decide | exact Or.inl rfl | exact Or.inr rfl | (intro _; rfl) | (intro _ _; rfl) | (intro _ _ _; rfl))) (by first | rfl | decide | exact Or.inl rfl | exact Or.inr rfl | (intro _; rfl) | (intro _ _; rfl) | (intro _ _ _; rfl))) (by rfl) (by first | rfl | decide | exact Or.inl rfl | exact Or.inr rfl | (intro _; rfl) | (intro _ _; rfl) | (intro _ _ _; rfl))))) (@pss_one _ _ _ (@ps_ret _ _ _ _ (@pe_tup _ _ _ _ _ (@pa_consN _ _ _ _ _ (@pe_op _ _ _ _ _ _ _ _ op_fdivB (pv 0) (pv 2)) (@pa_consN _ _ _ _ _ (@pe_op _ _ _ _ _ _ _ _ op_fdivB (pv 1) (pv 2)) pa_nil (by first | rfl | decide | exact Or.inl rfl | exact Or.inr rfl | (intro _; rfl) | (intro _ _; rfl) | (intro _ _ _; rfl))) (by first | rfl | decide | exact Or.inl rfl | exact Or.inr rfl | (intro _; rfl) | (intro _ _; rfl) | (intro _ _ _; rfl))))))))), ?_⟩
  refine ⟨_, rfl, _, rfl, ?_⟩
  rw [if_neg (by omega : ¬ t < 0)]
  refine ⟨_, rfl, ?_⟩
  refine while_by (fun σ H' => H' = H ∧ ∃ x y : Int, σ = [some (.int t), some (.int b), some (.int x), some (.int y)] ∧ 0 ≤ x ∧ 0 ≤ y ∧ gI x y = gI t b) (fun σ _ => match σ with | [_, _, _, some (.int y)] => y.toNat | _ => 0) ⟨rfl, _, _, rfl, ht, by omega, rfl⟩ ?_ ?_
  · rintro σ H' ⟨rfl, x, y, rfl, hx, hy, hg⟩
    refine ⟨_, rfl, _, _, rfl, rfl, _, rfl, ?_⟩
    refine ite2 (fun c => ?_) (fun c => ?_)
    · have hy0 : 0 < y := of_decide_eq_true c
      refine ⟨_, rfl, _, rfl, _, rfl, _, _, rfl, rfl, hy0, _, _, rfl, ?_⟩
      have hm := Int.emod_nonneg x (show y ≠ 0 by omega)
      have hl := Int.emod_lt_of_pos x hy0
      refine ⟨⟨rfl, _, _, rfl, hy, hm, ?_⟩, ?_⟩
      · rw [gI_step hx]; exact hg
      · show (x % y).toNat < y.toNat
        omega
    · have hy0 : y = 0 := by
        have : ¬ 0 < y := by simpa using c
        omega
      subst hy0
      rw [gI_zero hx] at hg
      subst hg
      have g0 := gI_pos_right (a := t) (b := b) (by omega)
      have gb : Bt 8000 (gI t b) := bb.gr (by omega)
      refine ⟨_, rfl, _, rfl, _, _, rfl, rfl, ⟨g0, gb⟩, _, rfl, _, rfl, _, _, rfl, rfl, ⟨g0, gb⟩, lz 2 rfl, fun p hp => ?_⟩
      have e := share_pos (t := t) hb
      exact k _ _ (same_new hp _) ⟨p, rfl, by rw [upd_same, ← e.1, ← e.2]⟩
  · rintro σ H' Q1 Q2 hQ ⟨v, e, h0, b0, h1, h2, b1, e2, h3⟩
    exact ⟨v, e, h0, b0, h1, h2, b1, e2, hQ _ _ h3⟩
/-- the sum of the first ones -/
def psum (qs : List Rat) : Rat := qs.foldl (· + ·) 0
theorem psum_snoc (qs : List Rat) (q : Rat) : psum (qs ++ [q]) = psum qs + q := by unfold psum; rw [List.foldl_append]; rfl
theorem psum_take {qs : List Rat} {i : Nat} (h : i < qs.length) : psum (qs.take (i + 1)) = psum (qs.take i) + qs[i] := by
  rw [List.take_add_one, List.getElem?_eq_getElem h]
  exact psum_snoc _ _
def spSum : Sp := fun vs H Q _ => ∃ (a : Addr) (xs : List V) (qs : List Rat) (B : Nat), vs = [.ref a] ∧ H a = some (.tup xs) ∧ Shs H xs qs ∧ (∀ q ∈ qs, 0 ≤ q ∧ SB B q) ∧ qs.length ≤ 100 ∧ qs.length * (B + 1) + 1 ≤ 4000 ∧ B ≤ 3000 ∧ ∀ v H', Same H H' → ShAt H' v (psum qs) → 0 ≤ psum qs → SB 4000 (psum qs) → Q v H'
theorem ok_sum (T : Txt2 mg) (C_l_share : Cal P w K mg base "_law_share" ["_law_top", "_law_bottom"] 1 spShareL) (F : FunAt K mg "_law_sum" ["_law_some"] s_l_sum) : Cal P w K mg base "_law_sum" ["_law_some"] 2 spSum := by
  have S := sc_l_sum
  refine F.cal sc_l_sum (fun vs H Q E h => ?_) (fun f cdv A outer s H vs Q E hr h => ?_)
  · obtain ⟨a, xs, qs, B, rfl, _⟩ := h; rfl
  obtain ⟨a, xs, qs, B, rfl, ha, sh, hq, l100, hB, B3, k⟩ := h
  have sl := sh.length
  refine ⟨_, (@pss_cons _ _ _ _ _ (@ps_set _ _ (1) _ _ _ _ (by exact S.nd) (by rfl) (by first | exact Or.inl rfl | exact Or.inr rfl) pe_int (by first | rfl | decide | exact Or.inl rfl | exact Or.inr rfl | (intro _; rfl) | (intro _ _; rfl) | (intro _ _ _; rfl)) (by first | rfl | decide | exact Or.inl rfl | exact Or.inr rfl | (intro _; rfl) | (intro _ _; rfl) | (intro _ _ _; rfl))) (@pss_cons _ _ _ _ _ (@ps_set _ _ (2) _ _ _ _ (by exact S.nd) (by rfl) (by first | exact Or.inl rfl | exact Or.inr rfl) pe_int (by first | rfl | decide | exact Or.inl rfl | exact Or.inr rfl | (intro _; rfl) | (intro _ _; rfl) | (intro _ _ _; rfl)) (by first | rfl | decide | exact Or.inl rfl | exact Or.inr rfl | (intro _; rfl) | (intro _ _; rfl) | (intro _ _ _; rfl))) (@pss_cons _ _ _ _ _ (@ps_for _ _ _ _ _ _ _ _ (by exact PassesOwn.never) (by rfl) (@pi_tup _ _ _ _ (pv 0)) (@pg_name _ _ (3) _ (by exact S.nd) (by rfl) (by first | exact Or.inl rfl | exact Or.inr rfl) (by first | rfl | decide | exact Or.inl rfl | exact Or.inr rfl | (intro _; rfl) | (intro _ _; rfl) | (intro _ _ _; rfl))) (@pss_one _ _ _ (@ps_asg _ _ _ _ _ _ (@cc _ _ _ _ _ _ _ _ _ _ (by exact C_l_share) (by exact (hr.mono (by decide))) (@pa_consN _ _ _ _ _ (@pe_op _ _ _ _ _ _ _ _ op_add (@pe_op _ _ _ _ _ _ _ _ op_mulB (pv 1) (@pe_ix _ _ _ _ _ _ _ ix_tup (pv 3) pe_int (by exact (fun _ _ => rfl)))) (@pe_op _ _ _ _ _ _ _ _ op_mulB (@pe_ix _ _ _ _ _ _ _ ix_tup (pv 3) pe_int (by exact (fun _ _ => rfl))) (pv 2))) (@pa_consN _ _ _ _ _ (@pe_op _ _ _ _ _ _ _ _ op_mulB (pv 2) (@pe_ix _ _ _ _ _ _ _ ix_tup (pv 3) pe_int (by exact (fun _ _ => rfl)))) pa_nil (by first | rfl | decide | exact Or.inl rfl | exact Or.inr rfl | (intro _; rfl) | (intro _ _; rfl) | (intro _ _ _; rfl))) (by first | rfl | decide | exact Or.inl rfl | exact Or.inr rfl | (intro _; rfl) | (intro _ _; rfl) | (intro _ _ _; rfl))) (by first | rfl | decide | exact Or.inl rfl | exact Or.inr rfl | (intro _; rfl) | (intro _ _; rfl) | (intro _ _ _; rfl)) (by first | rfl | decide | exact Or.inl rfl | exact Or.inr rfl | (intro _; rfl) | (intro _ _; rfl) | (intro _ _ _; rfl)) (by first | rfl | decide | exact Or.inl rfl | exact Or.inr rfl | (intro _; rfl) | (intro _ _; rfl) | (intro _ _ _; rfl)) (by first | rfl | decide | exact Or.inl rfl | exact Or.inr rfl | (intro _; rfl) | (intro _ _; rfl) | (intro _ _ _; rfl))) (@pg_tup _ _ _ _ _ _ (by rfl) (@pgs_cons _ _ _ _ _ (@pg_name _ _ (1) _ (by exact S.nd) (by rfl) (by first | exact Or.inl rfl | exact Or.inr rfl) (by first | rfl | decide | exact Or.inl rfl | exact Or.inr rfl | (intro _; rfl) | (intro _ _; rfl) | (intro _ _ _; rfl))) (@pgs_cons _ _ _ _ _ (@pg_name _ _ (2) _ (by exact S.nd) (by rfl) (by first | exact Or.inl rfl | exact Or.inr rfl) (by first | rfl | decide | exact Or.inl rfl | exact Or.inr rfl | (intro _; rfl) | (intro _ _; rfl) | (intro _ _ _; rfl))) pgs_nil (by first | rfl | decide | exact Or.inl rfl | exact Or.inr rfl | (intro _; rfl) | (intro _ _; rfl) | (intro _ _ _; rfl))) (by first | rfl | decide | exact Or.inl rfl | exact Or.inr rfl | (intro _; rfl) | (intro _ _; rfl) | (intro _ _ _; rfl))) (by first | rfl | decide | exact Or.inl rfl | exact Or.inr rfl | (intro _; rfl) | (intro _ _; rfl) | (intro _ _ _; rfl)) (by first | rfl | decide | exact Or.inl rfl | exact Or.inr rfl | (intro _; rfl) | (intro _ _; rfl) | (intro _ _ _; rfl))) (by first | rfl | decide | exact Or.inl rfl | exact Or.inr rfl | (intro _; rfl) | (intro _ _; rfl) | (intro _ _ _; rfl)) (by first | rfl | decide | exact Or.inl rfl | exact Or.inr rfl | (intro _; rfl) | (intro _ _; rfl) | (intro _ _ _; rfl)) (by first | rfl | decide | exact Or.inl rfl | exact Or.inr rfl | (intro _; rfl) | (intro _ _; rfl) | (intro _ _ _; rfl)))) (by first | rfl | decide | exact Or.inl rfl | exact Or.inr rfl | (intro _; rfl) | (intro _ _; rfl) | (intro _ _ _; rfl))) (@pss_one _ _ _ (@ps_ret _ _ _ _ (@pe_tup _ _ _ _ _ (@pa_consN _ _ _ _ _ (pv 1) (@pa_consN _ _ _ _ _ (pv 2) pa_nil (by first | rfl | decide | exact Or.inl rfl | exact Or.inr rfl | (intro _; rfl) | (intro _ _; rfl) | (intro _ _ _; rfl))) (by first | rfl | decide | exact Or.inl rfl | exact Or.inr rfl | (intro _; rfl) | (intro _ _; rfl) | (intro _ _ _; rfl))))))))), ?_⟩
  refine ⟨_, rfl, a, rfl, ⟨_, SqT.of ha⟩, for_tup (xs := xs) (fun i σ H' => (∃ o3, σ = [some (.ref a), some (.int (psum (qs.take i)).num), some (.int ((psum (qs.take i)).den : Int)), o3]) ∧ Same H H' ∧ 0 ≤ psum (qs.take i) ∧ SB (i * (B + 1) + 1) (psum (qs.take i))) ⟨⟨_, rfl⟩, Same.refl _, (show (0 : Rat) ≤ 0 by decide), SB.mono (m := 1) (q := 0) ⟨by decide, by decide⟩ (by omega)⟩ (fun i σ H' _ h => SqT.of (h.2.1 _ _ ha)) ?_ ?_⟩
  · rintro i v σ H1 hv ⟨⟨o3, rfl⟩, s1, p0, pb⟩
    obtain ⟨hi, _⟩ := List.getElem?_eq_some_iff.mp hv
    obtain ⟨q, eq, t, rfl, ht⟩ := sh.at hv
    obtain ⟨hi2, e2⟩ := List.getElem?_eq_some_iff.mp eq
    obtain ⟨q0, qb⟩ := hq q (List.mem_of_getElem? eq)
    have pt := psum_take hi2
    rw [e2] at pt
    have ht1 := s1 _ _ ht
    generalize psum (qs.take i) = S at p0 pb pt
    have hi3 : i < qs.length := hi2
    have mi : i * (B + 1) + 1 + B + 1 ≤ qs.length * (B + 1) + 1 := by
      have := Nat.mul_le_mul_right (B + 1) (show i + 1 ≤ qs.length by omega)
      rw [Nat.add_mul] at this
      omega
    have big : ∀ {n : Nat} {x : Int}, Bt n x → n ≤ 4000 → Bt 20000 x := fun h l => h.mono (by omega)
    have t0 : 0 ≤ S.num * (q.den : Int) + q.num * (S.den : Int) := by
      have h1 := Int.mul_nonneg (Rat.num_nonneg.mpr p0) (Int.natCast_nonneg q.den)
      have h2 := Int.mul_nonneg (Rat.num_nonneg.mpr q0) (Int.natCast_nonneg S.den)
      omega
    have b0 : 0 < (S.den : Int) * (q.den : Int) := den_mul_pos S q
    have bb : Bt 8000 ((S.den : Int) * (q.den : Int)) := (pb.2.mul qb.2).mono (by omega)
    refine ⟨_, rfl, _, rfl, t, _, _, _, rfl, rfl, SqT.of ht1, rfl, _, _, rfl, rfl, ⟨big pb.1 (by omega), big qb.2 (by omega)⟩, _, rfl, t, _, _, _, rfl, rfl, SqT.of ht1, rfl, _, rfl, _, _, rfl, rfl, ⟨big qb.1 (by omega), big pb.2 (by omega)⟩, _, _, rfl, rfl, _, rfl, _, rfl, t, _, _, _, rfl, rfl, SqT.of ht1, rfl, _, _, rfl, rfl, ⟨big pb.2 (by omega), big qb.2 (by omega)⟩, _, _, rfl, t0, b0, bb, fun v H2 s2 hs => ?_⟩
    rw [← add_div S q, ← pt] at hs
    obtain ⟨p, rfl, hp⟩ := hs
    refine ⟨p, _, rfl, SqT.of hp, rfl, _, _, rfl, _, _, rfl, rfl, ?_⟩
    refine ⟨⟨_, rfl⟩, s1.trans s2, ?_, ?_⟩
    · rw [pt]; exact Rat.add_nonneg p0 q0
    · rw [pt]
      refine (pb.add qb).mono ?_
      rw [Nat.add_mul]
      omega
  · rintro σ H1 ⟨⟨o3, rfl⟩, s1, p0, pb⟩
    rw [sl, List.take_length] at p0 pb ⊢
    exact ⟨_, rfl, _, rfl, lz 2 rfl, fun p hp => k _ _ (s1.trans (same_new hp _)) ⟨p, rfl, upd_same⟩ p0 (pb.mono hB)⟩
/-- at how many ranks one is ahead of the other first -/
def faP (qs rs : List Rat) (k : Nat) : Bool := decide (psum (rs.take (k + 1)) < psum (qs.take (k + 1)))
def faF (qs rs : List Rat) : Option Nat := ((List.range qs.length).find? (faP qs rs)).map (· + 1)
def optV : Option Nat → V
  | none => .non
  | some k => .int (k : Int)
theorem fa_at {qs rs : List Rat} {k : Nat} (hk : k < qs.length) (h : faP qs rs k = true) (hb : ∀ j, j < k → faP qs rs j = false) : faF qs rs = some (k + 1) := by
  unfold faF
  rw [List.find?_range_eq_some.mpr ⟨h, List.mem_range.mpr hk, fun j hj => by rw [hb j hj]; rfl⟩]
  rfl
theorem fa_no {qs rs : List Rat} (hb : ∀ j, j < qs.length → faP qs rs j = false) : faF qs rs = none := by
  unfold faF
  rw [List.find?_range_eq_none.mpr fun j hj => by rw [hb j hj]; rfl]
  rfl
/-- rules whose sums are shown -/
def Okr (B : Nat) (qs : List Rat) : Prop := (∀ q ∈ qs, 0 ≤ q ∧ SB B q) ∧ qs.length ≤ 12 ∧ (qs.length - 1) * (2 * B + 2) + 1 ≤ 3000 ∧ B ≤ 1000 ∧ qs.length * (B + 1) + 1 ≤ 4000
theorem Okr.sum {B : Nat} {qs : List Rat} (h : Okr B qs) (k : Nat) : (∀ q ∈ qs.take k, 0 ≤ q ∧ SB B q) ∧ (qs.take k).length ≤ 100 ∧ (qs.take k).length * (B + 1) + 1 ≤ 4000 ∧ B ≤ 3000 := by
  obtain ⟨h1, h2, h3, h4, h5⟩ := h
  have l : (qs.take k).length ≤ qs.length := by rw [List.length_take]; omega
  refine ⟨fun q hq => h1 q (List.mem_of_mem_take hq), by omega, ?_, by omega⟩
  have a := Nat.mul_le_mul l (show B + 1 ≤ B + 1 by omega)
  omega
def spDueB : Sp := fun vs H Q _ => ∃ a b xs ys qs rs B, vs = [.ref a, .ref b] ∧ H a = some (.tup xs) ∧ H b = some (.tup ys) ∧ Shs H xs qs ∧ Shs H ys rs ∧ qs.length = rs.length ∧ Okr B qs ∧ Okr B rs ∧ ∀ H', Same H H' → Q (optV (faF qs rs)) H'
theorem Shs.take {H : Hp} {xs : List V} {qs : List Rat} (h : Shs H xs qs) (n : Nat) : Shs H (xs.take n) (qs.take n) := by
  induction h generalizing n with
  | nil => simp; exact .nil
  | cons e _ ih =>
    cases n with
    | zero => exact .nil
    | succ n => exact .cons e (ih n)
theorem ok_dueB (T : Txt2 mg) (C_l_sum : Cal P w K mg base "_law_sum" ["_law_some"] 2 spSum) (F : FunAt K mg "_law_due" ["_law_one", "_law_other"] s_l_due) : Cal P w K mg base "_law_due" ["_law_one", "_law_other"] 3 spDueB := by
  have S := sc_l_due
  refine F.cal sc_l_due (fun vs H Q E h => ?_) (fun f cdv A outer s H vs Q E hr h => ?_)
  · obtain ⟨a, b, xs, ys, qs, rs, B, rfl, _⟩ := h; rfl
  obtain ⟨a, b, xs, ys, qs, rs, B, rfl, ha, hb, sq, sr, len, oq, orr, k⟩ := h
  have lq := sq.length
  have lr := sr.length
  have l12 := oq.2.1
  refine ⟨_, (@pss_cons _ _ _ _ _ (@ps_for _ _ _ _ _ _ _ _ (by exact PassesOwn.never) (by rfl) (@pi_range2 _ _ _ _ _ _ _ (by rfl) (by exact T.z_range) (@pa_consN _ _ _ _ _ pe_int (@pa_consN _ _ _ _ _ (@pe_op _ _ _ _ _ _ _ _ op_add (@pe_callB _ _ _ _ _ _ _ _ _ call_len_seq (by rfl) (by exact T.z_len) (by exact bt_len) (@pa_consN _ _ _ _ _ (pv 0) pa_nil (by first | rfl | decide | exact Or.inl rfl | exact Or.inr rfl | (intro _; rfl) | (intro _ _; rfl) | (intro _ _ _; rfl))) (by first | rfl | decide | exact Or.inl rfl | exact Or.inr rfl | (intro _; rfl) | (intro _ _; rfl) | (intro _ _ _; rfl)) (by first | rfl | decide | exact Or.inl rfl | exact Or.inr rfl | (intro _; rfl) | (intro _ _; rfl) | (intro _ _ _; rfl)) (by first | rfl | decide | exact Or.inl rfl | exact Or.inr rfl | (intro _; rfl) | (intro _ _; rfl) | (intro _ _ _; rfl)) (by first | rfl | decide | exact Or.inl rfl | exact Or.inr rfl | (intro _; rfl) | (intro _ _; rfl) | (intro _ _ _; rfl))) pe_int) pa_nil (by first | rfl | decide | exact Or.inl rfl | exact Or.inr rfl | (intro _; rfl) | (intro _ _; rfl) | (intro _ _ _; rfl))) (by first | rfl | decide | exact Or.inl rfl | exact Or.inr rfl | (intro _; rfl) | (intro _ _; rfl) | (intro _ _ _; rfl))) (by first | rfl | decide | exact Or.inl rfl | exact Or.inr rfl | (intro _; rfl) | (intro _ _; rfl) | (intro _ _ _; rfl)) (by first | rfl | decide | exact Or.inl rfl | exact Or.inr rfl | (intro _; rfl) | (intro _ _; rfl) | (intro _ _ _; rfl))) (@pg_name _ _ (2) _ (by exact S.nd) (by rfl) (by first | exact Or.inl rfl | exact Or.inr rfl) (by first | rfl | decide | exact Or.inl rfl | exact Or.inr rfl | (intro _; rfl) | (intro _ _; rfl) | (intro _ _ _; rfl))) (@pss_cons _ _ _ _ _ (@ps_set _ _ (3) _ _ _ _ (by exact S.nd) (by rfl) (by first | exact Or.inl rfl | exact Or.inr rfl) (@cc _ _ _ _ _ _ _ _ _ _ (by exact C_l_sum) (by exact (hr.mono (by decide))) (@pa_consN _ _ _ _ _ (@pe_slice _ _ _ _ _ _ _ _ _ _ sl_tupS (pv 0) po_none (@po_some _ _ _ (pv 2))) pa_nil (by first | rfl | decide | exact Or.inl rfl | exact Or.inr rfl | (intro _; rfl) | (intro _ _; rfl) | (intro _ _ _; rfl))) (by first | rfl | decide | exact Or.inl rfl | exact Or.inr rfl | (intro _; rfl) | (intro _ _; rfl) | (intro _ _ _; rfl)) (by first | rfl | decide | exact Or.inl rfl | exact Or.inr rfl | (intro _; rfl) | (intro _ _; rfl) | (intro _ _ _; rfl)) (by first | rfl | decide | exact Or.inl rfl | exact Or.inr rfl | (intro _; rfl) | (intro _ _; rfl) | (intro _ _ _; rfl)) (by first | rfl | decide | exact Or.inl rfl | exact Or.inr rfl | (intro _; rfl) | (intro _ _; rfl) | (intro _ _ _; rfl))) (by first | rfl | decide | exact Or.inl rfl | exact Or.inr rfl | (intro _; rfl) | (intro _ _; rfl) | (intro _ _ _; rfl)) (by first | rfl | decide | exact Or.inl rfl | exact Or.inr rfl | (intro _; rfl) | (intro _ _; rfl) | (intro _ _ _; rfl))) (@pss_cons _ _ _ _ _ (@ps_set _ _ (4) _ _ _ _ (by exact S.nd) (by rfl) (by first | exact Or.inl rfl | exact Or.inr rfl) (@cc _ _ _ _ _ _ _ _ _ _ (by exact C_l_sum) (by exact (hr.mono (by decide))) (@pa_consN _ _ _ _ _ (@pe_slice _ _ _ _ _ _ _ _ _ _ sl_tupS (pv 1) po_none (@po_some _ _ _ (pv 2))) pa_nil (by first | rfl | decide | exact Or.inl rfl | exact Or.inr rfl | (intro _; rfl) | (intro _ _; rfl) | (intro _ _ _; rfl))) (by first | rfl | decide | exact Or.inl rfl | exact Or.inr rfl | (intro _; rfl) | (intro _ _; rfl) | (intro _ _ _; rfl)) (by first | rfl | decide | exact Or.inl rfl | exact Or.inr rfl | (intro _; rfl) | (intro _ _; rfl) | (intro _ _ _; rfl)) (by first | rfl | decide | exact Or.inl rfl | exact Or.inr rfl | (intro _; rfl) | (intro _ _; rfl) | (intro _ _ _; rfl)) (by first | rfl | decide | exact Or.inl rfl | exact Or.inr rfl | (intro _; rfl) | (intro _ _; rfl) | (intro _ _ _; rfl))) (by first | rfl | decide | exact Or.inl rfl | exact Or.inr rfl | (intro _; rfl) | (intro _ _; rfl) | (intro _ _ _; rfl)) (by first | rfl | decide | exact Or.inl rfl | exact Or.inr rfl | (intro _; rfl) | (intro _ _; rfl) | (intro _ _ _; rfl))) (@pss_one _ _ _ (@ps_if _ _ _ _ _ _ _ _ (@pt_cmpR _ _ _ _ _ _ _ _ op_gt (@pe_op _ _ _ _ _ _ _ _ op_mulB (@pe_ix _ _ _ _ _ _ _ ix_tup (pv 3) pe_int (by exact (fun _ _ => rfl))) (@pe_ix _ _ _ _ _ _ _ ix_tup (pv 4) pe_int (by exact (fun _ _ => rfl)))) (@pe_op _ _ _ _ _ _ _ _ op_mulB (@pe_ix _ _ _ _ _ _ _ ix_tup (pv 4) pe_int (by exact (fun _ _ => rfl))) (@pe_ix _ _ _ _ _ _ _ ix_tup (pv 3) pe_int (by exact (fun _ _ => rfl)))) (by exact (nomark _))) (@pss_one _ _ _ (@ps_ret _ _ _ _ (pv 2))) pss_nil)))) (by first | rfl | decide | exact Or.inl rfl | exact Or.inr rfl | (intro _; rfl) | (intro _ _; rfl) | (intro _ _ _; rfl))) (@pss_one _ _ _ (@ps_ret _ _ _ _ pe_non))), ?_⟩
  refine ⟨_, rfl, a, _, rfl, .inr (SqT.of ha), _, _, rfl, rfl, _, _, rfl, ⟨by omega, by omega, by omega, by omega⟩, for_range (n := (((xs.length : Nat) : Int) + 1 - 1).toNat) (lo := 1) (fun i σ H' => (∃ o2 o3 o4, σ = [some (.ref a), some (.ref b), o2, o3, o4]) ∧ Same H H' ∧ ∀ j, j < i → faP qs rs j = false) ⟨⟨_, _, _, rfl⟩, Same.refl _, fun j hj => by omega⟩ ?_ ?_⟩
  · rintro i σ H1 hi ⟨⟨o2, o3, o4, rfl⟩, s1, hno⟩
    have hi' : i < qs.length := by omega
    have e1 : (1 + (i : Int)) = ((i + 1 : Nat) : Int) := by omega
    rw [e1]
    refine ⟨_, rfl, _, rfl, _, rfl, a, _, rfl, s1 _ _ ha, fun c1 H2 s2 hc1 => ?_⟩
    rw [cut_take (by omega)] at hc1
    have s12 := s1.trans s2
    obtain ⟨m1, m2, m3, m4⟩ := oq.sum (i + 1)
    refine ⟨c1, _, _, B, rfl, hc1, (sq.same s12).take (i + 1), m1, m2, m3, m4, fun v3 H3 s3 h3 p3 b3 => ?_⟩
    have s13 := s12.trans s3
    refine ⟨_, rfl, _, rfl, _, rfl, b, _, rfl, s13 _ _ hb, fun c2 H4 s4 hc2 => ?_⟩
    rw [cut_take (by omega)] at hc2
    have s14 := s13.trans s4
    obtain ⟨n1, n2, n3, n4⟩ := orr.sum (i + 1)
    refine ⟨c2, _, _, B, rfl, hc2, (sr.same s14).take (i + 1), n1, n2, n3, n4, fun v5 H5 s5 h5 p5 b5 => ?_⟩
    have s15 := s14.trans s5
    obtain ⟨t3, rfl, ht3⟩ := h3
    obtain ⟨t5, rfl, ht5⟩ := h5
    have ht3' := (s4.trans s5) _ _ ht3
    have big : ∀ {x : Int}, Bt 4000 x → Bt 20000 x := fun h => h.mono (by omega)
    refine ⟨_, rfl, t3, _, _, _, rfl, rfl, SqT.of ht3', rfl, _, rfl, t5, _, _, _, rfl, rfl, SqT.of ht5, rfl, _, _, rfl, rfl, ⟨big b3.1, big b5.2⟩, _, rfl, t5, _, _, _, rfl, rfl, SqT.of ht5, rfl, _, rfl, t3, _, _, _, rfl, rfl, SqT.of ht3', rfl, _, _, rfl, rfl, ⟨big b5.1, big b3.2⟩, _, _, rfl, rfl, _, rfl, ?_⟩
    have iff : (psum (rs.take (i + 1))).num * ((psum (qs.take (i + 1))).den : Int) < (psum (qs.take (i + 1))).num * ((psum (rs.take (i + 1))).den : Int) ↔ psum (rs.take (i + 1)) < psum (qs.take (i + 1)) := (Rat.lt_iff _ _).symm
    refine ite2 (fun c => ?_) (fun c => ?_)
    · have eo := fa_at hi' (decide_eq_true (iff.mp (of_decide_eq_true c))) hno
      rw [eo] at k
      exact ⟨_, rfl, k _ s15⟩
    · refine ⟨⟨_, _, _, rfl⟩, s15, fun j hj => ?_⟩
      by_cases ej : j = i
      · subst ej
        exact decide_eq_false fun z => c (decide_eq_true (iff.mpr z))
      · exact hno j (by omega)
  · rintro σ H1 ⟨⟨o2, o3, o4, rfl⟩, s1, hno⟩
    have e : faF qs rs = none := fa_no fun j hj => hno j (by omega)
    rw [e] at k
    exact k _ s1
end
end My

set_option Elab.async false
set_option linter.all false
set_option maxRecDepth 100000
set_option maxHeartbeats 4000000
namespace My
open PySem L2 MA
section
variable {P : Program} {w : World} {K : PySem.W.Frag} {mg : Str → Option Value} {base : Heap}
def spFullAt1 (c2 : Addr) : Sp := fun vs H Q E => ∃ a b xs ys qs rs, vs = [.ref a, .ref b] ∧ H a = some (.tup xs) ∧ H b = some (.tup ys) ∧ Shs H xs qs ∧ Shs H ys rs ∧ (qs.length ≠ rs.length → E (.ref c2) none H) ∧
  (qs.length = rs.length → ∃ B, Okr B qs ∧ Okr B rs ∧ ∀ H', Same H H' → Q (optV (faF qs rs)) H')
theorem ps_diff {qs rs : List Rat} {i : Nat} (h1 : i < qs.length) (h2 : i < rs.length) : psum (qs.take i) - psum (rs.take i) + (qs[i] - rs[i]) = psum (qs.take (i + 1)) - psum (rs.take (i + 1)) := by
  rw [psum_take h1, psum_take h2]
  grind
theorem num_pos {q r : Rat} : 0 < (q - r).num ↔ r < q := by
  have e : (r - q).num = - (q - r).num := by
    rw [show r - q = -(q - r) by grind]
    rfl
  have n := @Rat.num_nonneg (r - q)
  have m : 0 ≤ r - q ↔ q ≤ r := by constructor <;> intro h <;> grind
  rw [e] at n
  constructor
  · intro h
    refine Rat.not_le.mp fun z => ?_
    have := n.mpr (m.mpr z)
    omega
  · intro h
    have : ¬ 0 ≤ -(q - r).num := fun z => Rat.not_le.mpr h (m.mp (n.mp z))
    omega
theorem ok_fullat {er : Errs} (T : Txt2 mg) (C_ask_as_many : Cal1 P w K mg base "ask_as_many" ["one", "other"] 1 (spAsk1 er.c2)) (C_plus : Cal P w K mg base "plus" ["a", "b"] 2 spPlus) (C_minus : Cal P w K mg base "minus" ["a", "b"] 3 spMinus) (F : FunAt K mg "fuller_at" ["one", "other"] s_fuller_at) : Cal1 P w K mg base "fuller_at" ["one", "other"] 4 (spFullAt1 er.c2) := by
  have S := sc_fuller_at
  refine F.cal1 sc_fuller_at (fun vs H Q E h => ?_) (fun f cdv A outer s H vs Q E hr h => ?_)
  · obtain ⟨a, b, xs, ys, qs, rs, rfl, _⟩ := h; rfl
  obtain ⟨a, b, xs, ys, qs, rs, rfl, ha, hb, sq, sr, hE, k⟩ := h
  have lq := sq.length
  have lr := sr.length
  refine ⟨_, (@pss_cons _ _ _ _ _ (@ps_expr _ _ _ _ (@cc1 _ _ _ _ _ _ _ _ _ _ _ (by exact passes1) (by exact C_ask_as_many) (by exact (hr.mono (by decide))) (@pa_consN _ _ _ _ _ (pv 0) (@pa_consN _ _ _ _ _ (pv 1) pa_nil (by first | rfl | decide | exact Or.inl rfl | exact Or.inr rfl | (intro _; rfl) | (intro _ _; rfl) | (intro _ _ _; rfl))) (by first | rfl | decide | exact Or.inl rfl | exact Or.inr rfl | (intro _; rfl) | (intro _ _; rfl) | (intro _ _ _; rfl))) (by first | rfl | decide | exact Or.inl rfl | exact Or.inr rfl | (intro _; rfl) | (intro _ _; rfl) | (intro _ _ _; rfl)) (by first | rfl | decide | exact Or.inl rfl | exact Or.inr rfl | (intro _; rfl) | (intro _ _; rfl) | (intro _ _ _; rfl)) (by first | rfl | decide | exact Or.inl rfl | exact Or.inr rfl | (intro _; rfl) | (intro _ _; rfl) | (intro _ _ _; rfl)) (by first | rfl | decide | exact Or.inl rfl | exact Or.inr rfl | (intro _; rfl) | (intro _ _; rfl) | (intro _ _ _; rfl))) (by first | rfl | decide | exact Or.inl rfl | exact Or.inr rfl | (intro _; rfl) | (intro _ _; rfl) | (intro _ _ _; rfl))) (@pss_cons _ _ _ _ _ (@ps_set _ _ (2) _ _ _ _ (by exact S.nd) (by rfl) (by first | exact Or.inl rfl | exact Or.inr rfl) (@pe_tup _ _ _ _ _ (@pa_consN _ _ _ _ _ pe_int (@pa_consN _ _ _ _ _ pe_int pa_nil (by first | rfl | decide | exact Or.inl rfl | exact Or.inr rfl | (intro _; rfl) | (intro _ _; rfl) | (intro _ _ _; rfl))) (by first | rfl | decide | exact Or.inl rfl | exact Or.inr rfl | (intro _; rfl) | (intro _ _; rfl) | (intro _ _ _; rfl)))) (by first | rfl | decide | exact Or.inl rfl | exact Or.inr rfl | (intro _; rfl) | (intro _ _; rfl) | (intro _ _ _; rfl)) (by first | rfl | decide | exact Or.inl rfl | exact Or.inr rfl | (intro _; rfl) | (intro _ _; rfl) | (intro _ _ _; rfl))) (@pss_cons _ _ _ _ _ (@PS.nox _ _ _ (@ps_for _ _ _ _ _ _ _ _ (by exact PassesOwn.never) (by rfl) (@pi_enumZ1 false false _ _ _ _ _ _ _ _ _ _ _ _ _ _ (by rfl) (by exact T.z_enumerate) (by rfl) (by exact T.z_zip) (@pa_consN _ _ _ _ _ (pv 0) (@pa_consN _ _ _ _ _ (pv 1) pa_nil (by first | rfl | decide | exact Or.inl rfl | exact Or.inr rfl | (intro _; rfl) | (intro _ _; rfl) | (intro _ _ _; rfl))) (by first | rfl | decide | exact Or.inl rfl | exact Or.inr rfl | (intro _; rfl) | (intro _ _; rfl) | (intro _ _ _; rfl))) (by first | rfl | decide | exact Or.inl rfl | exact Or.inr rfl | (intro _; rfl) | (intro _ _; rfl) | (intro _ _ _; rfl)) (by first | rfl | decide | exact Or.inl rfl | exact Or.inr rfl | (intro _; rfl) | (intro _ _; rfl) | (intro _ _ _; rfl)) (by first | rfl | decide | exact Or.inl rfl | exact Or.inr rfl | (intro _; rfl) | (intro _ _; rfl) | (intro _ _ _; rfl)) (by first | rfl | decide | exact Or.inl rfl | exact Or.inr rfl | (intro _; rfl) | (intro _ _; rfl) | (intro _ _ _; rfl))) (@pg_tup _ _ _ _ _ _ (by rfl) (@pgs_cons _ _ _ _ _ (@pg_name _ _ (3) _ (by exact S.nd) (by rfl) (by first | exact Or.inl rfl | exact Or.inr rfl) (by first | rfl | decide | exact Or.inl rfl | exact Or.inr rfl | (intro _; rfl) | (intro _ _; rfl) | (intro _ _ _; rfl))) (@pgs_cons _ _ _ _ _ (@pg_tup _ _ _ _ _ _ (by rfl) (@pgs_cons _ _ _ _ _ (@pg_name _ _ (4) _ (by exact S.nd) (by rfl) (by first | exact Or.inl rfl | exact Or.inr rfl) (by first | rfl | decide | exact Or.inl rfl | exact Or.inr rfl | (intro _; rfl) | (intro _ _; rfl) | (intro _ _ _; rfl))) (@pgs_cons _ _ _ _ _ (@pg_name _ _ (5) _ (by exact S.nd) (by rfl) (by first | exact Or.inl rfl | exact Or.inr rfl) (by first | rfl | decide | exact Or.inl rfl | exact Or.inr rfl | (intro _; rfl) | (intro _ _; rfl) | (intro _ _ _; rfl))) pgs_nil (by first | rfl | decide | exact Or.inl rfl | exact Or.inr rfl | (intro _; rfl) | (intro _ _; rfl) | (intro _ _ _; rfl))) (by first | rfl | decide | exact Or.inl rfl | exact Or.inr rfl | (intro _; rfl) | (intro _ _; rfl) | (intro _ _ _; rfl))) (by first | rfl | decide | exact Or.inl rfl | exact Or.inr rfl | (intro _; rfl) | (intro _ _; rfl) | (intro _ _ _; rfl)) (by first | rfl | decide | exact Or.inl rfl | exact Or.inr rfl | (intro _; rfl) | (intro _ _; rfl) | (intro _ _ _; rfl))) pgs_nil (by first | rfl | decide | exact Or.inl rfl | exact Or.inr rfl | (intro _; rfl) | (intro _ _; rfl) | (intro _ _ _; rfl))) (by first | rfl | decide | exact Or.inl rfl | exact Or.inr rfl | (intro _; rfl) | (intro _ _; rfl) | (intro _ _ _; rfl))) (by first | rfl | decide | exact Or.inl rfl | exact Or.inr rfl | (intro _; rfl) | (intro _ _; rfl) | (intro _ _ _; rfl)) (by first | rfl | decide | exact Or.inl rfl | exact Or.inr rfl | (intro _; rfl) | (intro _ _; rfl) | (intro _ _ _; rfl))) (@pss_cons _ _ _ _ _ (@ps_set _ _ (2) _ _ _ _ (by exact S.nd) (by rfl) (by first | exact Or.inl rfl | exact Or.inr rfl) (@cc _ _ _ _ _ _ _ _ _ _ (by exact C_plus) (by exact (hr.mono (by decide))) (@pa_consN _ _ _ _ _ (pv 2) (@pa_consN _ _ _ _ _ (@cc _ _ _ _ _ _ _ _ _ _ (by exact C_minus) (by exact (hr.mono (by decide))) (@pa_consN _ _ _ _ _ (pv 4) (@pa_consN _ _ _ _ _ (pv 5) pa_nil (by first | rfl | decide | exact Or.inl rfl | exact Or.inr rfl | (intro _; rfl) | (intro _ _; rfl) | (intro _ _ _; rfl))) (by first | rfl | decide | exact Or.inl rfl | exact Or.inr rfl | (intro _; rfl) | (intro _ _; rfl) | (intro _ _ _; rfl))) (by first | rfl | decide | exact Or.inl rfl | exact Or.inr rfl | (intro _; rfl) | (intro _ _; rfl) | (intro _ _ _; rfl)) (by first | rfl | decide | exact Or.inl rfl | exact Or.inr rfl | (intro _; rfl) | (intro _ _; rfl) | (intro _ _ _; rfl)) (by first | rfl | decide | exact Or.inl rfl | exact Or.inr rfl | (intro _; rfl) | (intro _ _; rfl) | (intro _ _ _; rfl)) (by first | rfl | decide | exact Or.inl rfl | exact Or.inr rfl | (intro _; rfl) | (intro _ _; rfl) | (intro _ _ _; rfl))) pa_nil (by first | rfl | decide | exact Or.inl rfl | exact Or.inr rfl | (intro _; rfl) | (intro _ _; rfl) | (intro _ _ _; rfl))) (by first | rfl | decide | exact Or.inl rfl | exact Or.inr rfl | (intro _; rfl) | (intro _ _; rfl) | (intro _ _ _; rfl))) (by first | rfl | decide | exact Or.inl rfl | exact Or.inr rfl | (intro _; rfl) | (intro _ _; rfl) | (intro _ _ _; rfl)) (by first | rfl | decide | exact Or.inl rfl | exact Or.inr rfl | (intro _; rfl) | (intro _ _; rfl) | (intro _ _ _; rfl)) (by first | rfl | decide | exact Or.inl rfl | exact Or.inr rfl | (intro _; rfl) | (intro _ _; rfl) | (intro _ _ _; rfl)) (by first | rfl | decide | exact Or.inl rfl | exact Or.inr rfl | (intro _; rfl) | (intro _ _; rfl) | (intro _ _ _; rfl))) (by first | rfl | decide | exact Or.inl rfl | exact Or.inr rfl | (intro _; rfl) | (intro _ _; rfl) | (intro _ _ _; rfl)) (by first | rfl | decide | exact Or.inl rfl | exact Or.inr rfl | (intro _; rfl) | (intro _ _; rfl) | (intro _ _ _; rfl))) (@pss_one _ _ _ (@ps_if _ _ _ _ _ _ _ _ (@pt_cmpR _ _ _ _ _ _ _ _ op_gt (@pe_ix _ _ _ _ _ _ _ ix_tup (pv 2) pe_int (by exact (fun _ _ => rfl))) pe_int (by exact (nomark _))) (@pss_one _ _ _ (@ps_ret _ _ _ _ (pv 3))) pss_nil))) (by first | rfl | decide | exact Or.inl rfl | exact Or.inr rfl | (intro _; rfl) | (intro _ _; rfl) | (intro _ _ _; rfl)))) (@pss_one _ _ _ (@ps_ret _ _ _ _ pe_non))))), ?_⟩
  refine ⟨_, rfl, _, rfl, a, b, xs, ys, rfl, ha, hb, fun z => hE (by omega), fun el => ?_⟩
  obtain ⟨B, oq, orr, k⟩ := k (by omega)
  refine ⟨lz 2 rfl, fun t0 ht0 => ?_⟩
  have s0 := same_new ht0 (.tup [.int 0, .int 1])
  have e0 : psum (qs.take 0) - psum (rs.take 0) = 0 := by show (0 : Rat) - 0 = 0; grind
  have z0 : ShAt (upd H t0 (.tup [.int 0, .int 1])) (.ref t0) (psum (qs.take 0) - psum (rs.take 0)) := by rw [e0]; exact ⟨t0, rfl, upd_same⟩
  refine ⟨_, rfl, _, rfl, a, b, rfl, ⟨xs, SqB.t (s0 _ _ ha)⟩, ⟨ys, SqB.t (s0 _ _ hb)⟩, for_enumZ (xs := xs) (ys := ys) (fun i σ H' => (∃ m o3 o4 o5, σ = [some (.ref a), some (.ref b), some m, o3, o4, o5] ∧ ShAt H' m (psum (qs.take i) - psum (rs.take i))) ∧ Same H H' ∧ SB (i * (2 * B + 2) + 1) (psum (qs.take i) - psum (rs.take i)) ∧ ∀ j, j < i → faP qs rs j = false) el
    ⟨⟨_, _, _, _, rfl, z0⟩, s0, (by rw [e0]; exact SB.mono (m := 1) (q := 0) ⟨by decide, by decide⟩ (by omega)), fun j hj => by omega⟩ (fun i σ H' _ h => ⟨SqB.t (h.2.1 _ _ ha), SqB.t (h.2.1 _ _ hb)⟩) ?_ ?_⟩
  · rintro i x y p q σ H' hx hy ⟨⟨m, o3, o4, o5, rfl, hm⟩, s', bm, hno⟩ hp hq hpq
    obtain ⟨qa, eqa, hqa⟩ := sq.at hx
    obtain ⟨rb, erb, hrb⟩ := sr.at hy
    obtain ⟨i1, e1⟩ := List.getElem?_eq_some_iff.mp eqa
    obtain ⟨i2, e2⟩ := List.getElem?_eq_some_iff.mp erb
    have ba := (oq.1 qa (List.mem_of_getElem? eqa)).2
    have bb := (orr.1 rb (List.mem_of_getElem? erb)).2
    have step := ps_diff i1 i2
    rw [e1, e2] at step
    have s1 := same_new hp (.tup [x, y])
    have hq1 : (upd H' p (.tup [x, y])) q = none := by rw [upd_ne (Ne.symm hpq)]; exact hq
    have s2 := same_new hq1 (.tup [.int (1 + (i : Int)), .ref p])
    have s12 := s1.trans s2
    have hp2 := s2 _ _ (upd_same (H := H') (a := p) (o := .tup [x, y]))
    have B1 := oq.2.2.2.1
    have lim : i * (2 * B + 2) + 1 ≤ 3000 := by
      have := Nat.mul_le_mul_right (2 * B + 2) (show i ≤ qs.length - 1 by omega)
      have := oq.2.2.1
      omega
    have bd : SB (2 * B + 1) (qa - rb) := (ba.sub bb).mono (by omega)
    refine ⟨q, _, rfl, SqT.of upd_same, rfl, _, _, rfl, _, _, rfl, p, _, rfl, SqT.of hp2, rfl, _, _, rfl, _, _, rfl, rfl, rfl, ?_⟩
    refine ⟨_, rfl, _, rfl, _, rfl, _, _, qa, rb, rfl, hqa.same (s'.trans s12), hrb.same (s'.trans s12), ba.mono (by omega), bb.mono (by omega), trivial, fun v3 H3 s3 h3 => ?_⟩
    refine ⟨_, _, _, qa - rb, rfl, hm.same (s12.trans s3), h3, bm.mono lim, bd.mono (by omega), trivial, fun v4 H4 s4 h4 => ?_⟩
    have hs : Same H H4 := (s'.trans s12).trans (s3.trans s4)
    dsimp only at h4
    rw [step] at h4
    obtain ⟨t4, rfl, ht4⟩ := h4
    refine ⟨_, rfl, t4, _, _, _, rfl, rfl, SqT.of ht4, rfl, _, _, rfl, rfl, _, rfl, ?_⟩
    refine ite2 (fun c => ?_) (fun c => ?_)
    · have eo := fa_at i1 (decide_eq_true (num_pos.mp (of_decide_eq_true c))) hno
      have := k _ hs
      rw [eo] at this
      refine ⟨_, rfl, ?_⟩
      have e : (1 : Int) + (i : Int) = ((i + 1 : Nat) : Int) := by omega
      rw [e]
      exact this
    · refine ⟨⟨_, _, _, _, rfl, t4, rfl, ht4⟩, hs, ?_, fun j hj => ?_⟩
      · rw [← step]
        refine (bm.add bd).mono ?_
        rw [Nat.add_mul]
        omega
      · by_cases ej : j = i
        · subst ej
          exact decide_eq_false fun z => c (decide_eq_true (num_pos.mpr z))
        · exact hno j (by omega)
  · rintro σ H' ⟨⟨m, o3, o4, o5, rfl, hm⟩, s', bm, hno⟩
    have e : faF qs rs = none := fa_no fun j hj => hno j (by omega)
    have := k _ s'
    rw [e] at this
    exact this
end
end My

set_option Elab.async false
set_option linter.all false
set_option maxRecDepth 100000
set_option maxHeartbeats 4000000
namespace My
open PySem L2 MA
/-- 2 (n - 1), .., 2, 0 -/
def evF (n : Nat) : List Int := (List.range n).map fun (i : Nat) => 2 * ((n : Int) - 1 - i)
theorem ev_rev (n : Nat) : evF n = ((List.range n).map fun (i : Nat) => 2 * (0 + (i : Int))).reverse := by
  apply List.ext_getElem
  · simp [evF]
  · intro i h1 h2
    simp [evF] at h1 ⊢
    omega
/-- what parting tells -/
def PartAt (H : Hp) (v : V) (n : Nat) : Option Nat → Prop
  | none => v = .non
  | some k => ∃ p t, v = .ref p ∧ H p = some (.tup [.ref t, .int (k : Int)]) ∧ H t = some (.tup (iv (evF n)))
section
variable {P : Program} {w : World} {K : PySem.W.Frag} {mg : Str → Option Value} {base : Heap}
def spParting1 (c2 : Addr) : Sp := fun vs H Q E => ∃ a b xs ys qs rs, vs = [.ref a, .ref b] ∧ H a = some (.tup xs) ∧ H b = some (.tup ys) ∧ Shs H xs qs ∧ Shs H ys rs ∧ (qs.length ≠ rs.length → E (.ref c2) none H) ∧
  (qs.length = rs.length → ∃ B, Okr B qs ∧ Okr B rs ∧ ∀ v H', Same H H' → PartAt H' v qs.length (faF qs rs) → Q v H')
theorem ok_parting {er : Errs} (T : Txt2 mg) (C_fuller_at : Cal1 P w K mg base "fuller_at" ["one", "other"] 4 (spFullAt1 er.c2)) (F : FunAt K mg "parting" ["one", "other"] s_parting) : Cal1 P w K mg base "parting" ["one", "other"] 5 (spParting1 er.c2) := by
  have S := sc_parting
  refine F.cal1 sc_parting (fun vs H Q E h => ?_) (fun f cdv A outer s H vs Q E hr h => ?_)
  · obtain ⟨a, b, xs, ys, qs, rs, rfl, _⟩ := h; rfl
  obtain ⟨a, b, xs, ys, qs, rs, rfl, ha, hb, sq, sr, hE, k⟩ := h
  have lq := sq.length
  refine ⟨_, (@pss_cons _ _ _ _ _ (@ps_set _ _ (2) _ _ _ _ (by exact S.nd) (by rfl) (by first | exact Or.inl rfl | exact Or.inr rfl) (@cc1 _ _ _ _ _ _ _ _ _ _ _ (by exact passes1) (by exact C_fuller_at) (by exact (hr.mono (by decide))) (@pa_consN _ _ _ _ _ (pv 0) (@pa_consN _ _ _ _ _ (pv 1) pa_nil (by first | rfl | decide | exact Or.inl rfl | exact Or.inr rfl | (intro _; rfl) | (intro _ _; rfl) | (intro _ _ _; rfl))) (by first | rfl | decide | exact Or.inl rfl | exact Or.inr rfl | (intro _; rfl) | (intro _ _; rfl) | (intro _ _ _; rfl))) (by first | rfl | decide | exact Or.inl rfl | exact Or.inr rfl | (intro _; rfl) | (intro _ _; rfl) | (intro _ _ _; rfl)) (by first | rfl | decide | exact Or.inl rfl | exact Or.inr rfl | (intro _; rfl) | (intro _ _; rfl) | (intro _ _ _; rfl)) (by first | rfl | decide | exact Or.inl rfl | exact Or.inr rfl | (intro _; rfl) | (intro _ _; rfl) | (intro _ _ _; rfl)) (by first | rfl | decide | exact Or.inl rfl | exact Or.inr rfl | (intro _; rfl) | (intro _ _; rfl) | (intro _ _ _; rfl))) (by first | rfl | decide | exact Or.inl rfl | exact Or.inr rfl | (intro _; rfl) | (intro _ _; rfl) | (intro _ _ _; rfl)) (by first | rfl | decide | exact Or.inl rfl | exact Or.inr rfl | (intro _; rfl) | (intro _ _; rfl) | (intro _ _ _; rfl))) (@pss_cons _ _ _ _ _ (@ps_if _ _ _ _ _ _ _ _ (@pt_cmpR _ _ _ _ _ _ _ _ op_isN (pv 2) pe_non (by exact (nomark _))) (@pss_one _ _ _ (@ps_ret _ _ _ _ pe_non)) pss_nil) (@pss_one _ _ _ (@ps_ret _ _ _ _ (@PE.nox _ _ _ (@pe_tup _ _ _ _ _ (@pa_consN _ _ _ _ _ (@pe_callTy _ _ _ _ _ _ _ _ _ call_tuple_of (by rfl) (by exact T.z_tuple) (by exact bt_tuple) (@pa_consN _ _ _ _ _ (@pe_comp0 _ _ _ _ _ _ _ _ _ _ _ (["rank"]) (fun _ => [none]) (by rfl) (by exact (fun _ _ h => h)) (by decide +kernel) (by rfl) (by decide +kernel) (by decide +kernel) (by exact Sees.none1) (@pi_revR _ _ _ _ _ _ _ _ (by rfl) (by exact T.z_reversed) (by rfl) (by exact T.z_range) (@pa_consN _ _ _ _ _ (@pe_callB _ _ _ _ _ _ _ _ _ call_len_seq (by rfl) (by exact T.z_len) (by exact bt_len) (@pa_consN _ _ _ _ _ (pv 0) pa_nil (by first | rfl | decide | exact Or.inl rfl | exact Or.inr rfl | (intro _; rfl) | (intro _ _; rfl) | (intro _ _ _; rfl))) (by first | rfl | decide | exact Or.inl rfl | exact Or.inr rfl | (intro _; rfl) | (intro _ _; rfl) | (intro _ _ _; rfl)) (by first | rfl | decide | exact Or.inl rfl | exact Or.inr rfl | (intro _; rfl) | (intro _ _; rfl) | (intro _ _ _; rfl)) (by first | rfl | decide | exact Or.inl rfl | exact Or.inr rfl | (intro _; rfl) | (intro _ _; rfl) | (intro _ _ _; rfl)) (by first | rfl | decide | exact Or.inl rfl | exact Or.inr rfl | (intro _; rfl) | (intro _ _; rfl) | (intro _ _ _; rfl))) pa_nil (by first | rfl | decide | exact Or.inl rfl | exact Or.inr rfl | (intro _; rfl) | (intro _ _; rfl) | (intro _ _ _; rfl))) (by first | rfl | decide | exact Or.inl rfl | exact Or.inr rfl | (intro _; rfl) | (intro _ _; rfl) | (intro _ _ _; rfl)) (by first | rfl | decide | exact Or.inl rfl | exact Or.inr rfl | (intro _; rfl) | (intro _ _; rfl) | (intro _ _ _; rfl))) (fun _ _ _ _ _ => @pg_name _ _ (0) _ (by exact (show (["rank"] : List Str).Nodup by decide +kernel)) (by rfl) (by first | exact Or.inl rfl | exact Or.inr rfl) (by first | rfl | decide | exact Or.inl rfl | exact Or.inr rfl | (intro _; rfl) | (intro _ _; rfl) | (intro _ _ _; rfl))) (fun _ _ _ _ _ => pts_nil) (fun _ _ _ _ _ => (@pe_op _ _ _ _ _ _ _ _ op_mul pe_int (pv 0))) (by first | rfl | decide | exact Or.inl rfl | exact Or.inr rfl | (intro _; rfl) | (intro _ _; rfl) | (intro _ _ _; rfl))) pa_nil (by first | rfl | decide | exact Or.inl rfl | exact Or.inr rfl | (intro _; rfl) | (intro _ _; rfl) | (intro _ _ _; rfl))) (by first | rfl | decide | exact Or.inl rfl | exact Or.inr rfl | (intro _; rfl) | (intro _ _; rfl) | (intro _ _ _; rfl)) (by first | rfl | decide | exact Or.inl rfl | exact Or.inr rfl | (intro _; rfl) | (intro _ _; rfl) | (intro _ _ _; rfl)) (by first | rfl | decide | exact Or.inl rfl | exact Or.inr rfl | (intro _; rfl) | (intro _ _; rfl) | (intro _ _ _; rfl)) (by first | rfl | decide | exact Or.inl rfl | exact Or.inr rfl | (intro _; rfl) | (intro _ _; rfl) | (intro _ _ _; rfl))) (@pa_consN _ _ _ _ _ (pv 2) pa_nil (by first | rfl | decide | exact Or.inl rfl | exact Or.inr rfl | (intro _; rfl) | (intro _ _; rfl) | (intro _ _ _; rfl))) (by first | rfl | decide | exact Or.inl rfl | exact Or.inr rfl | (intro _; rfl) | (intro _ _; rfl) | (intro _ _ _; rfl))))))))), ?_⟩
  refine ⟨_, rfl, _, rfl, a, b, xs, ys, qs, rs, rfl, ha, hb, sq, sr, hE, fun el => ?_⟩
  obtain ⟨B, oq, orr, k⟩ := k el
  refine ⟨B, oq, orr, fun H1 s1 => ?_⟩
  have l12 := oq.2.1
  cases ef : faF qs rs with
  | none =>
    rw [ef] at k
    exact ⟨_, rfl, rfl, _, rfl, iteT (k _ _ s1 rfl)⟩
  | some n =>
    rw [ef] at k
    refine ⟨_, rfl, rfl, _, rfl, iteF ?_⟩
    refine ⟨_, rfl, a, _, rfl, .inr (SqT.of (s1 _ _ ha)), qs.length, by rw [lq], by omega, comp_revR (n := qs.length) (fs := []) (fun acc i ys H' => Same H1 H' ∧ ys = iv ((List.range i).map fun (j : Nat) => 2 * ((qs.length : Int) - 1 - j))) (by omega) ?_ ?_ ?_⟩
    · intro acc hacc
      exact ⟨same_new hacc _, rfl⟩
    · rintro acc i ys H' hacc hi hl ⟨s', rfl⟩ hH' Q' hQ
      refine ⟨_, rfl, _, _, rfl, rfl, .inl ⟨by omega, by omega⟩, ?_⟩
      refine hQ _ H' hH' ⟨same_upd s' hacc, ?_⟩
      rw [map_range_succ]
      simp [iv]
    · rintro acc ys H' hacc ⟨s', rfl⟩ hH' hl
      refine ⟨acc, _, rfl, .inl ⟨SqL.of hH', fun t ht => ?_⟩⟩
      have st := same_new ht (.tup (iv ((List.range qs.length).map fun (j : Nat) => 2 * ((qs.length : Int) - 1 - j))))
      refine ⟨_, rfl, lz 2 rfl, fun p hp => ?_⟩
      have sp := same_new hp (.tup [.ref t, .int (n : Int)])
      exact k _ _ (s1.trans (s'.trans (st.trans sp))) ⟨p, t, rfl, upd_same, sp _ _ upd_same⟩
def spRefused (P : Program) (w : World) (K : PySem.W.Frag) (mg : Str → Option Value) (base : Heap) (c2 : Addr) : Sp := fun vs H Q _ => ∃ f a b ps sp, vs = [.ref f, a, b] ∧ FnV P w K mg base 5 f ps sp ∧ (∀ Q' E', E' (.ref c2) none H → sp [a, b] H Q' E') ∧ ∀ H', Same H H' → Q (.bl true) H'
theorem kit_c2 {K : PySem.W.Frag} {e : Errs} (z : ErrI K e e.c2 2) : PySem.W.kitAny K (.ref e.c2) ([e.c3, e.c5, e.c1, e.c6, e.c8, e.c0, e.c7, e.c4].map Value.ref) = some false := by
  have k0 := z.i0; have k1 := z.i1; have k3 := z.i3; have k4 := z.i4; have k5 := z.i5; have k6 := z.i6; have k7 := z.i7; have k8 := z.i8
  rw [show decide ((2 : Nat) = 0) = false from rfl] at k0; rw [show decide ((2 : Nat) = 1) = false from rfl] at k1; rw [show decide ((2 : Nat) = 3) = false from rfl] at k3; rw [show decide ((2 : Nat) = 4) = false from rfl] at k4; rw [show decide ((2 : Nat) = 5) = false from rfl] at k5; rw [show decide ((2 : Nat) = 6) = false from rfl] at k6; rw [show decide ((2 : Nat) = 7) = false from rfl] at k7; rw [show decide ((2 : Nat) = 8) = false from rfl] at k8
  simp only [List.map_cons, List.map_nil, PySem.W.kitAny, k0, k1, k3, k4, k5, k6, k7, k8]
theorem ok_refused {er : Errs} (T : Txt2 mg) (N : ErrN mg er) (z : ErrI K er er.c2 2) (F : FunAt K mg "_law_is_refused" ["_law_ask", "_law_one", "_law_other"] s_l_is_refused) : Cal P w K mg base "_law_is_refused" ["_law_ask", "_law_one", "_law_other"] 6 (spRefused P w K mg base er.c2) := by
  have S := sc_l_is_refused
  refine F.cal sc_l_is_refused (fun vs H Q E h => ?_) (fun f cdv A outer s H vs Q E hr h => ?_)
  · obtain ⟨f, a, b, ps, sp, rfl, _⟩ := h; rfl
  obtain ⟨f, a, b, ps, sp, rfl, fv, hs, k⟩ := h
  refine ⟨_, (@pss_cons _ _ _ _ _ (@ps_set _ _ (3) _ _ _ _ (by exact S.nd) (by rfl) (by first | exact Or.inl rfl | exact Or.inr rfl) pe_non (by first | rfl | decide | exact Or.inl rfl | exact Or.inr rfl | (intro _; rfl) | (intro _ _; rfl) | (intro _ _ _; rfl)) (by first | rfl | decide | exact Or.inl rfl | exact Or.inr rfl | (intro _; rfl) | (intro _ _; rfl) | (intro _ _ _; rfl))) (@pss_cons _ _ _ _ _ (@ps_tryAs _ _ _ _ _ _ _ _ _ _ (4) _ _ (by exact body_nox) (by exact S.nd) (by rfl) (by rfl) (by rfl) (by exact N.ball) (@psx_expr _ _ _ _ (@pex_callV _ (0) (5) _ _ _ _ _ _ (by exact (hr.mono (by decide))) (by rfl) (by first | exact Or.inl rfl | exact Or.inr rfl) (@pa_consN _ _ _ _ _ (pv 1) (@pa_consN _ _ _ _ _ (pv 2) pa_nil (by first | rfl | decide | exact Or.inl rfl | exact Or.inr rfl | (intro _; rfl) | (intro _ _; rfl) | (intro _ _ _; rfl))) (by first | rfl | decide | exact Or.inl rfl | exact Or.inr rfl | (intro _; rfl) | (intro _ _; rfl) | (intro _ _ _; rfl))) (by first | rfl | decide | exact Or.inl rfl | exact Or.inr rfl | (intro _; rfl) | (intro _ _; rfl) | (intro _ _ _; rfl)) (by first | rfl | decide | exact Or.inl rfl | exact Or.inr rfl | (intro _; rfl) | (intro _ _; rfl) | (intro _ _ _; rfl)) (by first | rfl | decide | exact Or.inl rfl | exact Or.inr rfl | (intro _; rfl) | (intro _ _; rfl) | (intro _ _ _; rfl)) (by first | rfl | decide | exact Or.inl rfl | exact Or.inr rfl | (intro _; rfl) | (intro _ _; rfl) | (intro _ _ _; rfl))) (by first | rfl | decide | exact Or.inl rfl | exact Or.inr rfl | (intro _; rfl) | (intro _ _; rfl) | (intro _ _ _; rfl))) (fun _ => (@pss_one _ _ _ (@ps_set _ _ (3) _ _ _ _ (by exact S.nd) (by rfl) (by first | exact Or.inl rfl | exact Or.inr rfl) (pv 4) (by first | rfl | decide | exact Or.inl rfl | exact Or.inr rfl | (intro _; rfl) | (intro _ _; rfl) | (intro _ _ _; rfl)) (by first | rfl | decide | exact Or.inl rfl | exact Or.inr rfl | (intro _; rfl) | (intro _ _; rfl) | (intro _ _ _; rfl))))) (by first | rfl | decide | exact Or.inl rfl | exact Or.inr rfl | (intro _; rfl) | (intro _ _; rfl) | (intro _ _ _; rfl))) (@pss_cons _ _ _ _ _ (@ps_if _ _ _ _ _ _ _ _ (@pt_val _ _ _ (@pe_callB _ _ _ _ _ _ _ _ _ call_isiET (by rfl) (by exact T.z_isinstance) (by exact bt_isinstance) (@pa_consN _ _ _ _ _ (pv 3) (@pa_consN _ _ _ _ _ (@pe_tup _ _ _ _ _ (@pa_consN _ _ _ _ _ (@pe_glob _ _ (.ref er.c3) _ _ (by rfl) (by exact N.m3) (by rfl) (by first | rfl | decide | exact Or.inl rfl | exact Or.inr rfl | (intro _; rfl) | (intro _ _; rfl) | (intro _ _ _; rfl))) (@pa_consN _ _ _ _ _ (@pe_glob _ _ (.ref er.c5) _ _ (by rfl) (by exact N.m5) (by rfl) (by first | rfl | decide | exact Or.inl rfl | exact Or.inr rfl | (intro _; rfl) | (intro _ _; rfl) | (intro _ _ _; rfl))) (@pa_consN _ _ _ _ _ (@pe_glob _ _ (.ref er.c1) _ _ (by rfl) (by exact N.m1) (by rfl) (by first | rfl | decide | exact Or.inl rfl | exact Or.inr rfl | (intro _; rfl) | (intro _ _; rfl) | (intro _ _ _; rfl))) (@pa_consN _ _ _ _ _ (@pe_glob _ _ (.ref er.c6) _ _ (by rfl) (by exact N.m6) (by rfl) (by first | rfl | decide | exact Or.inl rfl | exact Or.inr rfl | (intro _; rfl) | (intro _ _; rfl) | (intro _ _ _; rfl))) (@pa_consN _ _ _ _ _ (@pe_glob _ _ (.ref er.c8) _ _ (by rfl) (by exact N.m8) (by rfl) (by first | rfl | decide | exact Or.inl rfl | exact Or.inr rfl | (intro _; rfl) | (intro _ _; rfl) | (intro _ _ _; rfl))) (@pa_consN _ _ _ _ _ (@pe_glob _ _ (.ref er.c0) _ _ (by rfl) (by exact N.m0) (by rfl) (by first | rfl | decide | exact Or.inl rfl | exact Or.inr rfl | (intro _; rfl) | (intro _ _; rfl) | (intro _ _ _; rfl))) (@pa_consN _ _ _ _ _ (@pe_glob _ _ (.ref er.c7) _ _ (by rfl) (by exact N.m7) (by rfl) (by first | rfl | decide | exact Or.inl rfl | exact Or.inr rfl | (intro _; rfl) | (intro _ _; rfl) | (intro _ _ _; rfl))) (@pa_consN _ _ _ _ _ (@pe_glob _ _ (.ref er.c4) _ _ (by rfl) (by exact N.m4) (by rfl) (by first | rfl | decide | exact Or.inl rfl | exact Or.inr rfl | (intro _; rfl) | (intro _ _; rfl) | (intro _ _ _; rfl))) pa_nil (by first | rfl | decide | exact Or.inl rfl | exact Or.inr rfl | (intro _; rfl) | (intro _ _; rfl) | (intro _ _ _; rfl))) (by first | rfl | decide | exact Or.inl rfl | exact Or.inr rfl | (intro _; rfl) | (intro _ _; rfl) | (intro _ _ _; rfl))) (by first | rfl | decide | exact Or.inl rfl | exact Or.inr rfl | (intro _; rfl) | (intro _ _; rfl) | (intro _ _ _; rfl))) (by first | rfl | decide | exact Or.inl rfl | exact Or.inr rfl | (intro _; rfl) | (intro _ _; rfl) | (intro _ _ _; rfl))) (by first | rfl | decide | exact Or.inl rfl | exact Or.inr rfl | (intro _; rfl) | (intro _ _; rfl) | (intro _ _ _; rfl))) (by first | rfl | decide | exact Or.inl rfl | exact Or.inr rfl | (intro _; rfl) | (intro _ _; rfl) | (intro _ _ _; rfl))) (by first | rfl | decide | exact Or.inl rfl | exact Or.inr rfl | (intro _; rfl) | (intro _ _; rfl) | (intro _ _ _; rfl))) (by first | rfl | decide | exact Or.inl rfl | exact Or.inr rfl | (intro _; rfl) | (intro _ _; rfl) | (intro _ _ _; rfl)))) pa_nil (by first | rfl | decide | exact Or.inl rfl | exact Or.inr rfl | (intro _; rfl) | (intro _ _; rfl) | (intro _ _ _; rfl))) (by first | rfl | decide | exact Or.inl rfl | exact Or.inr rfl | (intro _; rfl) | (intro _ _; rfl) | (intro _ _ _; rfl))) (by first | rfl | decide | exact Or.inl rfl | exact Or.inr rfl | (intro _; rfl) | (intro _ _; rfl) | (intro _ _ _; rfl)) (by first | rfl | decide | exact Or.inl rfl | exact Or.inr rfl | (intro _; rfl) | (intro _ _; rfl) | (intro _ _ _; rfl)) (by first | rfl | decide | exact Or.inl rfl | exact Or.inr rfl | (intro _; rfl) | (intro _ _; rfl) | (intro _ _ _; rfl)) (by first | rfl | decide | exact Or.inl rfl | exact Or.inr rfl | (intro _; rfl) | (intro _ _; rfl) | (intro _ _ _; rfl))) (by first | rfl | decide | exact Or.inl rfl | exact Or.inr rfl | (intro _; rfl) | (intro _ _; rfl) | (intro _ _ _; rfl))) (@pss_one _ _ _ (@ps_ret _ _ _ _ pe_bl)) pss_nil) (@pss_one _ _ _ (@ps_ret _ _ _ _ (@pe_and _ _ _ _ _ _ _ (@pe_callB _ _ _ _ _ _ _ _ _ call_isiE (by rfl) (by exact T.z_isinstance) (by exact bt_isinstance) (@pa_consN _ _ _ _ _ (pv 3) (@pa_consN _ _ _ _ _ (@pe_glob _ _ (.ref er.c2) _ _ (by rfl) (by exact N.m2) (by rfl) (by first | rfl | decide | exact Or.inl rfl | exact Or.inr rfl | (intro _; rfl) | (intro _ _; rfl) | (intro _ _ _; rfl))) pa_nil (by first | rfl | decide | exact Or.inl rfl | exact Or.inr rfl | (intro _; rfl) | (intro _ _; rfl) | (intro _ _ _; rfl))) (by first | rfl | decide | exact Or.inl rfl | exact Or.inr rfl | (intro _; rfl) | (intro _ _; rfl) | (intro _ _ _; rfl))) (by first | rfl | decide | exact Or.inl rfl | exact Or.inr rfl | (intro _; rfl) | (intro _ _; rfl) | (intro _ _ _; rfl)) (by first | rfl | decide | exact Or.inl rfl | exact Or.inr rfl | (intro _; rfl) | (intro _ _; rfl) | (intro _ _ _; rfl)) (by first | rfl | decide | exact Or.inl rfl | exact Or.inr rfl | (intro _; rfl) | (intro _ _; rfl) | (intro _ _ _; rfl)) (by first | rfl | decide | exact Or.inl rfl | exact Or.inr rfl | (intro _; rfl) | (intro _ _; rfl) | (intro _ _ _; rfl))) (@pe_one _ _ _ _ _ (@pe_callB _ _ _ _ _ _ _ _ _ call_isiE (by rfl) (by exact T.z_isinstance) (by exact bt_isinstance) (@pa_consN _ _ _ _ _ (pv 3) (@pa_consN _ _ _ _ _ (@pe_bltn _ _ (.ty "ValueError") _ _ (by rfl) (by exact T.z_ValueError) (by exact bt_ValueError) (by rfl) (by first | rfl | decide | exact Or.inl rfl | exact Or.inr rfl | (intro _; rfl) | (intro _ _; rfl) | (intro _ _ _; rfl)) (by first | rfl | decide | exact Or.inl rfl | exact Or.inr rfl | (intro _; rfl) | (intro _ _; rfl) | (intro _ _ _; rfl))) pa_nil (by first | rfl | decide | exact Or.inl rfl | exact Or.inr rfl | (intro _; rfl) | (intro _ _; rfl) | (intro _ _ _; rfl))) (by first | rfl | decide | exact Or.inl rfl | exact Or.inr rfl | (intro _; rfl) | (intro _ _; rfl) | (intro _ _ _; rfl))) (by first | rfl | decide | exact Or.inl rfl | exact Or.inr rfl | (intro _; rfl) | (intro _ _; rfl) | (intro _ _ _; rfl)) (by first | rfl | decide | exact Or.inl rfl | exact Or.inr rfl | (intro _; rfl) | (intro _ _; rfl) | (intro _ _ _; rfl)) (by first | rfl | decide | exact Or.inl rfl | exact Or.inr rfl | (intro _; rfl) | (intro _ _; rfl) | (intro _ _ _; rfl)) (by first | rfl | decide | exact Or.inl rfl | exact Or.inr rfl | (intro _; rfl) | (intro _ _; rfl) | (intro _ _ _; rfl)))))))))), ?_⟩
  refine ⟨f, ps, sp, rfl, fv, _, rfl, _, rfl, hs _ _ ⟨er.c2, rfl, z.ball, fun p hp => ?_⟩⟩
  have he : (upd H p (excO p er.c2)) p = some (excO p er.c2) := upd_same
  have s0 : Same H (upd H p (excO p er.c2)) := same_new hp _
  refine ⟨_, rfl, ?_⟩
  generalize upd H p (excO p er.c2) = H2 at he s0
  refine ⟨_, rfl, lz 8 rfl, fun t ht => ?_⟩
  have st := same_new ht (.tup [.ref er.c3, .ref er.c5, .ref er.c1, .ref er.c6, .ref er.c8, .ref er.c0, .ref er.c7, .ref er.c4])
  refine ⟨p, er.c2, t, [er.c3, er.c5, er.c1, er.c6, er.c8, er.c0, er.c7, er.c4], false, rfl, st _ _ he, z.ek, upd_same, kit_c2 z, _, rfl, iteF ?_⟩
  replace he := st _ _ he
  replace s0 := s0.trans st
  refine ⟨_, rfl, p, er.c2, _, _, _, rfl, rfl, he, z.ek, z.i2, ?_⟩
  exact ⟨_, rfl, iteT ⟨_, rfl, p, er.c2, _, _, _, rfl, rfl, he, z.ek, z.ve, k _ s0⟩⟩
end
end My

set_option Elab.async false
set_option linter.all false
set_option maxRecDepth 100000
set_option maxHeartbeats 4000000
namespace My
open PySem L2 MA
/-! beside the pen -/
theorem PenZ.ne {K : PySem.W.Frag} {H : Hp} {p q : Addr} {n : Nat} (h : PenZ K H p n) (hq : H q = none) : q ≠ p := fun e => by
  obtain ⟨c, ns, a, x, h1, _⟩ := h
  rw [← e, hq] at h1
  cases h1
theorem PenZ.keepT {K : PySem.W.Frag} {H H' : Hp} {p b : Addr} {n : Nat} {xs : List V} (h : PenZ K H p n) (x : SameY p H H') (hb : H b = some (.tup xs)) : H' b = some (.tup xs) := x.all b _ hb (by
  rintro rfl
  obtain ⟨c, ns, a, l, h1, _⟩ := h
  rw [hb] at h1
  cases h1)
theorem PenZ.neL {K : PySem.W.Frag} {H : Hp} {p b : Addr} {n : Nat} {ns : List Int} (h : PenZ K H p n) (hb : H b = some (.lst (iv ns))) : b ≠ p := by
  rintro rfl
  obtain ⟨c, ms, a, l, h1, _⟩ := h
  rw [hb] at h1
  exact not_pen (HO.lst.inj (Option.some.inj h1)).symm
theorem PenZ.keepL {K : PySem.W.Frag} {H H' : Hp} {p b : Addr} {n : Nat} {ns : List Int} (h : PenZ K H p n) (x : SameY p H H') (hb : H b = some (.lst (iv ns))) : H' b = some (.lst (iv ns)) := x.all b _ hb (h.neL hb)
theorem penZ_upd {K : PySem.W.Frag} {H H2 : Hp} {p acc : Addr} {n m : Nat} (hn : H acc = none) (hp : PenZ K H p n) (x : SameY p H H2) (hp2 : PenZ K H2 p m) (o : HO) : PenZ K (upd H2 acc o) p m ∧ SameY p H (upd H2 acc o) := by
  have pa := hp.ne hn
  obtain ⟨c, ns, a, l, h1, h2, h3, h4⟩ := hp
  obtain ⟨c2, ns2, a2, l2, g1, g2, g3, g4⟩ := hp2
  obtain ⟨a', l', e'⟩ := x.pen c a l h1
  have ec : c2 = c := by
    rw [g1] at e'
    have := HO.lst.inj (Option.some.inj e')
    simp [penV] at this
    exact this.1
  subst ec
  refine ⟨⟨c2, ns, a2, l2, ?_, ?_, g3, g4⟩, ⟨fun b o' e hb => ?_, fun c' a'' l'' e => ?_⟩⟩
  · rw [upd_ne (Ne.symm pa)]; exact g1
  · rcases sq_ne h2 h1 with ⟨o', e, ne, f⟩ | f
    · refine f _ ?_
      rw [upd_ne (fun z => by rw [z, hn] at e; cases e)]
      exact x.all _ _ e ne
    · exact f _
  · rw [upd_ne (fun z => by rw [z, hn] at e; cases e)]
    exact x.all _ _ e hb
  · obtain ⟨a3, l3, e3⟩ := x.pen c' a'' l'' e
    exact ⟨a3, l3, by rw [upd_ne (Ne.symm pa)]; exact e3⟩
theorem ShAt.keepZ {K : PySem.W.Frag} {H H' : Hp} {p : Addr} {n : Nat} {v : V} {q : Rat} (hp : PenZ K H p n) (x : SameY p H H') (h : ShAt H v q) : ShAt H' v q := let ⟨a, e, h⟩ := h; ⟨a, e, hp.keepT x h⟩
theorem Shs.keepZ {K : PySem.W.Frag} {H H' : Hp} {p : Addr} {n : Nat} (hp : PenZ K H p n) (x : SameY p H H') : ∀ {xs : List V} {qs : List Rat}, Shs H xs qs → Shs H' xs qs
  | _, _, .nil => .nil
  | _, _, .cons r t => .cons (ShAt.keepZ hp x r) (Shs.keepZ hp x t)
theorem RuAt.keepZ {K : PySem.W.Frag} {H H' : Hp} {p : Addr} {n : Nat} {v : V} {qs : List Rat} (hp : PenZ K H p n) (x : SameY p H H') (h : RuAt H v qs) : RuAt H' v qs := let ⟨a, xs, e, h1, h2⟩ := h; ⟨a, xs, e, hp.keepT x h1, Shs.keepZ hp x h2⟩
theorem ixN_lt {n j : Nat} (h : j < n) : ixN n (j : Int) = some j := by
  unfold ixN
  simp only [Int.natCast_nonneg, if_true, decide_true, Int.toNat_natCast]
  first
  | rw [if_pos h]
  | (split <;> first | rfl | omega)
/-- weights: no one below 0, some above it -/
structure Wts (n : Nat) (ws : List Int) : Prop where
  len : ws.length = n
  rng : ∀ x ∈ ws, 0 ≤ x ∧ x ≤ 960
  pos : 0 < ws.sum
  top : ws.sum ≤ 960
theorem sum_le {ws : List Int} {B : Nat} : (∀ x ∈ ws, 0 ≤ x ∧ x ≤ (B : Int)) → 0 ≤ ws.sum ∧ ws.sum ≤ ((ws.length * B : Nat) : Int) := by
  intro h
  induction ws with
  | nil => simp
  | cons x r ih =>
    have h1 := h x (by simp)
    have h2 := ih fun y hy => h y (by simp [hy])
    rw [List.sum_cons, List.length_cons, Nat.add_mul]
    omega
section
variable {P : Program} {w : World} {K : PySem.W.Frag} {mg : Str → Option Value} {base : Heap}
def spWeights (K : PySem.W.Frag) : Sp := fun vs H Q _ => ∃ (p : Addr) (n m : Nat), vs = [.ref p, .int (n : Int)] ∧ PenZ K H p m ∧ m + 14 ≤ 100000 ∧ 1 ≤ n ∧ n ≤ 12 ∧ ∀ (l : Addr) (ws : List Int) (H' : Hp), Wts n ws → H' l = some (.lst (iv ws)) → PenZ K H' p (m + 14) → SameY p H H' → Q (.ref l) H'
theorem ok_weights (T : Txt2 mg) (C_l_take : Cal P w K mg base "_law_take" ["_law_pen_here", "_law_many"] 1 (spTakeZ K)) (F : FunAt K mg "_law_weights" ["_law_pen_here", "_law_boxes"] s_l_weights) : Cal P w K mg base "_law_weights" ["_law_pen_here", "_law_boxes"] 2 (spWeights K) := by
  have S := sc_l_weights
  refine F.cal sc_l_weights (fun vs H Q E h => ?_) (fun f cdv A outer s H vs Q E hr h => ?_)
  · obtain ⟨p, n, m, rfl, _⟩ := h; rfl
  obtain ⟨p, n, m, rfl, hp, hm, n1, n12, k⟩ := h
  refine ⟨_, (@pss_cons _ _ _ _ _ (@ps_set _ _ (2) _ _ _ _ (by exact S.nd) (by rfl) (by first | exact Or.inl rfl | exact Or.inr rfl) (@pe_ix _ _ _ _ _ _ _ ix_tup (@pe_tup _ _ _ _ _ (@pa_consN _ _ _ _ _ pe_int (@pa_consN _ _ _ _ _ pe_int (@pa_consN _ _ _ _ _ pe_int (@pa_consN _ _ _ _ _ pe_int pa_nil (by first | rfl | decide | exact Or.inl rfl | exact Or.inr rfl | (intro _; rfl) | (intro _ _; rfl) | (intro _ _ _; rfl))) (by first | rfl | decide | exact Or.inl rfl | exact Or.inr rfl | (intro _; rfl) | (intro _ _; rfl) | (intro _ _ _; rfl))) (by first | rfl | decide | exact Or.inl rfl | exact Or.inr rfl | (intro _; rfl) | (intro _ _; rfl) | (intro _ _ _; rfl))) (by first | rfl | decide | exact Or.inl rfl | exact Or.inr rfl | (intro _; rfl) | (intro _ _; rfl) | (intro _ _ _; rfl)))) (@cc _ _ _ _ _ _ _ _ _ _ (by exact C_l_take) (by exact (hr.mono (by decide))) (@pa_consN _ _ _ _ _ (pv 0) (@pa_consN _ _ _ _ _ pe_int pa_nil (by first | rfl | decide | exact Or.inl rfl | exact Or.inr rfl | (intro _; rfl) | (intro _ _; rfl) | (intro _ _ _; rfl))) (by first | rfl | decide | exact Or.inl rfl | exact Or.inr rfl | (intro _; rfl) | (intro _ _; rfl) | (intro _ _ _; rfl))) (by first | rfl | decide | exact Or.inl rfl | exact Or.inr rfl | (intro _; rfl) | (intro _ _; rfl) | (intro _ _ _; rfl)) (by first | rfl | decide | exact Or.inl rfl | exact Or.inr rfl | (intro _; rfl) | (intro _ _; rfl) | (intro _ _ _; rfl)) (by first | rfl | decide | exact Or.inl rfl | exact Or.inr rfl | (intro _; rfl) | (intro _ _; rfl) | (intro _ _ _; rfl)) (by first | rfl | decide | exact Or.inl rfl | exact Or.inr rfl | (intro _; rfl) | (intro _ _; rfl) | (intro _ _ _; rfl))) (by exact (fun _ _ => rfl))) (by first | rfl | decide | exact Or.inl rfl | exact Or.inr rfl | (intro _; rfl) | (intro _ _; rfl) | (intro _ _ _; rfl)) (by first | rfl | decide | exact Or.inl rfl | exact Or.inr rfl | (intro _; rfl) | (intro _ _; rfl) | (intro _ _ _; rfl))) (@pss_cons _ _ _ _ _ (@ps_set _ _ (3) _ _ _ _ (by exact S.nd) (by rfl) (by first | exact Or.inl rfl | exact Or.inr rfl) (@cc _ _ _ _ _ _ _ _ _ _ (by exact C_l_take) (by exact (hr.mono (by decide))) (@pa_consN _ _ _ _ _ (pv 0) (@pa_consN _ _ _ _ _ (pv 1) pa_nil (by first | rfl | decide | exact Or.inl rfl | exact Or.inr rfl | (intro _; rfl) | (intro _ _; rfl) | (intro _ _ _; rfl))) (by first | rfl | decide | exact Or.inl rfl | exact Or.inr rfl | (intro _; rfl) | (intro _ _; rfl) | (intro _ _ _; rfl))) (by first | rfl | decide | exact Or.inl rfl | exact Or.inr rfl | (intro _; rfl) | (intro _ _; rfl) | (intro _ _ _; rfl)) (by first | rfl | decide | exact Or.inl rfl | exact Or.inr rfl | (intro _; rfl) | (intro _ _; rfl) | (intro _ _ _; rfl)) (by first | rfl | decide | exact Or.inl rfl | exact Or.inr rfl | (intro _; rfl) | (intro _ _; rfl) | (intro _ _ _; rfl)) (by first | rfl | decide | exact Or.inl rfl | exact Or.inr rfl | (intro _; rfl) | (intro _ _; rfl) | (intro _ _ _; rfl))) (by first | rfl | decide | exact Or.inl rfl | exact Or.inr rfl | (intro _; rfl) | (intro _ _; rfl) | (intro _ _ _; rfl)) (by first | rfl | decide | exact Or.inl rfl | exact Or.inr rfl | (intro _; rfl) | (intro _ _; rfl) | (intro _ _ _; rfl))) (@pss_cons _ _ _ _ _ (@ps_comp _ _ _ _ _ _ _ _ _ _ _ _ _ _ _ (4) _ (by exact S.nd) (by rfl) (by first | exact Or.inl rfl | exact Or.inr rfl) (by rfl) (by exact (fun _ _ h => h)) (by decide +kernel) (by rfl) (by decide +kernel) (by exact hfr_of rfl) (by exact Sees.frees ["_law_rank"] [("_law_pen_here", 0), ("_law_most", 2)] (fr_cons ⟨rfl, rfl⟩ (fr_cons ⟨rfl, rfl⟩ fr_nil))) (@pi_range1 _ _ _ _ _ _ (by rfl) (by exact T.z_range) (@pa_consN _ _ _ _ _ (pv 1) pa_nil (by first | rfl | decide | exact Or.inl rfl | exact Or.inr rfl | (intro _; rfl) | (intro _ _; rfl) | (intro _ _ _; rfl))) (by first | rfl | decide | exact Or.inl rfl | exact Or.inr rfl | (intro _; rfl) | (intro _ _; rfl) | (intro _ _ _; rfl))) (fun _ _ _ _ _ => @pg_name _ _ (0) _ (by exact (show (["_law_rank", "_law_pen_here", "_law_most"] : List Str).Nodup by decide +kernel)) (by rfl) (by first | exact Or.inl rfl | exact Or.inr rfl) (by first | rfl | decide | exact Or.inl rfl | exact Or.inr rfl | (intro _; rfl) | (intro _ _; rfl) | (intro _ _ _; rfl))) (fun _ _ _ _ _ => pts_nil) (fun _ _ _ _ _ => (@cc _ _ _ _ _ _ _ _ _ _ (by exact C_l_take) (by exact (hr.mono (by decide))) (@pa_consN _ _ _ _ _ (pv 1) (@pa_consN _ _ _ _ _ (pv 2) pa_nil (by first | rfl | decide | exact Or.inl rfl | exact Or.inr rfl | (intro _; rfl) | (intro _ _; rfl) | (intro _ _ _; rfl))) (by first | rfl | decide | exact Or.inl rfl | exact Or.inr rfl | (intro _; rfl) | (intro _ _; rfl) | (intro _ _ _; rfl))) (by first | rfl | decide | exact Or.inl rfl | exact Or.inr rfl | (intro _; rfl) | (intro _ _; rfl) | (intro _ _ _; rfl)) (by first | rfl | decide | exact Or.inl rfl | exact Or.inr rfl | (intro _; rfl) | (intro _ _; rfl) | (intro _ _ _; rfl)) (by first | rfl | decide | exact Or.inl rfl | exact Or.inr rfl | (intro _; rfl) | (intro _ _; rfl) | (intro _ _ _; rfl)) (by first | rfl | decide | exact Or.inl rfl | exact Or.inr rfl | (intro _; rfl) | (intro _ _; rfl) | (intro _ _ _; rfl)))) (by first | rfl | decide | exact Or.inl rfl | exact Or.inr rfl | (intro _; rfl) | (intro _ _; rfl) | (intro _ _ _; rfl)) (by first | rfl | decide | exact Or.inl rfl | exact Or.inr rfl | (intro _; rfl) | (intro _ _; rfl) | (intro _ _ _; rfl)) (by first | rfl | decide | exact Or.inl rfl | exact Or.inr rfl | (intro _; rfl) | (intro _ _; rfl) | (intro _ _ _; rfl))) (@pss_cons _ _ _ _ _ (@ps_if _ _ _ _ _ _ _ _ (@pt_cmpR _ _ _ _ _ _ _ _ op_eq (@pe_callB _ _ _ _ _ _ _ _ _ (call_sum0 (by rfl)) (by rfl) (by exact T.z_sum) (by exact bt_sum) (@pa_consN _ _ _ _ _ (pv 4) pa_nil (by first | rfl | decide | exact Or.inl rfl | exact Or.inr rfl | (intro _; rfl) | (intro _ _; rfl) | (intro _ _ _; rfl))) (by first | rfl | decide | exact Or.inl rfl | exact Or.inr rfl | (intro _; rfl) | (intro _ _; rfl) | (intro _ _ _; rfl)) (by first | rfl | decide | exact Or.inl rfl | exact Or.inr rfl | (intro _; rfl) | (intro _ _; rfl) | (intro _ _ _; rfl)) (by first | rfl | decide | exact Or.inl rfl | exact Or.inr rfl | (intro _; rfl) | (intro _ _; rfl) | (intro _ _ _; rfl)) (by first | rfl | decide | exact Or.inl rfl | exact Or.inr rfl | (intro _; rfl) | (intro _ _; rfl) | (intro _ _ _; rfl))) pe_int (by exact (nomark _))) (@pss_one _ _ _ (@ps_asg _ _ _ _ _ _ pe_int (@pg_sub _ _ _ _ _ _ _ (pv 4) (pv 3) set_list (by first | rfl | decide | exact Or.inl rfl | exact Or.inr rfl | (intro _; rfl) | (intro _ _; rfl) | (intro _ _ _; rfl))) (by first | rfl | decide | exact Or.inl rfl | exact Or.inr rfl | (intro _; rfl) | (intro _ _; rfl) | (intro _ _ _; rfl)) (by first | rfl | decide | exact Or.inl rfl | exact Or.inr rfl | (intro _; rfl) | (intro _ _; rfl) | (intro _ _ _; rfl)) (by first | rfl | decide | exact Or.inl rfl | exact Or.inr rfl | (intro _; rfl) | (intro _ _; rfl) | (intro _ _ _; rfl)))) pss_nil) (@pss_one _ _ _ (@ps_ret _ _ _ _ (pv 4))))))), ?_⟩
  refine ⟨lz 4 rfl, fun t ht => ⟨_, rfl, p, _, _, rfl, hp.same (same_new ht _), by omega, by omega, by omega, fun r H1 r0 r1 p1 x1 => ?_⟩⟩
  have st := same_new ht (.tup [.int 10, .int 3, .int 2, .int 81])
  have ht1 := (hp.same st).keepT x1 upd_same
  obtain ⟨most, hmost, mo1, mo2⟩ : ∃ most : Int, atI ([.int 10, .int 3, .int 2, .int 81] : List V) r = some (.int most) ∧ 2 ≤ most ∧ most ≤ 81 := by
    rcases (show r = 0 ∨ r = 1 ∨ r = 2 ∨ r = 3 by omega) with rfl | rfl | rfl | rfl
    · exact ⟨10, rfl, by decide, by decide⟩
    · exact ⟨3, rfl, by decide, by decide⟩
    · exact ⟨2, rfl, by decide, by decide⟩
    · exact ⟨81, rfl, by decide, by decide⟩
  refine ⟨t, _, _, _, rfl, rfl, SqT.of ht1, hmost, ?_⟩
  refine ⟨_, rfl, _, rfl, p, _, _, rfl, p1, by omega, by omega, by omega, fun spot H2 sp0 sp1 p2 x2 => ?_⟩
  have x12 := ((Same.y st).trans x1).trans x2
  refine ⟨_, rfl, _, rfl, by omega, by omega, comp_rng (n := (n : Int).toNat) (lo := 0) (fs := [some (.ref p), some (.int most)]) (fun acc i ys H' => PenZ K H' p (m + 2 + i) ∧ SameY p H2 H' ∧ ∃ bs : List Int, ys = iv bs ∧ ∀ b ∈ bs, 0 ≤ b ∧ b ≤ ((80 : Nat) : Int)) (by omega) ?_ ?_ ?_⟩
  · intro acc hacc
    exact ⟨p2.same (same_new hacc _), (Same.y (same_new hacc _)), [], rfl, by simp⟩
  · rintro acc i ys H' hacc hi hl ⟨p', x', bs, rfl, hb⟩ hacc' Q' hQ
    refine ⟨_, rfl, _, rfl, p, _, _, rfl, p', by omega, by omega, by omega, fun r H5 r0 r1 p5 x5 => ?_⟩
    obtain ⟨u1, u2⟩ := penZ_upd hacc p2 (x'.trans x5) p5 (.lst (iv bs ++ [.int r]))
    refine hQ _ H5 (x5.all _ _ hacc' (p2.ne hacc)) ⟨u1, u2, bs ++ [r], by simp, fun b hbm => ?_⟩
    rcases List.mem_append.mp hbm with q | q
    · exact hb b q
    · have : b = r := by simpa using q
      omega
  rintro l ys H3 hl ⟨p3, x3, bs, rfl, hb⟩ hl' hlen
  have hbl : bs.length = n := by simpa using hlen
  have sm := sum_le hb
  have sm2 : bs.length * 80 ≤ 960 := by omega
  refine ⟨_, rfl, l, bs, rfl, hl', rfl, _, rfl, ?_⟩
  refine ite2 (fun c => ?_) (fun c => ?_)
  · obtain ⟨sn, rfl⟩ : ∃ sn : Nat, spot = (sn : Int) := ⟨spot.toNat, by omega⟩
    have hsn : sn < bs.length := by omega
    refine ⟨_, rfl, _, rfl, l, _, _, sn, rfl, rfl, hl', ixN_lt (by simpa using hsn), ?_⟩
    have ew : (iv bs).set sn (.int 1) = iv (bs.set sn 1) := by simp
    rw [ew]
    obtain ⟨u1, u2⟩ := penZ_upd hl p2 x3 p3 (.lst (iv (bs.set sn 1)))
    have e0 : bs.sum = 0 := V.int.inj (of_decide_eq_true c)
    have hz : bs.sum + 1 = (bs.set sn 1).sum := by
      have z : bs[sn] = 0 := by
        have : ∀ (cs : List Int) (j : Nat) (hj : j < cs.length), (∀ x ∈ cs, 0 ≤ x ∧ x ≤ ((80 : Nat) : Int)) → cs.sum = 0 → cs[j] = 0 := by
          intro cs
          induction cs with
          | nil => intro j hj; exact absurd hj (by simp)
          | cons x r ih =>
            intro j hj h1 h2
            have hx := h1 x (by simp)
            have hr := sum_le (ws := r) (B := 80) fun y hy => h1 y (by simp [hy])
            rw [List.sum_cons] at h2
            cases j with
            | zero => simp; omega
            | succ j => exact ih j (by simpa using hj) (fun y hy => h1 y (by simp [hy])) (by omega)
        exact this bs sn hsn hb e0
      have : ∀ (cs : List Int) (j : Nat) (hj : j < cs.length), cs[j] = 0 → (cs.set j 1).sum = cs.sum + 1 := by
        intro cs
        induction cs with
        | nil => intro j hj; exact absurd hj (by simp)
        | cons x r ih =>
          intro j hj h1
          cases j with
          | zero =>
            have : x = 0 := by simpa using h1
            subst this
            simp; omega
          | succ j =>
            have := ih j (by simpa using hj) (by simpa using h1)
            simp [this]; omega
      exact (this bs sn hsn z).symm
    refine ⟨_, rfl, k l (bs.set sn 1) _ ⟨by simp [hbl], fun x hx => ?_, by omega, by omega⟩ upd_same (u1.mono (by omega)) (x12.trans u2)⟩
    rcases List.mem_or_eq_of_mem_set hx with q | q
    · have := hb x q; omega
    · omega
  · have e0 : bs.sum ≠ 0 := fun z => c (by rw [z]; rfl)
    exact ⟨_, rfl, k l bs _ ⟨hbl, fun x hx => by have := hb x hx; omega, by omega, by omega⟩ hl' (p3.mono (by omega)) (x12.trans x3)⟩
end
end My

set_option Elab.async false
set_option linter.all false
set_option maxRecDepth 100000
set_option maxHeartbeats 4000000
namespace My
open PySem L2 MA
theorem sum_set {l : List Int} {i : Nat} (hi : i < l.length) (v : Int) : (l.set i v).sum = l.sum + (v - l[i]) := by
  induction l generalizing i with
  | nil => simp at hi
  | cons x r ih =>
    cases i with
    | zero => simp; omega
    | succ i =>
      have := ih (i := i) (by simpa using hi)
      simp [this]; omega
theorem le_sum : ∀ {ws : List Int}, (∀ x ∈ ws, 0 ≤ x) → ∀ x ∈ ws, x ≤ ws.sum
  | [], _, x, hx => by simp at hx
  | y :: r, h, x, hx => by
    have hs : 0 ≤ r.sum := by
      have : ∀ {cs : List Int}, (∀ z ∈ cs, 0 ≤ z) → 0 ≤ cs.sum := by
        intro cs
        induction cs with
        | nil => simp
        | cons a b ih =>
          intro h
          have := ih fun z hz => h z (by simp [hz])
          have := h a (by simp)
          rw [List.sum_cons]; omega
      exact this fun z hz => h z (by simp [hz])
    rw [List.sum_cons]
    rcases List.mem_cons.mp hx with rfl | hx
    · omega
    · have := le_sum (ws := r) (fun z hz => h z (by simp [hz])) x hx
      have := h y (by simp)
      omega
theorem Wts.move {n : Nat} {ws : List Int} (h : Wts n ws) {i j : Nat} (hi : i < ws.length) (hj : j < ws.length) {d : Int} (h0 : 0 ≤ d) (h1 : d ≤ ws[i]) : Wts n ((ws.set i (ws[i] - d)).set j ((ws.set i (ws[i] - d)).getD j 0 + d)) := by
  have hj2 : j < (ws.set i (ws[i] - d)).length := by simpa using hj
  have e1 := sum_set hi (ws[i] - d)
  have e2 := sum_set hj2 ((ws.set i (ws[i] - d)).getD j 0 + d)
  rw [getD_of hj2] at e2 ⊢
  have n1 : ∀ x ∈ ws.set i (ws[i] - d), 0 ≤ x := fun x hx => by
    rcases List.mem_or_eq_of_mem_set hx with q | q
    · exact (h.rng x q).1
    · omega
  have n2 : ∀ x ∈ (ws.set i (ws[i] - d)).set j ((ws.set i (ws[i] - d))[j] + d), 0 ≤ x := fun x hx => by
    rcases List.mem_or_eq_of_mem_set hx with q | q
    · exact n1 x q
    · have := n1 _ (List.getElem_mem hj2)
      omega
  have sm : ((ws.set i (ws[i] - d)).set j ((ws.set i (ws[i] - d))[j] + d)).sum = ws.sum := by omega
  have p0 := h.pos
  have p1 := h.top
  refine ⟨by simp [h.len], fun x hx => ⟨n2 x hx, ?_⟩, by omega, by omega⟩
  have := le_sum n2 x hx
  omega
section
variable {P : Program} {w : World} {K : PySem.W.Frag} {mg : Str → Option Value} {base : Heap}
def rwF (ws : List Int) : List Rat := ws.map fun x => Rat.divInt x ws.sum
def spRuleW : Sp := fun vs H Q _ => ∃ (l : Addr) (n : Nat) (ws : List Int), vs = [.ref l] ∧ H l = some (.lst (iv ws)) ∧ Wts n ws ∧ n ≤ 12 ∧ ∀ v H', Same H H' → RuAt H' v (rwF ws) → Q v H'
theorem ok_rule (T : Txt2 mg) (C_l_share : Cal P w K mg base "_law_share" ["_law_top", "_law_bottom"] 1 spShareL) (F : FunAt K mg "_law_rule" ["_law_weights_here"] s_l_rule) : Cal P w K mg base "_law_rule" ["_law_weights_here"] 2 spRuleW := by
  have S := sc_l_rule
  refine F.cal sc_l_rule (fun vs H Q E h => ?_) (fun f cdv A outer s H vs Q E hr h => ?_)
  · obtain ⟨l, n, ws, rfl, _⟩ := h; rfl
  obtain ⟨l, n, ws, rfl, hl, W, n12, k⟩ := h
  have wl := W.len
  refine ⟨_, (@pss_one _ _ _ (@ps_ret _ _ _ _ (@pe_callTy _ _ _ _ _ _ _ _ _ call_tuple_of (by rfl) (by exact T.z_tuple) (by exact bt_tuple) (@pa_consN _ _ _ _ _ (@pe_comp _ _ _ _ _ _ _ _ _ _ _ _ _ (by rfl) (by exact (fun _ _ h => h)) (by decide +kernel) (by rfl) (by decide +kernel) (by exact hfr_of rfl) (by exact Sees.frees ["_law_one"] [("_law_weights_here", 0)] (fr_cons ⟨rfl, rfl⟩ fr_nil)) (@pi_list _ _ _ _ (pv 0)) (fun _ _ _ _ _ => @pg_name _ _ (0) _ (by exact (show (["_law_one", "_law_weights_here"] : List Str).Nodup by decide +kernel)) (by rfl) (by first | exact Or.inl rfl | exact Or.inr rfl) (by first | rfl | decide | exact Or.inl rfl | exact Or.inr rfl | (intro _; rfl) | (intro _ _; rfl) | (intro _ _ _; rfl))) (fun _ _ _ _ _ => pts_nil) (fun _ _ _ _ _ => (@cc _ _ _ _ _ _ _ _ _ _ (by exact C_l_share) (by exact (hr.mono (by decide))) (@pa_consN _ _ _ _ _ (pv 0) (@pa_consN _ _ _ _ _ (@pe_callB _ _ _ _ _ _ _ _ _ (call_sum0 (by rfl)) (by rfl) (by exact T.z_sum) (by exact bt_sum) (@pa_consN _ _ _ _ _ (pv 1) pa_nil (by first | rfl | decide | exact Or.inl rfl | exact Or.inr rfl | (intro _; rfl) | (intro _ _; rfl) | (intro _ _ _; rfl))) (by first | rfl | decide | exact Or.inl rfl | exact Or.inr rfl | (intro _; rfl) | (intro _ _; rfl) | (intro _ _ _; rfl)) (by first | rfl | decide | exact Or.inl rfl | exact Or.inr rfl | (intro _; rfl) | (intro _ _; rfl) | (intro _ _ _; rfl)) (by first | rfl | decide | exact Or.inl rfl | exact Or.inr rfl | (intro _; rfl) | (intro _ _; rfl) | (intro _ _ _; rfl)) (by first | rfl | decide | exact Or.inl rfl | exact Or.inr rfl | (intro _; rfl) | (intro _ _; rfl) | (intro _ _ _; rfl))) pa_nil (by first | rfl | decide | exact Or.inl rfl | exact Or.inr rfl | (intro _; rfl) | (intro _ _; rfl) | (intro _ _ _; rfl))) (by first | rfl | decide | exact Or.inl rfl | exact Or.inr rfl | (intro _; rfl) | (intro _ _; rfl) | (intro _ _ _; rfl))) (by first | rfl | decide | exact Or.inl rfl | exact Or.inr rfl | (intro _; rfl) | (intro _ _; rfl) | (intro _ _ _; rfl)) (by first | rfl | decide | exact Or.inl rfl | exact Or.inr rfl | (intro _; rfl) | (intro _ _; rfl) | (intro _ _ _; rfl)) (by first | rfl | decide | exact Or.inl rfl | exact Or.inr rfl | (intro _; rfl) | (intro _ _; rfl) | (intro _ _ _; rfl)) (by first | rfl | decide | exact Or.inl rfl | exact Or.inr rfl | (intro _; rfl) | (intro _ _; rfl) | (intro _ _ _; rfl)))) (by first | rfl | decide | exact Or.inl rfl | exact Or.inr rfl | (intro _; rfl) | (intro _ _; rfl) | (intro _ _ _; rfl))) pa_nil (by first | rfl | decide | exact Or.inl rfl | exact Or.inr rfl | (intro _; rfl) | (intro _ _; rfl) | (intro _ _ _; rfl))) (by first | rfl | decide | exact Or.inl rfl | exact Or.inr rfl | (intro _; rfl) | (intro _ _; rfl) | (intro _ _ _; rfl)) (by first | rfl | decide | exact Or.inl rfl | exact Or.inr rfl | (intro _; rfl) | (intro _ _; rfl) | (intro _ _ _; rfl)) (by first | rfl | decide | exact Or.inl rfl | exact Or.inr rfl | (intro _; rfl) | (intro _ _; rfl) | (intro _ _ _; rfl)) (by first | rfl | decide | exact Or.inl rfl | exact Or.inr rfl | (intro _; rfl) | (intro _ _; rfl) | (intro _ _ _; rfl))))), ?_⟩
  refine ⟨_, rfl, l, rfl, ⟨_, SqL.of hl⟩, comp_lst (a := l) (xs := iv ws) (fs := [some (.ref l)]) (fun acc i ys H' => Same H H' ∧ Shs H' ys ((ws.take i).map fun x => Rat.divInt x ws.sum)) (by simp; omega) ?_ ?_ ?_ ?_⟩
  · intro acc hacc
    exact ⟨same_new hacc _, .nil⟩
  · rintro acc i ys H' hacc ⟨s', _⟩
    exact s' _ _ hl
  · rintro acc i ys H' x hacc hx hi ⟨s', hz⟩ hacc' Q' hQ
    obtain ⟨x, rfl, hx'⟩ : ∃ n, x = .int n ∧ ws[i]? = some n := by
      rw [List.getElem?_map] at hx
      obtain ⟨n, h1, h2⟩ := Option.map_eq_some_iff.mp hx
      exact ⟨n, h2.symm, h1⟩
    have xr := W.rng x (List.mem_of_getElem? hx')
    have w0 := W.pos
    have w1 := W.top
    have bt : Bt 10 ws.sum := .of_lt (by omega)
    refine ⟨_, rfl, _, rfl, l, ws, rfl, s' _ _ hl, _, _, rfl, xr.1, w0, bt.mono (by decide), fun v H2 s2 h2 => ?_⟩
    refine hQ _ H2 (s2 _ _ hacc') ⟨same_upd (s'.trans s2) hacc, ?_⟩
    rw [List.take_add_one, hx', List.map_append]
    exact Shs.snoc (shUpdL (s2 _ _ hacc') h2) (Shs.updL (s2 _ _ hacc') (hz.same s2))
  · rintro acc ys H' hacc ⟨s', hz⟩ hacc' hlen
    refine ⟨acc, ys, rfl, .inl ⟨SqL.of hacc', fun t ht => ?_⟩⟩
    rw [List.length_map, List.take_length] at hz
    exact k _ _ (s'.trans (same_new ht _)) ⟨t, ys, rfl, upd_same, hz.same (same_new ht _)⟩
def spBehind (K : PySem.W.Frag) : Sp := fun vs H Q _ => ∃ (p a : Addr) (n m : Nat) (ws : List Int), vs = [.ref p, .ref a] ∧ PenZ K H p m ∧ m + 10 ≤ 100000 ∧ H a = some (.lst (iv ws)) ∧ Wts n ws ∧ 1 ≤ n ∧ n ≤ 12 ∧ ∀ (l : Addr) (us : List Int) (H' : Hp), Wts n us → H' l = some (.lst (iv us)) → PenZ K H' p (m + 10) → SameY p H H' → Q (.ref l) H'
theorem ok_behind (T : Txt2 mg) (C_l_take : Cal P w K mg base "_law_take" ["_law_pen_here", "_law_many"] 1 (spTakeZ K)) (F : FunAt K mg "_law_behind" ["_law_pen_here", "_law_weights_here"] s_l_behind) : Cal P w K mg base "_law_behind" ["_law_pen_here", "_law_weights_here"] 2 (spBehind K) := by
  have S := sc_l_behind
  refine F.cal sc_l_behind (fun vs H Q E h => ?_) (fun f cdv A outer s H vs Q E hr h => ?_)
  · obtain ⟨p, a, n, m, ws, rfl, _⟩ := h; rfl
  obtain ⟨p, a, n, m, ws, rfl, hp, hm, ha, W, n1, n12, k⟩ := h
  refine ⟨_, (@pss_cons _ _ _ _ _ (@ps_set _ _ (2) _ _ _ _ (by exact S.nd) (by rfl) (by first | exact Or.inl rfl | exact Or.inr rfl) (@pe_callTy _ _ _ _ _ _ _ _ _ call_list_of (by rfl) (by exact T.z_list) (by exact bt_list) (@pa_consN _ _ _ _ _ (pv 1) pa_nil (by first | rfl | decide | exact Or.inl rfl | exact Or.inr rfl | (intro _; rfl) | (intro _ _; rfl) | (intro _ _ _; rfl))) (by first | rfl | decide | exact Or.inl rfl | exact Or.inr rfl | (intro _; rfl) | (intro _ _; rfl) | (intro _ _ _; rfl)) (by first | rfl | decide | exact Or.inl rfl | exact Or.inr rfl | (intro _; rfl) | (intro _ _; rfl) | (intro _ _ _; rfl)) (by first | rfl | decide | exact Or.inl rfl | exact Or.inr rfl | (intro _; rfl) | (intro _ _; rfl) | (intro _ _ _; rfl)) (by first | rfl | decide | exact Or.inl rfl | exact Or.inr rfl | (intro _; rfl) | (intro _ _; rfl) | (intro _ _ _; rfl))) (by first | rfl | decide | exact Or.inl rfl | exact Or.inr rfl | (intro _; rfl) | (intro _ _; rfl) | (intro _ _ _; rfl)) (by first | rfl | decide | exact Or.inl rfl | exact Or.inr rfl | (intro _; rfl) | (intro _ _; rfl) | (intro _ _ _; rfl))) (@pss_cons _ _ _ _ _ (@ps_for _ _ _ _ _ _ _ _ (by exact PassesOwn.never) (by rfl) (@pi_range1 _ _ _ _ _ _ (by rfl) (by exact T.z_range) (@pa_consN _ _ _ _ _ (@cc _ _ _ _ _ _ _ _ _ _ (by exact C_l_take) (by exact (hr.mono (by decide))) (@pa_consN _ _ _ _ _ (pv 0) (@pa_consN _ _ _ _ _ pe_int pa_nil (by first | rfl | decide | exact Or.inl rfl | exact Or.inr rfl | (intro _; rfl) | (intro _ _; rfl) | (intro _ _ _; rfl))) (by first | rfl | decide | exact Or.inl rfl | exact Or.inr rfl | (intro _; rfl) | (intro _ _; rfl) | (intro _ _ _; rfl))) (by first | rfl | decide | exact Or.inl rfl | exact Or.inr rfl | (intro _; rfl) | (intro _ _; rfl) | (intro _ _ _; rfl)) (by first | rfl | decide | exact Or.inl rfl | exact Or.inr rfl | (intro _; rfl) | (intro _ _; rfl) | (intro _ _ _; rfl)) (by first | rfl | decide | exact Or.inl rfl | exact Or.inr rfl | (intro _; rfl) | (intro _ _; rfl) | (intro _ _ _; rfl)) (by first | rfl | decide | exact Or.inl rfl | exact Or.inr rfl | (intro _; rfl) | (intro _ _; rfl) | (intro _ _ _; rfl))) pa_nil (by first | rfl | decide | exact Or.inl rfl | exact Or.inr rfl | (intro _; rfl) | (intro _ _; rfl) | (intro _ _ _; rfl))) (by first | rfl | decide | exact Or.inl rfl | exact Or.inr rfl | (intro _; rfl) | (intro _ _; rfl) | (intro _ _ _; rfl))) (@pg_name _ _ (3) _ (by exact S.nd) (by rfl) (by first | exact Or.inl rfl | exact Or.inr rfl) (by first | rfl | decide | exact Or.inl rfl | exact Or.inr rfl | (intro _; rfl) | (intro _ _; rfl) | (intro _ _ _; rfl))) (@pss_cons _ _ _ _ _ (@ps_set _ _ (4) _ _ _ _ (by exact S.nd) (by rfl) (by first | exact Or.inl rfl | exact Or.inr rfl) (@cc _ _ _ _ _ _ _ _ _ _ (by exact C_l_take) (by exact (hr.mono (by decide))) (@pa_consN _ _ _ _ _ (pv 0) (@pa_consN _ _ _ _ _ (@pe_callB _ _ _ _ _ _ _ _ _ call_len_seq (by rfl) (by exact T.z_len) (by exact bt_len) (@pa_consN _ _ _ _ _ (pv 2) pa_nil (by first | rfl | decide | exact Or.inl rfl | exact Or.inr rfl | (intro _; rfl) | (intro _ _; rfl) | (intro _ _ _; rfl))) (by first | rfl | decide | exact Or.inl rfl | exact Or.inr rfl | (intro _; rfl) | (intro _ _; rfl) | (intro _ _ _; rfl)) (by first | rfl | decide | exact Or.inl rfl | exact Or.inr rfl | (intro _; rfl) | (intro _ _; rfl) | (intro _ _ _; rfl)) (by first | rfl | decide | exact Or.inl rfl | exact Or.inr rfl | (intro _; rfl) | (intro _ _; rfl) | (intro _ _ _; rfl)) (by first | rfl | decide | exact Or.inl rfl | exact Or.inr rfl | (intro _; rfl) | (intro _ _; rfl) | (intro _ _ _; rfl))) pa_nil (by first | rfl | decide | exact Or.inl rfl | exact Or.inr rfl | (intro _; rfl) | (intro _ _; rfl) | (intro _ _ _; rfl))) (by first | rfl | decide | exact Or.inl rfl | exact Or.inr rfl | (intro _; rfl) | (intro _ _; rfl) | (intro _ _ _; rfl))) (by first | rfl | decide | exact Or.inl rfl | exact Or.inr rfl | (intro _; rfl) | (intro _ _; rfl) | (intro _ _ _; rfl)) (by first | rfl | decide | exact Or.inl rfl | exact Or.inr rfl | (intro _; rfl) | (intro _ _; rfl) | (intro _ _ _; rfl)) (by first | rfl | decide | exact Or.inl rfl | exact Or.inr rfl | (intro _; rfl) | (intro _ _; rfl) | (intro _ _ _; rfl)) (by first | rfl | decide | exact Or.inl rfl | exact Or.inr rfl | (intro _; rfl) | (intro _ _; rfl) | (intro _ _ _; rfl))) (by first | rfl | decide | exact Or.inl rfl | exact Or.inr rfl | (intro _; rfl) | (intro _ _; rfl) | (intro _ _ _; rfl)) (by first | rfl | decide | exact Or.inl rfl | exact Or.inr rfl | (intro _; rfl) | (intro _ _; rfl) | (intro _ _ _; rfl))) (@pss_cons _ _ _ _ _ (@ps_set _ _ (5) _ _ _ _ (by exact S.nd) (by rfl) (by first | exact Or.inl rfl | exact Or.inr rfl) (@pe_op _ _ _ _ _ _ _ _ op_add (pv 4) (@cc _ _ _ _ _ _ _ _ _ _ (by exact C_l_take) (by exact (hr.mono (by decide))) (@pa_consN _ _ _ _ _ (pv 0) (@pa_consN _ _ _ _ _ (@pe_op _ _ _ _ _ _ _ _ op_sub (@pe_callB _ _ _ _ _ _ _ _ _ call_len_seq (by rfl) (by exact T.z_len) (by exact bt_len) (@pa_consN _ _ _ _ _ (pv 2) pa_nil (by first | rfl | decide | exact Or.inl rfl | exact Or.inr rfl | (intro _; rfl) | (intro _ _; rfl) | (intro _ _ _; rfl))) (by first | rfl | decide | exact Or.inl rfl | exact Or.inr rfl | (intro _; rfl) | (intro _ _; rfl) | (intro _ _ _; rfl)) (by first | rfl | decide | exact Or.inl rfl | exact Or.inr rfl | (intro _; rfl) | (intro _ _; rfl) | (intro _ _ _; rfl)) (by first | rfl | decide | exact Or.inl rfl | exact Or.inr rfl | (intro _; rfl) | (intro _ _; rfl) | (intro _ _ _; rfl)) (by first | rfl | decide | exact Or.inl rfl | exact Or.inr rfl | (intro _; rfl) | (intro _ _; rfl) | (intro _ _ _; rfl))) (pv 4)) pa_nil (by first | rfl | decide | exact Or.inl rfl | exact Or.inr rfl | (intro _; rfl) | (intro _ _; rfl) | (intro _ _ _; rfl))) (by first | rfl | decide | exact Or.inl rfl | exact Or.inr rfl | (intro _; rfl) | (intro _ _; rfl) | (intro _ _ _; rfl))) (by first | rfl | decide | exact Or.inl rfl | exact Or.inr rfl | (intro _; rfl) | (intro _ _; rfl) | (intro _ _ _; rfl)) (by first | rfl | decide | exact Or.inl rfl | exact Or.inr rfl | (intro _; rfl) | (intro _ _; rfl) | (intro _ _ _; rfl)) (by first | rfl | decide | exact Or.inl rfl | exact Or.inr rfl | (intro _; rfl) | (intro _ _; rfl) | (intro _ _ _; rfl)) (by first | rfl | decide | exact Or.inl rfl | exact Or.inr rfl | (intro _; rfl) | (intro _ _; rfl) | (intro _ _ _; rfl)))) (by first | rfl | decide | exact Or.inl rfl | exact Or.inr rfl | (intro _; rfl) | (intro _ _; rfl) | (intro _ _ _; rfl)) (by first | rfl | decide | exact Or.inl rfl | exact Or.inr rfl | (intro _; rfl) | (intro _ _; rfl) | (intro _ _ _; rfl))) (@pss_cons _ _ _ _ _ (@ps_set _ _ (6) _ _ _ _ (by exact S.nd) (by rfl) (by first | exact Or.inl rfl | exact Or.inr rfl) (@cc _ _ _ _ _ _ _ _ _ _ (by exact C_l_take) (by exact (hr.mono (by decide))) (@pa_consN _ _ _ _ _ (pv 0) (@pa_consN _ _ _ _ _ (@pe_op _ _ _ _ _ _ _ _ op_add (@pe_ix _ _ _ _ _ _ _ ix_list (pv 2) (pv 4) (by exact (fun _ _ => rfl))) pe_int) pa_nil (by first | rfl | decide | exact Or.inl rfl | exact Or.inr rfl | (intro _; rfl) | (intro _ _; rfl) | (intro _ _ _; rfl))) (by first | rfl | decide | exact Or.inl rfl | exact Or.inr rfl | (intro _; rfl) | (intro _ _; rfl) | (intro _ _ _; rfl))) (by first | rfl | decide | exact Or.inl rfl | exact Or.inr rfl | (intro _; rfl) | (intro _ _; rfl) | (intro _ _ _; rfl)) (by first | rfl | decide | exact Or.inl rfl | exact Or.inr rfl | (intro _; rfl) | (intro _ _; rfl) | (intro _ _ _; rfl)) (by first | rfl | decide | exact Or.inl rfl | exact Or.inr rfl | (intro _; rfl) | (intro _ _; rfl) | (intro _ _ _; rfl)) (by first | rfl | decide | exact Or.inl rfl | exact Or.inr rfl | (intro _; rfl) | (intro _ _; rfl) | (intro _ _ _; rfl))) (by first | rfl | decide | exact Or.inl rfl | exact Or.inr rfl | (intro _; rfl) | (intro _ _; rfl) | (intro _ _ _; rfl)) (by first | rfl | decide | exact Or.inl rfl | exact Or.inr rfl | (intro _; rfl) | (intro _ _; rfl) | (intro _ _ _; rfl))) (@pss_cons _ _ _ _ _ (@ps_asg _ _ _ _ _ _ (@pe_op _ _ _ _ _ _ _ _ op_sub (@pe_ix _ _ _ _ _ _ _ ix_list (pv 2) (pv 4) (by exact (fun _ _ => rfl))) (pv 6)) (@pg_sub _ _ _ _ _ _ _ (pv 2) (pv 4) set_list (by first | rfl | decide | exact Or.inl rfl | exact Or.inr rfl | (intro _; rfl) | (intro _ _; rfl) | (intro _ _ _; rfl))) (by first | rfl | decide | exact Or.inl rfl | exact Or.inr rfl | (intro _; rfl) | (intro _ _; rfl) | (intro _ _ _; rfl)) (by first | rfl | decide | exact Or.inl rfl | exact Or.inr rfl | (intro _; rfl) | (intro _ _; rfl) | (intro _ _ _; rfl)) (by first | rfl | decide | exact Or.inl rfl | exact Or.inr rfl | (intro _; rfl) | (intro _ _; rfl) | (intro _ _ _; rfl))) (@pss_one _ _ _ (@ps_asg _ _ _ _ _ _ (@pe_op _ _ _ _ _ _ _ _ op_add (@pe_ix _ _ _ _ _ _ _ ix_list (pv 2) (pv 5) (by exact (fun _ _ => rfl))) (pv 6)) (@pg_sub _ _ _ _ _ _ _ (pv 2) (pv 5) set_list (by first | rfl | decide | exact Or.inl rfl | exact Or.inr rfl | (intro _; rfl) | (intro _ _; rfl) | (intro _ _ _; rfl))) (by first | rfl | decide | exact Or.inl rfl | exact Or.inr rfl | (intro _; rfl) | (intro _ _; rfl) | (intro _ _ _; rfl)) (by first | rfl | decide | exact Or.inl rfl | exact Or.inr rfl | (intro _; rfl) | (intro _ _; rfl) | (intro _ _ _; rfl)) (by first | rfl | decide | exact Or.inl rfl | exact Or.inr rfl | (intro _; rfl) | (intro _ _; rfl) | (intro _ _ _; rfl)))))))) (by first | rfl | decide | exact Or.inl rfl | exact Or.inr rfl | (intro _; rfl) | (intro _ _; rfl) | (intro _ _ _; rfl))) (@pss_one _ _ _ (@ps_ret _ _ _ _ (pv 2))))), ?_⟩
  refine ⟨_, rfl, a, _, rfl, .inl (SqL.of ha), fun l hl => ?_⟩
  have s0 := same_new hl (.lst (iv ws))
  have hl0 : (upd H l (.lst (iv ws))) l = some (.lst (iv ws)) := upd_same
  obtain ⟨q0, y0⟩ := penZ_upd hl hp (SameY.refl p H) hp (.lst (iv ws))
  refine ⟨_, rfl, p, _, _, rfl, q0, by omega, by omega, by omega, fun turns H1 t0 t1 p1 x1 => ?_⟩
  have hl1 := q0.keepL x1 hl0
  refine ⟨_, rfl, by omega, by omega, for_range (n := turns.toNat) (lo := 0) (fun i σ H' => (∃ o3 o4 o5 o6, σ = [some (.ref p), some (.ref a), some (.ref l), o3, o4, o5, o6]) ∧ PenZ K H' p (m + 1 + 3 * i) ∧ SameY p H H' ∧ ∃ us, H' l = some (.lst (iv us)) ∧ Wts n us) ⟨⟨_, _, _, _, rfl⟩, p1.mono (by omega), y0.trans x1, ws, hl1, W⟩ ?_ ?_⟩
  · rintro i σ H2 hi ⟨⟨o3, o4, o5, o6, rfl⟩, p2, x2, us, hl2, U⟩
    have ul := U.len
    refine ⟨_, rfl, _, rfl, l, _, rfl, .inl (SqL.of hl2), p, _, _, rfl, p2, by omega, (by simp; omega), (by simp; omega), fun at' H3 a0 a1 p3 x3 => ?_⟩
    obtain ⟨an, rfl⟩ : ∃ an : Nat, at' = (an : Int) := ⟨at'.toNat, by omega⟩
    have han : an < us.length := by
      have : (an : Int) < (((iv us).length : Nat) : Int) := a1
      simp at this
      omega
    have hl3 := p2.keepL x3 hl2
    refine ⟨_, rfl, _, rfl, _, rfl, l, _, rfl, .inl (SqL.of hl3), _, rfl, _, _, rfl, rfl, p, _, _, rfl, p3, by omega, (by simp; omega), (by simp; omega), fun b H4 b0 b1 p4 x4 => ?_⟩
    have hl4 := p3.keepL x4 hl3
    obtain ⟨bn, rfl⟩ : ∃ bn : Nat, b = (bn : Int) := ⟨b.toNat, by omega⟩
    have hbn : an + bn < us.length := by
      have : (bn : Int) < (((iv us).length : Nat) : Int) - (an : Int) := b1
      simp at this
      omega
    have ur := U.rng us[an] (List.getElem_mem han)
    have gd : us.getD an 0 = us[an] := getD_of han
    refine ⟨_, _, rfl, rfl, _, rfl, _, rfl, _, rfl, l, _, _, _, rfl, rfl, SqL.of hl4, iv_atI han, _, _, rfl, rfl, p, _, _, rfl, p4, by omega, (by omega), (by omega), fun d H5 d0 d1 p5 x5 => ?_⟩
    have hl5 := p4.keepL x5 hl4
    have xx : SameY p H H5 := ((x2.trans x3).trans x4).trans x5
    refine ⟨_, rfl, _, rfl, l, _, _, _, rfl, rfl, SqL.of hl5, iv_atI han, _, rfl, _, _, rfl, rfl, _, rfl, _, rfl, l, _, _, an, rfl, rfl, hl5, ixN_lt (by simpa using han), ?_⟩
    have ew : (iv us).set an (.int (us.getD an 0 - d)) = iv (us.set an (us[an] - d)) := by rw [gd]; exact (List.map_set ..).symm
    rw [ew]
    obtain ⟨p6, x6⟩ := penZ_upd hl hp xx p5 (.lst (iv (us.set an (us[an] - d))))
    have hl6 : (upd H5 l (.lst (iv (us.set an (us[an] - d))))) l = some (.lst (iv (us.set an (us[an] - d)))) := upd_same
    generalize upd H5 l (.lst (iv (us.set an (us[an] - d)))) = H6 at p6 x6 hl6
    have hb2 : an + bn < (us.set an (us[an] - d)).length := by simpa using hbn
    have ej : (an : Int) + (bn : Int) = ((an + bn : Nat) : Int) := by omega
    refine ⟨_, rfl, _, rfl, l, _, _, _, rfl, rfl, SqL.of hl6, (by rw [ej]; exact iv_atI hb2), _, rfl, _, _, rfl, rfl, _, rfl, _, rfl, l, _, _, an + bn, rfl, rfl, hl6, (by rw [ej]; exact ixN_lt (by simpa using hbn)), ?_⟩
    have ew2 : (iv (us.set an (us[an] - d))).set (an + bn) (.int ((us.set an (us[an] - d)).getD (an + bn) 0 + d)) = iv ((us.set an (us[an] - d)).set (an + bn) ((us.set an (us[an] - d)).getD (an + bn) 0 + d)) := (List.map_set ..).symm
    rw [ew2]
    obtain ⟨p7, x7⟩ := penZ_upd hl hp x6 p6 (.lst (iv ((us.set an (us[an] - d)).set (an + bn) ((us.set an (us[an] - d)).getD (an + bn) 0 + d))))
    exact ⟨⟨_, _, _, _, rfl⟩, p7.mono (by omega), x7, _, upd_same, U.move han hbn d0 (by omega)⟩
  · rintro σ H2 ⟨⟨o3, o4, o5, o6, rfl⟩, p2, x2, us, hl2, U⟩
    exact ⟨_, rfl, k l us H2 U hl2 (p2.mono (by omega)) x2⟩
end
end My

set_option Elab.async false
set_option linter.all false
set_option maxRecDepth 100000
set_option maxHeartbeats 4000000
namespace My
open PySem L2 MA
/-! rules by bits -/
def lowN (N : Nat) (p : Int × Int) : Bool := decide (0 < p.2) && decide (gI p.1 p.2 = 1) && decide (0 ≤ p.1) && decide (p.1.natAbs < 2 ^ N) && decide (p.2.natAbs < 2 ^ N)
def FineN (N n : Nat) (qs : List Rat) : Prop := qs.length = n ∧ ∀ q ∈ qs, 0 ≤ q ∧ SB N q
theorem FineN.mono {M N n : Nat} {qs : List Rat} (h : FineN M n qs) (l : M ≤ N) : FineN N n qs := ⟨h.1, fun q hq => ⟨(h.2 q hq).1, (h.2 q hq).2.mono l⟩⟩
theorem FineN.okr {N n : Nat} {qs : List Rat} (h : FineN N n qs) (h1 : n ≤ 12) (h2 : (n - 1) * (2 * N + 2) + 1 ≤ 3000) (h3 : N ≤ 1000) (h4 : n * (N + 1) + 1 ≤ 4000) : Okr N qs := by
  obtain ⟨rfl, q⟩ := h
  exact ⟨q, h1, h2, h3, h4⟩
theorem low_oneN {N : Nat} {p : Int × Int} (h : lowN N p = true) : p = prq (Rat.divInt p.1 p.2) ∧ 0 ≤ Rat.divInt p.1 p.2 ∧ SB N (Rat.divInt p.1 p.2) := by
  unfold lowN at h
  simp only [Bool.and_eq_true, decide_eq_true_eq] at h
  obtain ⟨⟨⟨⟨h1, h2⟩, h3⟩, h4⟩, h5⟩ := h
  have s := share_pos (t := p.1) h1
  rw [h2, Int.ediv_one, Int.ediv_one] at s
  refine ⟨?_, Rat.num_nonneg.mp (by rw [← s.1]; exact h3), ⟨?_, ?_⟩⟩
  · unfold prq; rw [← s.1, ← s.2]
  · rw [← s.1]; exact .of_lt h4
  · rw [← s.2]; exact .of_lt h5
theorem low_listN {N : Nat} {ps : List (Int × Int)} (h : ps.all (lowN N) = true) : ∃ qs : List Rat, ps = qs.map prq ∧ FineN N ps.length qs := by
  refine ⟨ps.map fun p => Rat.divInt p.1 p.2, ?_, by simp, fun q hq => ?_⟩
  · rw [List.map_map]
    conv => lhs; rw [← List.map_id ps]
    refine List.map_congr_left fun p hp => ?_
    exact (low_oneN (List.all_eq_true.mp h p hp)).1
  · obtain ⟨p, hp, rfl⟩ := List.mem_map.mp hq
    exact (low_oneN (List.all_eq_true.mp h p hp)).2
theorem drawn_low15 : ∀ n, n < 13 → ∀ k, k < 5 → (drawnF ((n : Nat) : Int) ((k : Nat) : Int)).all (lowN 15) = true := by decide +kernel
theorem drawn_low10 : ∀ n, n < 7 → ∀ k, k < 4 → (drawnF ((n : Nat) : Int) ((k : Nat) : Int)).all (lowN 10) = true := by decide +kernel
theorem unlike_low10 : ∀ n, n < 13 → ∀ k, k < 13 → k ≤ n → 1 ≤ k → (unlikeF ((n : Nat) : Int) ((k : Nat) : Int)).all (lowN 10) = true := by decide +kernel
theorem drawn_fineN {n k : Int} (h : okD n k) : ∃ qs : List Rat, drawnF n k = qs.map prq ∧ FineN 15 n.toNat qs ∧ (n ≤ 6 → k ≤ 3 → FineN 10 n.toNat qs) := by
  obtain ⟨h1, h2, h3, h4⟩ := h
  have e1 : n = ((n.toNat : Nat) : Int) := by omega
  have e2 : k = ((k.toNat : Nat) : Int) := by omega
  have l := drawn_low15 n.toNat (by omega) k.toNat (by omega)
  rw [← e1, ← e2] at l
  have e : (drawnF n k).length = n.toNat := by simp [drawnF]
  refine ⟨(drawnF n k).map fun p => Rat.divInt p.1 p.2, ?_, ⟨by simp [e], fun q hq => ?_⟩, fun g1 g2 => ⟨by simp [e], fun q hq => ?_⟩⟩
  · rw [List.map_map]
    conv => lhs; rw [← List.map_id (drawnF n k)]
    refine List.map_congr_left fun p hp => ?_
    exact (low_oneN (List.all_eq_true.mp l p hp)).1
  · obtain ⟨p, hp, rfl⟩ := List.mem_map.mp hq
    exact (low_oneN (List.all_eq_true.mp l p hp)).2
  · have l2 := drawn_low10 n.toNat (by omega) k.toNat (by omega)
    rw [← e1, ← e2] at l2
    obtain ⟨p, hp, rfl⟩ := List.mem_map.mp hq
    exact (low_oneN (List.all_eq_true.mp l2 p hp)).2
theorem unlike_fineN {n k : Int} (h : okU n k) : ∃ qs : List Rat, unlikeF n k = qs.map prq ∧ FineN 10 n.toNat qs := by
  obtain ⟨h1, h2, h3, h4⟩ := h
  have e1 : n = ((n.toNat : Nat) : Int) := by omega
  have e2 : k = ((k.toNat : Nat) : Int) := by omega
  have l := unlike_low10 n.toNat (by omega) k.toNat (by omega) (by omega) (by omega)
  rw [← e1, ← e2] at l
  obtain ⟨qs, a, b⟩ := low_listN l
  have e : (unlikeF n k).length = n.toNat := by simp [unlikeF]
  rw [e] at b
  exact ⟨qs, a, b⟩
theorem rw_fineN {n : Nat} {ws : List Int} (h : Wts n ws) : FineN 10 n (rwF ws) := by
  have hs := h.pos
  have ht := h.top
  refine ⟨by simp [rwF, h.len], fun q hq => ?_⟩
  obtain ⟨c, hc, rfl⟩ := List.mem_map.mp hq
  have h1 := h.rng c hc
  refine ⟨Rat.num_nonneg.mp (by rw [← (share_pos (t := c) hs).1]; exact Int.ediv_nonneg h1.1 (gI_nonneg _ _)), SB.divInt (.of_lt (by omega)) (.of_lt (by omega)) hs⟩
theorem one_sub {q : Rat} (h : q.num ≤ (q.den : Int)) : 0 ≤ 1 - q := by
  have : q ≤ 1 := by
    rw [Rat.le_iff]
    show q.num * ((1 : Nat) : Int) ≤ 1 * (q.den : Int)
    omega
  grind
theorem FineN.mix {N M k n : Nat} {qs rs : List Rat} {q : Rat} (h : FineN N n qs) (g : FineN M n rs) (bq : SB k q) (q0 : 0 ≤ q) (q1 : q.num ≤ (q.den : Int)) : FineN (N + M + 2 * k + 3) n (List.zipWith (mixF q) qs rs) := by
  refine ⟨by rw [List.length_zipWith, h.1, g.1]; omega, fun x hx => ?_⟩
  rw [List.mem_iff_getElem] at hx
  obtain ⟨i, hi, rfl⟩ := hx
  rw [List.getElem_zipWith]
  rw [List.length_zipWith] at hi
  obtain ⟨a0, ab⟩ := h.2 (qs[i]'(by omega)) (List.getElem_mem _)
  obtain ⟨b0, bb⟩ := g.2 (rs[i]'(by omega)) (List.getElem_mem _)
  refine ⟨Rat.add_nonneg (Rat.mul_nonneg q0 a0) (Rat.mul_nonneg (one_sub q1) b0), ?_⟩
  have br : SB (1 + k + 1) (1 - q) := SB.sub (m := 1) ⟨by decide, by decide⟩ bq
  exact ((bq.mul ab).add (br.mul bb)).mono (by omega)
def qA : Rat := ⟨1, 1000, by decide, by decide⟩
def qB : Rat := ⟨999, 1000, by decide, by decide⟩
theorem qA_ok : SB 10 qA ∧ 0 ≤ qA ∧ qA.num ≤ (qA.den : Int) := ⟨⟨by decide, by decide⟩, Rat.num_nonneg.mp (by decide), by decide⟩
theorem qB_ok : SB 10 qB ∧ 0 ≤ qB ∧ qB.num ≤ (qB.den : Int) := ⟨⟨by decide, by decide⟩, Rat.num_nonneg.mp (by decide), by decide⟩
theorem gN_eq {i : Nat} {x y : V} {σ : St} {H : Hp} {Q : St → Hp → Prop} (e : x = y) (h : gName i y σ H Q) : gName i x σ H Q := e ▸ h
/-- two rules -/
def PairAt (H : Hp) (v : V) (qs rs : List Rat) : Prop := ∃ t a b, v = .ref t ∧ H t = some (.tup [a, b]) ∧ RuAt H a qs ∧ RuAt H b rs
def Beside (qs rs : List Rat) : Prop := qs.length = rs.length ∧ 1 ≤ qs.length ∧ ∃ B, Okr B qs ∧ Okr B rs
theorem Beside.symm {qs rs : List Rat} (h : Beside qs rs) : Beside rs qs := let ⟨h1, h2, B, h3, h4⟩ := h; ⟨h1.symm, by omega, B, h4, h3⟩
theorem FineN.beside {N n : Nat} {qs rs : List Rat} (h : FineN N n qs) (g : FineN N n rs) (h0 : 1 ≤ n) (h1 : n ≤ 12) (h2 : (n - 1) * (2 * N + 2) + 1 ≤ 3000) (h3 : N ≤ 1000) (h4 : n * (N + 1) + 1 ≤ 4000) : Beside qs rs := ⟨h.1.trans g.1.symm, by rw [h.1]; exact h0, N, h.okr h1 h2 h3 h4, g.okr h1 h2 h3 h4⟩
section
variable {P : Program} {w : World} {K : PySem.W.Frag} {mg : Str → Option Value} {base : Heap}
def spPairZ (K : PySem.W.Frag) (c : Nat) : Sp := fun vs H Q _ => ∃ (p : Addr) (m : Nat), vs = [.ref p] ∧ PenZ K H p m ∧ m + c ≤ 100000 ∧ ∀ v qs rs H', PairAt H' v qs rs → Beside qs rs → PenZ K H' p (m + c) → SameY p H H' → Q v H'
theorem ok_near (T : Txt2 mg) (C_l_take : Cal P w K mg base "_law_take" ["_law_pen_here", "_law_many"] 1 (spTakeZ K)) (C_drawn : Cal P w K mg base "drawn" ["n", "many"] 3 (spTup drawnF okD)) (C_unlike : Cal P w K mg base "unlike" ["n", "many"] 3 (spTup unlikeF okU))
    (C_l_weights : Cal P w K mg base "_law_weights" ["_law_pen_here", "_law_boxes"] 2 (spWeights K)) (C_l_rule : Cal P w K mg base "_law_rule" ["_law_weights_here"] 2 spRuleW) (C_mixed : Cal P w K mg base "mixed" ["share", "one", "other"] 4 spMixed)
    (F : FunAt K mg "_law_near" ["_law_pen_here"] s_l_near) : Cal P w K mg base "_law_near" ["_law_pen_here"] 5 (spPairZ K 60) := by
  have S := sc_l_near
  refine F.cal sc_l_near (fun vs H Q E h => ?_) (fun f cdv A outer s H vs Q E hr h => ?_)
  · obtain ⟨p, m, rfl, _⟩ := h; rfl
  obtain ⟨p, m, rfl, hp, hm, k⟩ := h
  refine ⟨_, (@pss_cons _ _ _ _ _ (@ps_set _ _ (1) _ _ _ _ (by exact S.nd) (by rfl) (by first | exact Or.inl rfl | exact Or.inr rfl) (@pe_op _ _ _ _ _ _ _ _ op_add pe_int (@cc _ _ _ _ _ _ _ _ _ _ (by exact C_l_take) (by exact (hr.mono (by decide))) (@pa_consN _ _ _ _ _ (pv 0) (@pa_consN _ _ _ _ _ pe_int pa_nil (by first | rfl | decide | exact Or.inl rfl | exact Or.inr rfl | (intro _; rfl) | (intro _ _; rfl) | (intro _ _ _; rfl))) (by first | rfl | decide | exact Or.inl rfl | exact Or.inr rfl | (intro _; rfl) | (intro _ _; rfl) | (intro _ _ _; rfl))) (by first | rfl | decide | exact Or.inl rfl | exact Or.inr rfl | (intro _; rfl) | (intro _ _; rfl) | (intro _ _ _; rfl)) (by first | rfl | decide | exact Or.inl rfl | exact Or.inr rfl | (intro _; rfl) | (intro _ _; rfl) | (intro _ _ _; rfl)) (by first | rfl | decide | exact Or.inl rfl | exact Or.inr rfl | (intro _; rfl) | (intro _ _; rfl) | (intro _ _ _; rfl)) (by first | rfl | decide | exact Or.inl rfl | exact Or.inr rfl | (intro _; rfl) | (intro _ _; rfl) | (intro _ _ _; rfl)))) (by first | rfl | decide | exact Or.inl rfl | exact Or.inr rfl | (intro _; rfl) | (intro _ _; rfl) | (intro _ _ _; rfl)) (by first | rfl | decide | exact Or.inl rfl | exact Or.inr rfl | (intro _; rfl) | (intro _ _; rfl) | (intro _ _ _; rfl))) (@pss_cons _ _ _ _ _ (@ps_set _ _ (2) _ _ _ _ (by exact S.nd) (by rfl) (by first | exact Or.inl rfl | exact Or.inr rfl) (@pe_ix _ _ _ _ _ _ _ ix_list (@pe_lst _ _ _ _ (@pa_consN _ _ _ _ _ (@cc _ _ _ _ _ _ _ _ _ _ (by exact C_l_rule) (by exact (hr.mono (by decide))) (@pa_consN _ _ _ _ _ (@cc _ _ _ _ _ _ _ _ _ _ (by exact C_l_weights) (by exact (hr.mono (by decide))) (@pa_consN _ _ _ _ _ (pv 0) (@pa_consN _ _ _ _ _ (pv 1) pa_nil (by first | rfl | decide | exact Or.inl rfl | exact Or.inr rfl | (intro _; rfl) | (intro _ _; rfl) | (intro _ _ _; rfl))) (by first | rfl | decide | exact Or.inl rfl | exact Or.inr rfl | (intro _; rfl) | (intro _ _; rfl) | (intro _ _ _; rfl))) (by first | rfl | decide | exact Or.inl rfl | exact Or.inr rfl | (intro _; rfl) | (intro _ _; rfl) | (intro _ _ _; rfl)) (by first | rfl | decide | exact Or.inl rfl | exact Or.inr rfl | (intro _; rfl) | (intro _ _; rfl) | (intro _ _ _; rfl)) (by first | rfl | decide | exact Or.inl rfl | exact Or.inr rfl | (intro _; rfl) | (intro _ _; rfl) | (intro _ _ _; rfl)) (by first | rfl | decide | exact Or.inl rfl | exact Or.inr rfl | (intro _; rfl) | (intro _ _; rfl) | (intro _ _ _; rfl))) pa_nil (by first | rfl | decide | exact Or.inl rfl | exact Or.inr rfl | (intro _; rfl) | (intro _ _; rfl) | (intro _ _ _; rfl))) (by first | rfl | decide | exact Or.inl rfl | exact Or.inr rfl | (intro _; rfl) | (intro _ _; rfl) | (intro _ _ _; rfl)) (by first | rfl | decide | exact Or.inl rfl | exact Or.inr rfl | (intro _; rfl) | (intro _ _; rfl) | (intro _ _ _; rfl)) (by first | rfl | decide | exact Or.inl rfl | exact Or.inr rfl | (intro _; rfl) | (intro _ _; rfl) | (intro _ _ _; rfl)) (by first | rfl | decide | exact Or.inl rfl | exact Or.inr rfl | (intro _; rfl) | (intro _ _; rfl) | (intro _ _ _; rfl))) (@pa_consN _ _ _ _ _ (@cc _ _ _ _ _ _ _ _ _ _ (by exact C_drawn) (by exact (hr.mono (by decide))) (@pa_consN _ _ _ _ _ (pv 1) (@pa_consN _ _ _ _ _ (@pe_op _ _ _ _ _ _ _ _ op_add pe_int (@cc _ _ _ _ _ _ _ _ _ _ (by exact C_l_take) (by exact (hr.mono (by decide))) (@pa_consN _ _ _ _ _ (pv 0) (@pa_consN _ _ _ _ _ pe_int pa_nil (by first | rfl | decide | exact Or.inl rfl | exact Or.inr rfl | (intro _; rfl) | (intro _ _; rfl) | (intro _ _ _; rfl))) (by first | rfl | decide | exact Or.inl rfl | exact Or.inr rfl | (intro _; rfl) | (intro _ _; rfl) | (intro _ _ _; rfl))) (by first | rfl | decide | exact Or.inl rfl | exact Or.inr rfl | (intro _; rfl) | (intro _ _; rfl) | (intro _ _ _; rfl)) (by first | rfl | decide | exact Or.inl rfl | exact Or.inr rfl | (intro _; rfl) | (intro _ _; rfl) | (intro _ _ _; rfl)) (by first | rfl | decide | exact Or.inl rfl | exact Or.inr rfl | (intro _; rfl) | (intro _ _; rfl) | (intro _ _ _; rfl)) (by first | rfl | decide | exact Or.inl rfl | exact Or.inr rfl | (intro _; rfl) | (intro _ _; rfl) | (intro _ _ _; rfl)))) pa_nil (by first | rfl | decide | exact Or.inl rfl | exact Or.inr rfl | (intro _; rfl) | (intro _ _; rfl) | (intro _ _ _; rfl))) (by first | rfl | decide | exact Or.inl rfl | exact Or.inr rfl | (intro _; rfl) | (intro _ _; rfl) | (intro _ _ _; rfl))) (by first | rfl | decide | exact Or.inl rfl | exact Or.inr rfl | (intro _; rfl) | (intro _ _; rfl) | (intro _ _ _; rfl)) (by first | rfl | decide | exact Or.inl rfl | exact Or.inr rfl | (intro _; rfl) | (intro _ _; rfl) | (intro _ _ _; rfl)) (by first | rfl | decide | exact Or.inl rfl | exact Or.inr rfl | (intro _; rfl) | (intro _ _; rfl) | (intro _ _ _; rfl)) (by first | rfl | decide | exact Or.inl rfl | exact Or.inr rfl | (intro _; rfl) | (intro _ _; rfl) | (intro _ _ _; rfl))) pa_nil (by first | rfl | decide | exact Or.inl rfl | exact Or.inr rfl | (intro _; rfl) | (intro _ _; rfl) | (intro _ _ _; rfl))) (by first | rfl | decide | exact Or.inl rfl | exact Or.inr rfl | (intro _; rfl) | (intro _ _; rfl) | (intro _ _ _; rfl)))) (@cc _ _ _ _ _ _ _ _ _ _ (by exact C_l_take) (by exact (hr.mono (by decide))) (@pa_consN _ _ _ _ _ (pv 0) (@pa_consN _ _ _ _ _ pe_int pa_nil (by first | rfl | decide | exact Or.inl rfl | exact Or.inr rfl | (intro _; rfl) | (intro _ _; rfl) | (intro _ _ _; rfl))) (by first | rfl | decide | exact Or.inl rfl | exact Or.inr rfl | (intro _; rfl) | (intro _ _; rfl) | (intro _ _ _; rfl))) (by first | rfl | decide | exact Or.inl rfl | exact Or.inr rfl | (intro _; rfl) | (intro _ _; rfl) | (intro _ _ _; rfl)) (by first | rfl | decide | exact Or.inl rfl | exact Or.inr rfl | (intro _; rfl) | (intro _ _; rfl) | (intro _ _ _; rfl)) (by first | rfl | decide | exact Or.inl rfl | exact Or.inr rfl | (intro _; rfl) | (intro _ _; rfl) | (intro _ _ _; rfl)) (by first | rfl | decide | exact Or.inl rfl | exact Or.inr rfl | (intro _; rfl) | (intro _ _; rfl) | (intro _ _ _; rfl))) (by exact (fun _ _ => rfl))) (by first | rfl | decide | exact Or.inl rfl | exact Or.inr rfl | (intro _; rfl) | (intro _ _; rfl) | (intro _ _ _; rfl)) (by first | rfl | decide | exact Or.inl rfl | exact Or.inr rfl | (intro _; rfl) | (intro _ _; rfl) | (intro _ _ _; rfl))) (@pss_cons _ _ _ _ _ (@ps_set _ _ (3) _ _ _ _ (by exact S.nd) (by rfl) (by first | exact Or.inl rfl | exact Or.inr rfl) (@pe_ix _ _ _ _ _ _ _ ix_list (@pe_lst _ _ _ _ (@pa_consN _ _ _ _ _ (@cc _ _ _ _ _ _ _ _ _ _ (by exact C_l_rule) (by exact (hr.mono (by decide))) (@pa_consN _ _ _ _ _ (@cc _ _ _ _ _ _ _ _ _ _ (by exact C_l_weights) (by exact (hr.mono (by decide))) (@pa_consN _ _ _ _ _ (pv 0) (@pa_consN _ _ _ _ _ (pv 1) pa_nil (by first | rfl | decide | exact Or.inl rfl | exact Or.inr rfl | (intro _; rfl) | (intro _ _; rfl) | (intro _ _ _; rfl))) (by first | rfl | decide | exact Or.inl rfl | exact Or.inr rfl | (intro _; rfl) | (intro _ _; rfl) | (intro _ _ _; rfl))) (by first | rfl | decide | exact Or.inl rfl | exact Or.inr rfl | (intro _; rfl) | (intro _ _; rfl) | (intro _ _ _; rfl)) (by first | rfl | decide | exact Or.inl rfl | exact Or.inr rfl | (intro _; rfl) | (intro _ _; rfl) | (intro _ _ _; rfl)) (by first | rfl | decide | exact Or.inl rfl | exact Or.inr rfl | (intro _; rfl) | (intro _ _; rfl) | (intro _ _ _; rfl)) (by first | rfl | decide | exact Or.inl rfl | exact Or.inr rfl | (intro _; rfl) | (intro _ _; rfl) | (intro _ _ _; rfl))) pa_nil (by first | rfl | decide | exact Or.inl rfl | exact Or.inr rfl | (intro _; rfl) | (intro _ _; rfl) | (intro _ _ _; rfl))) (by first | rfl | decide | exact Or.inl rfl | exact Or.inr rfl | (intro _; rfl) | (intro _ _; rfl) | (intro _ _ _; rfl)) (by first | rfl | decide | exact Or.inl rfl | exact Or.inr rfl | (intro _; rfl) | (intro _ _; rfl) | (intro _ _ _; rfl)) (by first | rfl | decide | exact Or.inl rfl | exact Or.inr rfl | (intro _; rfl) | (intro _ _; rfl) | (intro _ _ _; rfl)) (by first | rfl | decide | exact Or.inl rfl | exact Or.inr rfl | (intro _; rfl) | (intro _ _; rfl) | (intro _ _ _; rfl))) (@pa_consN _ _ _ _ _ (@cc _ _ _ _ _ _ _ _ _ _ (by exact C_unlike) (by exact (hr.mono (by decide))) (@pa_consN _ _ _ _ _ (pv 1) (@pa_consN _ _ _ _ _ (@pe_op _ _ _ _ _ _ _ _ op_add pe_int (@cc _ _ _ _ _ _ _ _ _ _ (by exact C_l_take) (by exact (hr.mono (by decide))) (@pa_consN _ _ _ _ _ (pv 0) (@pa_consN _ _ _ _ _ (pv 1) pa_nil (by first | rfl | decide | exact Or.inl rfl | exact Or.inr rfl | (intro _; rfl) | (intro _ _; rfl) | (intro _ _ _; rfl))) (by first | rfl | decide | exact Or.inl rfl | exact Or.inr rfl | (intro _; rfl) | (intro _ _; rfl) | (intro _ _ _; rfl))) (by first | rfl | decide | exact Or.inl rfl | exact Or.inr rfl | (intro _; rfl) | (intro _ _; rfl) | (intro _ _ _; rfl)) (by first | rfl | decide | exact Or.inl rfl | exact Or.inr rfl | (intro _; rfl) | (intro _ _; rfl) | (intro _ _ _; rfl)) (by first | rfl | decide | exact Or.inl rfl | exact Or.inr rfl | (intro _; rfl) | (intro _ _; rfl) | (intro _ _ _; rfl)) (by first | rfl | decide | exact Or.inl rfl | exact Or.inr rfl | (intro _; rfl) | (intro _ _; rfl) | (intro _ _ _; rfl)))) pa_nil (by first | rfl | decide | exact Or.inl rfl | exact Or.inr rfl | (intro _; rfl) | (intro _ _; rfl) | (intro _ _ _; rfl))) (by first | rfl | decide | exact Or.inl rfl | exact Or.inr rfl | (intro _; rfl) | (intro _ _; rfl) | (intro _ _ _; rfl))) (by first | rfl | decide | exact Or.inl rfl | exact Or.inr rfl | (intro _; rfl) | (intro _ _; rfl) | (intro _ _ _; rfl)) (by first | rfl | decide | exact Or.inl rfl | exact Or.inr rfl | (intro _; rfl) | (intro _ _; rfl) | (intro _ _ _; rfl)) (by first | rfl | decide | exact Or.inl rfl | exact Or.inr rfl | (intro _; rfl) | (intro _ _; rfl) | (intro _ _ _; rfl)) (by first | rfl | decide | exact Or.inl rfl | exact Or.inr rfl | (intro _; rfl) | (intro _ _; rfl) | (intro _ _ _; rfl))) pa_nil (by first | rfl | decide | exact Or.inl rfl | exact Or.inr rfl | (intro _; rfl) | (intro _ _; rfl) | (intro _ _ _; rfl))) (by first | rfl | decide | exact Or.inl rfl | exact Or.inr rfl | (intro _; rfl) | (intro _ _; rfl) | (intro _ _ _; rfl)))) (@cc _ _ _ _ _ _ _ _ _ _ (by exact C_l_take) (by exact (hr.mono (by decide))) (@pa_consN _ _ _ _ _ (pv 0) (@pa_consN _ _ _ _ _ pe_int pa_nil (by first | rfl | decide | exact Or.inl rfl | exact Or.inr rfl | (intro _; rfl) | (intro _ _; rfl) | (intro _ _ _; rfl))) (by first | rfl | decide | exact Or.inl rfl | exact Or.inr rfl | (intro _; rfl) | (intro _ _; rfl) | (intro _ _ _; rfl))) (by first | rfl | decide | exact Or.inl rfl | exact Or.inr rfl | (intro _; rfl) | (intro _ _; rfl) | (intro _ _ _; rfl)) (by first | rfl | decide | exact Or.inl rfl | exact Or.inr rfl | (intro _; rfl) | (intro _ _; rfl) | (intro _ _ _; rfl)) (by first | rfl | decide | exact Or.inl rfl | exact Or.inr rfl | (intro _; rfl) | (intro _ _; rfl) | (intro _ _ _; rfl)) (by first | rfl | decide | exact Or.inl rfl | exact Or.inr rfl | (intro _; rfl) | (intro _ _; rfl) | (intro _ _ _; rfl))) (by exact (fun _ _ => rfl))) (by first | rfl | decide | exact Or.inl rfl | exact Or.inr rfl | (intro _; rfl) | (intro _ _; rfl) | (intro _ _ _; rfl)) (by first | rfl | decide | exact Or.inl rfl | exact Or.inr rfl | (intro _; rfl) | (intro _ _; rfl) | (intro _ _ _; rfl))) (@pss_cons _ _ _ _ _ (@ps_for _ _ _ _ _ _ _ _ (by exact PassesOwn.never) (by rfl) (@pi_range1 _ _ _ _ _ _ (by rfl) (by exact T.z_range) (@pa_consN _ _ _ _ _ (@pe_op _ _ _ _ _ _ _ _ op_add pe_int (@cc _ _ _ _ _ _ _ _ _ _ (by exact C_l_take) (by exact (hr.mono (by decide))) (@pa_consN _ _ _ _ _ (pv 0) (@pa_consN _ _ _ _ _ pe_int pa_nil (by first | rfl | decide | exact Or.inl rfl | exact Or.inr rfl | (intro _; rfl) | (intro _ _; rfl) | (intro _ _ _; rfl))) (by first | rfl | decide | exact Or.inl rfl | exact Or.inr rfl | (intro _; rfl) | (intro _ _; rfl) | (intro _ _ _; rfl))) (by first | rfl | decide | exact Or.inl rfl | exact Or.inr rfl | (intro _; rfl) | (intro _ _; rfl) | (intro _ _ _; rfl)) (by first | rfl | decide | exact Or.inl rfl | exact Or.inr rfl | (intro _; rfl) | (intro _ _; rfl) | (intro _ _ _; rfl)) (by first | rfl | decide | exact Or.inl rfl | exact Or.inr rfl | (intro _; rfl) | (intro _ _; rfl) | (intro _ _ _; rfl)) (by first | rfl | decide | exact Or.inl rfl | exact Or.inr rfl | (intro _; rfl) | (intro _ _; rfl) | (intro _ _ _; rfl)))) pa_nil (by first | rfl | decide | exact Or.inl rfl | exact Or.inr rfl | (intro _; rfl) | (intro _ _; rfl) | (intro _ _ _; rfl))) (by first | rfl | decide | exact Or.inl rfl | exact Or.inr rfl | (intro _; rfl) | (intro _ _; rfl) | (intro _ _ _; rfl))) (@pg_name _ _ (4) _ (by exact S.nd) (by rfl) (by first | exact Or.inl rfl | exact Or.inr rfl) (by first | rfl | decide | exact Or.inl rfl | exact Or.inr rfl | (intro _; rfl) | (intro _ _; rfl) | (intro _ _ _; rfl))) (@pss_one _ _ _ (@ps_set _ _ (3) _ _ _ _ (by exact S.nd) (by rfl) (by first | exact Or.inl rfl | exact Or.inr rfl) (@cc _ _ _ _ _ _ _ _ _ _ (by exact C_mixed) (by exact (hr.mono (by decide))) (@pa_consN _ _ _ _ _ (@pe_ix _ _ _ _ _ _ _ ix_list (@pe_lst _ _ _ _ (@pa_consN _ _ _ _ _ (@pe_tup _ _ _ _ _ (@pa_consN _ _ _ _ _ pe_int (@pa_consN _ _ _ _ _ pe_int pa_nil (by first | rfl | decide | exact Or.inl rfl | exact Or.inr rfl | (intro _; rfl) | (intro _ _; rfl) | (intro _ _ _; rfl))) (by first | rfl | decide | exact Or.inl rfl | exact Or.inr rfl | (intro _; rfl) | (intro _ _; rfl) | (intro _ _ _; rfl)))) (@pa_consN _ _ _ _ _ (@pe_tup _ _ _ _ _ (@pa_consN _ _ _ _ _ pe_int (@pa_consN _ _ _ _ _ pe_int pa_nil (by first | rfl | decide | exact Or.inl rfl | exact Or.inr rfl | (intro _; rfl) | (intro _ _; rfl) | (intro _ _ _; rfl))) (by first | rfl | decide | exact Or.inl rfl | exact Or.inr rfl | (intro _; rfl) | (intro _ _; rfl) | (intro _ _ _; rfl)))) (@pa_consN _ _ _ _ _ (@pe_tup _ _ _ _ _ (@pa_consN _ _ _ _ _ pe_int (@pa_consN _ _ _ _ _ pe_int pa_nil (by first | rfl | decide | exact Or.inl rfl | exact Or.inr rfl | (intro _; rfl) | (intro _ _; rfl) | (intro _ _ _; rfl))) (by first | rfl | decide | exact Or.inl rfl | exact Or.inr rfl | (intro _; rfl) | (intro _ _; rfl) | (intro _ _ _; rfl)))) pa_nil (by first | rfl | decide | exact Or.inl rfl | exact Or.inr rfl | (intro _; rfl) | (intro _ _; rfl) | (intro _ _ _; rfl))) (by first | rfl | decide | exact Or.inl rfl | exact Or.inr rfl | (intro _; rfl) | (intro _ _; rfl) | (intro _ _ _; rfl))) (by first | rfl | decide | exact Or.inl rfl | exact Or.inr rfl | (intro _; rfl) | (intro _ _; rfl) | (intro _ _ _; rfl)))) (@cc _ _ _ _ _ _ _ _ _ _ (by exact C_l_take) (by exact (hr.mono (by decide))) (@pa_consN _ _ _ _ _ (pv 0) (@pa_consN _ _ _ _ _ pe_int pa_nil (by first | rfl | decide | exact Or.inl rfl | exact Or.inr rfl | (intro _; rfl) | (intro _ _; rfl) | (intro _ _ _; rfl))) (by first | rfl | decide | exact Or.inl rfl | exact Or.inr rfl | (intro _; rfl) | (intro _ _; rfl) | (intro _ _ _; rfl))) (by first | rfl | decide | exact Or.inl rfl | exact Or.inr rfl | (intro _; rfl) | (intro _ _; rfl) | (intro _ _ _; rfl)) (by first | rfl | decide | exact Or.inl rfl | exact Or.inr rfl | (intro _; rfl) | (intro _ _; rfl) | (intro _ _ _; rfl)) (by first | rfl | decide | exact Or.inl rfl | exact Or.inr rfl | (intro _; rfl) | (intro _ _; rfl) | (intro _ _ _; rfl)) (by first | rfl | decide | exact Or.inl rfl | exact Or.inr rfl | (intro _; rfl) | (intro _ _; rfl) | (intro _ _ _; rfl))) (by exact (fun _ _ => rfl))) (@pa_consN _ _ _ _ _ (pv 3) (@pa_consN _ _ _ _ _ (pv 2) pa_nil (by first | rfl | decide | exact Or.inl rfl | exact Or.inr rfl | (intro _; rfl) | (intro _ _; rfl) | (intro _ _ _; rfl))) (by first | rfl | decide | exact Or.inl rfl | exact Or.inr rfl | (intro _; rfl) | (intro _ _; rfl) | (intro _ _ _; rfl))) (by first | rfl | decide | exact Or.inl rfl | exact Or.inr rfl | (intro _; rfl) | (intro _ _; rfl) | (intro _ _ _; rfl))) (by first | rfl | decide | exact Or.inl rfl | exact Or.inr rfl | (intro _; rfl) | (intro _ _; rfl) | (intro _ _ _; rfl)) (by first | rfl | decide | exact Or.inl rfl | exact Or.inr rfl | (intro _; rfl) | (intro _ _; rfl) | (intro _ _ _; rfl)) (by first | rfl | decide | exact Or.inl rfl | exact Or.inr rfl | (intro _; rfl) | (intro _ _; rfl) | (intro _ _ _; rfl)) (by first | rfl | decide | exact Or.inl rfl | exact Or.inr rfl | (intro _; rfl) | (intro _ _; rfl) | (intro _ _ _; rfl))) (by first | rfl | decide | exact Or.inl rfl | exact Or.inr rfl | (intro _; rfl) | (intro _ _; rfl) | (intro _ _ _; rfl)) (by first | rfl | decide | exact Or.inl rfl | exact Or.inr rfl | (intro _; rfl) | (intro _ _; rfl) | (intro _ _ _; rfl)))) (by first | rfl | decide | exact Or.inl rfl | exact Or.inr rfl | (intro _; rfl) | (intro _ _; rfl) | (intro _ _ _; rfl))) (@pss_one _ _ _ (@ps_ret _ _ _ _ (@pe_ix _ _ _ _ _ _ _ ix_list (@pe_lst _ _ _ _ (@pa_consN _ _ _ _ _ (@pe_tup _ _ _ _ _ (@pa_consN _ _ _ _ _ (pv 2) (@pa_consN _ _ _ _ _ (pv 3) pa_nil (by first | rfl | decide | exact Or.inl rfl | exact Or.inr rfl | (intro _; rfl) | (intro _ _; rfl) | (intro _ _ _; rfl))) (by first | rfl | decide | exact Or.inl rfl | exact Or.inr rfl | (intro _; rfl) | (intro _ _; rfl) | (intro _ _ _; rfl)))) (@pa_consN _ _ _ _ _ (@pe_tup _ _ _ _ _ (@pa_consN _ _ _ _ _ (pv 3) (@pa_consN _ _ _ _ _ (pv 2) pa_nil (by first | rfl | decide | exact Or.inl rfl | exact Or.inr rfl | (intro _; rfl) | (intro _ _; rfl) | (intro _ _ _; rfl))) (by first | rfl | decide | exact Or.inl rfl | exact Or.inr rfl | (intro _; rfl) | (intro _ _; rfl) | (intro _ _ _; rfl)))) pa_nil (by first | rfl | decide | exact Or.inl rfl | exact Or.inr rfl | (intro _; rfl) | (intro _ _; rfl) | (intro _ _ _; rfl))) (by first | rfl | decide | exact Or.inl rfl | exact Or.inr rfl | (intro _; rfl) | (intro _ _; rfl) | (intro _ _ _; rfl)))) (@cc _ _ _ _ _ _ _ _ _ _ (by exact C_l_take) (by exact (hr.mono (by decide))) (@pa_consN _ _ _ _ _ (pv 0) (@pa_consN _ _ _ _ _ pe_int pa_nil (by first | rfl | decide | exact Or.inl rfl | exact Or.inr rfl | (intro _; rfl) | (intro _ _; rfl) | (intro _ _ _; rfl))) (by first | rfl | decide | exact Or.inl rfl | exact Or.inr rfl | (intro _; rfl) | (intro _ _; rfl) | (intro _ _ _; rfl))) (by first | rfl | decide | exact Or.inl rfl | exact Or.inr rfl | (intro _; rfl) | (intro _ _; rfl) | (intro _ _ _; rfl)) (by first | rfl | decide | exact Or.inl rfl | exact Or.inr rfl | (intro _; rfl) | (intro _ _; rfl) | (intro _ _ _; rfl)) (by first | rfl | decide | exact Or.inl rfl | exact Or.inr rfl | (intro _; rfl) | (intro _ _; rfl) | (intro _ _ _; rfl)) (by first | rfl | decide | exact Or.inl rfl | exact Or.inr rfl | (intro _; rfl) | (intro _ _; rfl) | (intro _ _ _; rfl))) (by exact (fun _ _ => rfl))))))))), ?_⟩
  refine ⟨_, rfl, p, _, _, rfl, hp, by omega, by omega, by omega, fun d1 H1 d10 d11 p1 x1 => ?_⟩
  refine ⟨_, _, rfl, rfl, ?_⟩
  obtain ⟨n, en⟩ : ∃ n : Nat, 2 + d1 = (n : Int) := ⟨(2 + d1).toNat, by omega⟩
  refine gN_eq (congrArg V.int en) ?_
  have n2 : 2 ≤ n := by omega
  have n6 : n ≤ 6 := by omega
  -- base
  refine ⟨_, rfl, _, rfl, p, n, _, rfl, p1, by omega, by omega, by omega, fun l1 ws1 H2 W1 hl1 p2 x2 => ?_⟩
  refine ⟨l1, n, ws1, rfl, hl1, W1, by omega, fun v1 H3 s3 r1 => ?_⟩
  have p3 := p2.same s3
  refine ⟨_, rfl, _, rfl, p, _, _, rfl, p3, by omega, by omega, by omega, fun d2 H4 d20 d21 p4 x4 => ?_⟩
  refine ⟨_, _, rfl, rfl, ?_⟩
  obtain ⟨q2, e2, _, f2⟩ := drawn_fineN (n := n) (k := 1 + d2) ⟨by omega, by omega, by omega, by omega⟩
  refine ⟨_, _, rfl, ⟨by omega, by omega, by omega, by omega⟩, fun t2 ys2 H5 s5 ht2 hy2 => ?_⟩
  rw [e2] at hy2
  have g2 := f2 (by omega) (by omega)
  rw [Int.toNat_natCast] at g2
  have r2 : RuAt H5 (.ref t2) q2 := ⟨t2, ys2, rfl, ht2, shs_of hy2⟩
  have p5 := p4.same s5
  have r1' : RuAt H5 v1 (rwF ws1) := (r1.keepZ p3 x4).same s5
  refine ⟨lz 2 rfl, fun L1 hL1 => ?_⟩
  have sL := same_new hL1 (.lst [v1, .ref t2])
  have pL := p5.same sL
  refine ⟨_, rfl, p, _, _, rfl, pL, by omega, by omega, by omega, fun d3 H6 d30 d31 p6 x6 => ?_⟩
  have hL6 := x6.all _ _ (upd_same (H := H5) (a := L1) (o := .lst [v1, .ref t2])) (p5.ne hL1)
  have xa : SameY p H H6 := (((x1.trans x2).trans (Same.y s3)).trans x4).trans ((Same.y (s5.trans sL)).trans x6)
  obtain ⟨vb, bs, hvb, rb, fb⟩ : ∃ vb bs, atI [v1, V.ref t2] d3 = some vb ∧ RuAt H6 vb bs ∧ FineN 10 n bs := by
    rcases (show d3 = 0 ∨ d3 = 1 by omega) with rfl | rfl
    · exact ⟨v1, _, rfl, (r1'.same sL).keepZ pL x6, rw_fineN W1⟩
    · exact ⟨.ref t2, _, rfl, (r2.same sL).keepZ pL x6, g2⟩
  refine ⟨L1, _, _, _, rfl, rfl, SqL.of hL6, hvb, ?_⟩
  -- found
  refine ⟨_, rfl, _, rfl, p, n, _, rfl, p6, by omega, by omega, by omega, fun l2 ws2 H7 W2 hl2 p7 x7 => ?_⟩
  refine ⟨l2, n, ws2, rfl, hl2, W2, by omega, fun v3 H8 s8 r3 => ?_⟩
  have p8 := p7.same s8
  refine ⟨_, rfl, _, rfl, _, rfl, p, _, _, rfl, p8, by omega, by omega, by omega, fun d4 H9 d40 d41 p9 x9 => ?_⟩
  refine ⟨_, _, rfl, rfl, ?_⟩
  obtain ⟨q4, e4, f4⟩ := unlike_fineN (n := n) (k := 1 + d4) ⟨by omega, by omega, by omega, by omega⟩
  refine ⟨_, _, rfl, ⟨by omega, by omega, by omega, by omega⟩, fun t4 ys4 H10 s10 ht4 hy4 => ?_⟩
  rw [e4] at hy4
  rw [Int.toNat_natCast] at f4
  have r4 : RuAt H10 (.ref t4) q4 := ⟨t4, ys4, rfl, ht4, shs_of hy4⟩
  have p10 := p9.same s10
  have r3' : RuAt H10 v3 (rwF ws2) := (r3.keepZ p8 x9).same s10
  have rb' : RuAt H10 vb bs := (((rb.keepZ p6 x7).same s8).keepZ p8 x9).same s10
  refine ⟨lz 2 rfl, fun L2 hL2 => ?_⟩
  have sM := same_new hL2 (.lst [v3, .ref t4])
  have pM := p10.same sM
  refine ⟨_, rfl, p, _, _, rfl, pM, by omega, by omega, by omega, fun d5 H11 d50 d51 p11 x11 => ?_⟩
  have hL11 := x11.all _ _ (upd_same (H := H10) (a := L2) (o := .lst [v3, .ref t4])) (p10.ne hL2)
  have xb : SameY p H H11 := (((xa.trans x7).trans (Same.y s8)).trans x9).trans ((Same.y (s10.trans sM)).trans x11)
  obtain ⟨vf, fs, hvf, rf, ff⟩ : ∃ vf fs, atI [v3, V.ref t4] d5 = some vf ∧ RuAt H11 vf fs ∧ FineN 10 n fs := by
    rcases (show d5 = 0 ∨ d5 = 1 by omega) with rfl | rfl
    · exact ⟨v3, _, rfl, (r3'.same sM).keepZ pM x11, rw_fineN W2⟩
    · exact ⟨.ref t4, _, rfl, (r4.same sM).keepZ pM x11, f4⟩
  have rb11 : RuAt H11 vb bs := (rb'.same sM).keepZ pM x11
  refine ⟨L2, _, _, _, rfl, rfl, SqL.of hL11, hvf, ?_⟩
  refine ⟨_, rfl, p, _, _, rfl, p11, by omega, by omega, by omega, fun d6 H12 d60 d61 p12 x12 => ?_⟩
  refine ⟨_, _, rfl, rfl, _, rfl, by omega, by omega, for_range (n := (3 + d6).toNat) (lo := 0) (fun i σ H' => ∃ v qs o4, σ = [some (.ref p), some (.int (n : Int)), some vb, some v, o4] ∧ RuAt H' vb bs ∧ RuAt H' v qs ∧ FineN (10 + 33 * i) n qs ∧ PenZ K H' p (m + 40 + i) ∧ SameY p H H') ⟨vf, fs, _, rfl, rb11.keepZ p11 x12, rf.keepZ p11 x12, ff, p12.mono (by omega), xb.trans x12⟩ ?_ ?_⟩
  · rintro i σ H' hi ⟨v, qs, o4, rfl, rb, rv, fv, pp, xx⟩
    have i8 : i < 8 := by omega
    refine ⟨lz 2 rfl, fun u1 hu1 => ⟨lz 2 rfl, fun u2 hu2 => ⟨lz 2 rfl, fun u3 hu3 => ⟨lz 3 rfl, fun L hL => ?_⟩⟩⟩⟩
    have z1 := same_new hu1 (.tup [.int 1, .int 1000])
    have z2 := same_new hu2 (.tup [.int 1, .int 1000])
    have z3 := same_new hu3 (.tup [.int 999, .int 1000])
    have z4 := same_new hL (.lst [.ref u1, .ref u2, .ref u3])
    have w1 : ShAt _ (.ref u1) qA := ⟨u1, rfl, upd_same (H := H') (a := u1) (o := .tup [.int 1, .int 1000])⟩
    have w2 : ShAt _ (.ref u2) qA := ⟨u2, rfl, upd_same (H := upd H' u1 (.tup [.int 1, .int 1000])) (a := u2) (o := .tup [.int 1, .int 1000])⟩
    have w3 : ShAt _ (.ref u3) qB := ⟨u3, rfl, upd_same (H := upd (upd H' u1 (.tup [.int 1, .int 1000])) u2 (.tup [.int 1, .int 1000])) (a := u3) (o := .tup [.int 999, .int 1000])⟩
    have zz := ((z1.trans z2).trans z3).trans z4
    have pz := pp.same zz
    refine ⟨_, rfl, p, _, _, rfl, pz, by omega, by omega, by omega, fun d H2 d0 d1 p2 x2 => ?_⟩
    have hL2 := x2.all _ _ (upd_same (a := L) (o := .lst [.ref u1, .ref u2, .ref u3])) ((((pp.same z1).same z2).same z3).ne hL)
    obtain ⟨vq, q, hvq, sq, bq, q0, q1⟩ : ∃ vq q, atI [V.ref u1, .ref u2, .ref u3] d = some vq ∧ ShAt H2 vq q ∧ SB 10 q ∧ 0 ≤ q ∧ q.num ≤ (q.den : Int) := by
      rcases (show d = 0 ∨ d = 1 ∨ d = 2 by omega) with rfl | rfl | rfl
      · exact ⟨.ref u1, qA, rfl, ShAt.keepZ pz x2 (w1.same ((z2.trans z3).trans z4)), qA_ok⟩
      · exact ⟨.ref u2, qA, rfl, ShAt.keepZ pz x2 (w2.same (z3.trans z4)), qA_ok⟩
      · exact ⟨.ref u3, qB, rfl, ShAt.keepZ pz x2 (w3.same z4), qB_ok⟩
    have rb2 := (rb.same zz).keepZ pz x2
    have rv2 := (rv.same zz).keepZ pz x2
    have fb3 := fb.mono (show 10 ≤ 1000 by decide)
    have fv3 := fv.mono (show 10 + 33 * i ≤ 1000 by omega)
    refine ⟨L, _, _, _, rfl, rfl, SqL.of hL2, hvq, _, rfl, _, rfl, vq, v, vb, q, qs, bs, rfl, sq, rv2, rb2, bq.mono (by decide), fun x hx => (fv3.2 x hx).2, fun x hx => (fb3.2 x hx).2, by rw [fv.1]; omega, by rw [fv.1, fb.1], fun v' H3 s3 rm => ?_⟩
    exact ⟨v', _, _, rfl, rb2.same s3, rm, (fv.mix fb bq q0 q1).mono (by omega), (p2.same s3).mono (by omega), ((xx.trans (Same.y zz)).trans x2).trans (Same.y s3)⟩
  · rintro σ H' ⟨v, qs, o4, rfl, rb, rv, fv, pp, xx⟩
    have be : Beside bs qs := FineN.beside (N := 274) (fb.mono (by decide)) (fv.mono (by omega)) (by omega) (by omega) (by omega) (by omega) (by omega)
    refine ⟨_, rfl, _, rfl, lz 2 rfl, fun u1 hu1 => ⟨_, rfl, _, rfl, lz 2 rfl, fun u2 hu2 => ⟨lz 2 rfl, fun L hL => ?_⟩⟩⟩
    have z1 := same_new hu1 (.tup [vb, v])
    have z2 := same_new hu2 (.tup [v, vb])
    have z3 := same_new hL (.lst [.ref u1, .ref u2])
    have zz := (z1.trans z2).trans z3
    have pz := pp.same zz
    have e1 : (upd H' u1 (.tup [vb, v])) u1 = some (.tup [vb, v]) := upd_same
    have e2 : (upd (upd H' u1 (.tup [vb, v])) u2 (.tup [v, vb])) u2 = some (.tup [v, vb]) := upd_same
    refine ⟨_, rfl, p, _, _, rfl, pz, by omega, by omega, by omega, fun d H2 d0 d1 p2 x2 => ?_⟩
    have hL2 := x2.all _ _ (upd_same (a := L) (o := .lst [.ref u1, .ref u2])) (((pp.same z1).same z2).ne hL)
    have rb2 := (rb.same zz).keepZ pz x2
    have rv2 := (rv.same zz).keepZ pz x2
    have xe : SameY p H H2 := (xx.trans (Same.y zz)).trans x2
    rcases (show d = 0 ∨ d = 1 by omega) with rfl | rfl
    · exact ⟨L, _, _, _, rfl, rfl, SqL.of hL2, rfl, k _ bs qs H2 ⟨u1, vb, v, rfl, pz.keepT x2 (z3 _ _ (z2 _ _ e1)), rb2, rv2⟩ be (p2.mono (by omega)) xe⟩
    · exact ⟨L, _, _, _, rfl, rfl, SqL.of hL2, rfl, k _ qs bs H2 ⟨u2, v, vb, rfl, pz.keepT x2 (z3 _ _ e2), rv2, rb2⟩ be.symm (p2.mono (by omega)) xe⟩
end
end My

set_option Elab.async false
set_option linter.all false
set_option maxRecDepth 100000
set_option maxHeartbeats 4000000
namespace My
open PySem L2 MA
theorem tstN {a b : Int} (c : ¬ decide (V.int a = V.int b) = true) : a ≠ b := fun e => c (by rw [e]; simp)
theorem div7 {r : Int} (h0 : 0 ≤ r) (h1 : r ≤ 7) : SB 3 (Rat.divInt r 7) ∧ 0 ≤ Rat.divInt r 7 ∧ (Rat.divInt r 7).num ≤ ((Rat.divInt r 7).den : Int) := by
  have e := share_pos (t := r) (b := 7) (by decide)
  have g := gI_pos_right (a := r) (b := 7) (by omega)
  refine ⟨SB.divInt (.of_lt (by omega)) (by decide) (by decide), Rat.num_nonneg.mp (by rw [← e.1]; exact Int.ediv_nonneg h0 (by omega)), ?_⟩
  rw [← e.1, ← e.2]
  exact Int.ediv_le_ediv g h1
section
variable {P : Program} {w : World} {K : PySem.W.Frag} {mg : Str → Option Value} {base : Heap}
theorem ok_pair (T : Txt2 mg) (C_l_take : Cal P w K mg base "_law_take" ["_law_pen_here", "_law_many"] 1 (spTakeZ K)) (C_drawn : Cal P w K mg base "drawn" ["n", "many"] 3 (spTup drawnF okD)) (C_unlike : Cal P w K mg base "unlike" ["n", "many"] 3 (spTup unlikeF okU))
    (C_l_weights : Cal P w K mg base "_law_weights" ["_law_pen_here", "_law_boxes"] 2 (spWeights K)) (C_l_rule : Cal P w K mg base "_law_rule" ["_law_weights_here"] 2 spRuleW) (C_mixed : Cal P w K mg base "mixed" ["share", "one", "other"] 4 spMixed)
    (C_l_behind : Cal P w K mg base "_law_behind" ["_law_pen_here", "_law_weights_here"] 2 (spBehind K)) (C_l_share : Cal P w K mg base "_law_share" ["_law_top", "_law_bottom"] 1 spShareL) (C_l_near : Cal P w K mg base "_law_near" ["_law_pen_here"] 5 (spPairZ K 60))
    (F : FunAt K mg "_law_pair" ["_law_pen_here"] s_l_pair) : Cal P w K mg base "_law_pair" ["_law_pen_here"] 6 (spPairZ K 70) := by
  have S := sc_l_pair
  refine F.cal sc_l_pair (fun vs H Q E h => ?_) (fun f cdv A outer s H vs Q E hr h => ?_)
  · obtain ⟨p, m, rfl, _⟩ := h; rfl
  obtain ⟨p, m, rfl, hp, hm, k⟩ := h
  refine ⟨_, (@pss_cons _ _ _ _ _ (@ps_set _ _ (1) _ _ _ _ (by exact S.nd) (by rfl) (by first | exact Or.inl rfl | exact Or.inr rfl) (@cc _ _ _ _ _ _ _ _ _ _ (by exact C_l_take) (by exact (hr.mono (by decide))) (@pa_consN _ _ _ _ _ (pv 0) (@pa_consN _ _ _ _ _ pe_int pa_nil (by first | rfl | decide | exact Or.inl rfl | exact Or.inr rfl | (intro _; rfl) | (intro _ _; rfl) | (intro _ _ _; rfl))) (by first | rfl | decide | exact Or.inl rfl | exact Or.inr rfl | (intro _; rfl) | (intro _ _; rfl) | (intro _ _ _; rfl))) (by first | rfl | decide | exact Or.inl rfl | exact Or.inr rfl | (intro _; rfl) | (intro _ _; rfl) | (intro _ _ _; rfl)) (by first | rfl | decide | exact Or.inl rfl | exact Or.inr rfl | (intro _; rfl) | (intro _ _; rfl) | (intro _ _ _; rfl)) (by first | rfl | decide | exact Or.inl rfl | exact Or.inr rfl | (intro _; rfl) | (intro _ _; rfl) | (intro _ _ _; rfl)) (by first | rfl | decide | exact Or.inl rfl | exact Or.inr rfl | (intro _; rfl) | (intro _ _; rfl) | (intro _ _ _; rfl))) (by first | rfl | decide | exact Or.inl rfl | exact Or.inr rfl | (intro _; rfl) | (intro _ _; rfl) | (intro _ _ _; rfl)) (by first | rfl | decide | exact Or.inl rfl | exact Or.inr rfl | (intro _; rfl) | (intro _ _; rfl) | (intro _ _ _; rfl))) (@pss_cons _ _ _ _ _ (@ps_if _ _ _ _ _ _ _ _ (@pt_cmpR _ _ _ _ _ _ _ _ op_eq (pv 1) pe_int (by exact (nomark _))) (@pss_one _ _ _ (@ps_ret _ _ _ _ (@cc _ _ _ _ _ _ _ _ _ _ (by exact C_l_near) (by exact (hr.mono (by decide))) (@pa_consN _ _ _ _ _ (pv 0) pa_nil (by first | rfl | decide | exact Or.inl rfl | exact Or.inr rfl | (intro _; rfl) | (intro _ _; rfl) | (intro _ _ _; rfl))) (by first | rfl | decide | exact Or.inl rfl | exact Or.inr rfl | (intro _; rfl) | (intro _ _; rfl) | (intro _ _ _; rfl)) (by first | rfl | decide | exact Or.inl rfl | exact Or.inr rfl | (intro _; rfl) | (intro _ _; rfl) | (intro _ _ _; rfl)) (by first | rfl | decide | exact Or.inl rfl | exact Or.inr rfl | (intro _; rfl) | (intro _ _; rfl) | (intro _ _ _; rfl)) (by first | rfl | decide | exact Or.inl rfl | exact Or.inr rfl | (intro _; rfl) | (intro _ _; rfl) | (intro _ _ _; rfl))))) pss_nil) (@pss_cons _ _ _ _ _ (@ps_set _ _ (2) _ _ _ _ (by exact S.nd) (by rfl) (by first | exact Or.inl rfl | exact Or.inr rfl) (@pe_op _ _ _ _ _ _ _ _ op_add pe_int (@cc _ _ _ _ _ _ _ _ _ _ (by exact C_l_take) (by exact (hr.mono (by decide))) (@pa_consN _ _ _ _ _ (pv 0) (@pa_consN _ _ _ _ _ (@pe_ix _ _ _ _ _ _ _ ix_tup (@pe_tup _ _ _ _ _ (@pa_consN _ _ _ _ _ pe_int (@pa_consN _ _ _ _ _ pe_int pa_nil (by first | rfl | decide | exact Or.inl rfl | exact Or.inr rfl | (intro _; rfl) | (intro _ _; rfl) | (intro _ _ _; rfl))) (by first | rfl | decide | exact Or.inl rfl | exact Or.inr rfl | (intro _; rfl) | (intro _ _; rfl) | (intro _ _ _; rfl)))) (@cc _ _ _ _ _ _ _ _ _ _ (by exact C_l_take) (by exact (hr.mono (by decide))) (@pa_consN _ _ _ _ _ (pv 0) (@pa_consN _ _ _ _ _ pe_int pa_nil (by first | rfl | decide | exact Or.inl rfl | exact Or.inr rfl | (intro _; rfl) | (intro _ _; rfl) | (intro _ _ _; rfl))) (by first | rfl | decide | exact Or.inl rfl | exact Or.inr rfl | (intro _; rfl) | (intro _ _; rfl) | (intro _ _ _; rfl))) (by first | rfl | decide | exact Or.inl rfl | exact Or.inr rfl | (intro _; rfl) | (intro _ _; rfl) | (intro _ _ _; rfl)) (by first | rfl | decide | exact Or.inl rfl | exact Or.inr rfl | (intro _; rfl) | (intro _ _; rfl) | (intro _ _ _; rfl)) (by first | rfl | decide | exact Or.inl rfl | exact Or.inr rfl | (intro _; rfl) | (intro _ _; rfl) | (intro _ _ _; rfl)) (by first | rfl | decide | exact Or.inl rfl | exact Or.inr rfl | (intro _; rfl) | (intro _ _; rfl) | (intro _ _ _; rfl))) (by exact (fun _ _ => rfl))) pa_nil (by first | rfl | decide | exact Or.inl rfl | exact Or.inr rfl | (intro _; rfl) | (intro _ _; rfl) | (intro _ _ _; rfl))) (by first | rfl | decide | exact Or.inl rfl | exact Or.inr rfl | (intro _; rfl) | (intro _ _; rfl) | (intro _ _ _; rfl))) (by first | rfl | decide | exact Or.inl rfl | exact Or.inr rfl | (intro _; rfl) | (intro _ _; rfl) | (intro _ _ _; rfl)) (by first | rfl | decide | exact Or.inl rfl | exact Or.inr rfl | (intro _; rfl) | (intro _ _; rfl) | (intro _ _ _; rfl)) (by first | rfl | decide | exact Or.inl rfl | exact Or.inr rfl | (intro _; rfl) | (intro _ _; rfl) | (intro _ _ _; rfl)) (by first | rfl | decide | exact Or.inl rfl | exact Or.inr rfl | (intro _; rfl) | (intro _ _; rfl) | (intro _ _ _; rfl)))) (by first | rfl | decide | exact Or.inl rfl | exact Or.inr rfl | (intro _; rfl) | (intro _ _; rfl) | (intro _ _ _; rfl)) (by first | rfl | decide | exact Or.inl rfl | exact Or.inr rfl | (intro _; rfl) | (intro _ _; rfl) | (intro _ _ _; rfl))) (@pss_cons _ _ _ _ _ (@ps_set _ _ (3) _ _ _ _ (by exact S.nd) (by rfl) (by first | exact Or.inl rfl | exact Or.inr rfl) (@cc _ _ _ _ _ _ _ _ _ _ (by exact C_l_weights) (by exact (hr.mono (by decide))) (@pa_consN _ _ _ _ _ (pv 0) (@pa_consN _ _ _ _ _ (pv 2) pa_nil (by first | rfl | decide | exact Or.inl rfl | exact Or.inr rfl | (intro _; rfl) | (intro _ _; rfl) | (intro _ _ _; rfl))) (by first | rfl | decide | exact Or.inl rfl | exact Or.inr rfl | (intro _; rfl) | (intro _ _; rfl) | (intro _ _ _; rfl))) (by first | rfl | decide | exact Or.inl rfl | exact Or.inr rfl | (intro _; rfl) | (intro _ _; rfl) | (intro _ _ _; rfl)) (by first | rfl | decide | exact Or.inl rfl | exact Or.inr rfl | (intro _; rfl) | (intro _ _; rfl) | (intro _ _ _; rfl)) (by first | rfl | decide | exact Or.inl rfl | exact Or.inr rfl | (intro _; rfl) | (intro _ _; rfl) | (intro _ _ _; rfl)) (by first | rfl | decide | exact Or.inl rfl | exact Or.inr rfl | (intro _; rfl) | (intro _ _; rfl) | (intro _ _ _; rfl))) (by first | rfl | decide | exact Or.inl rfl | exact Or.inr rfl | (intro _; rfl) | (intro _ _; rfl) | (intro _ _ _; rfl)) (by first | rfl | decide | exact Or.inl rfl | exact Or.inr rfl | (intro _; rfl) | (intro _ _; rfl) | (intro _ _ _; rfl))) (@pss_cons _ _ _ _ _ (@ps_set _ _ (4) _ _ _ _ (by exact S.nd) (by rfl) (by first | exact Or.inl rfl | exact Or.inr rfl) (@cc _ _ _ _ _ _ _ _ _ _ (by exact C_l_rule) (by exact (hr.mono (by decide))) (@pa_consN _ _ _ _ _ (pv 3) pa_nil (by first | rfl | decide | exact Or.inl rfl | exact Or.inr rfl | (intro _; rfl) | (intro _ _; rfl) | (intro _ _ _; rfl))) (by first | rfl | decide | exact Or.inl rfl | exact Or.inr rfl | (intro _; rfl) | (intro _ _; rfl) | (intro _ _ _; rfl)) (by first | rfl | decide | exact Or.inl rfl | exact Or.inr rfl | (intro _; rfl) | (intro _ _; rfl) | (intro _ _ _; rfl)) (by first | rfl | decide | exact Or.inl rfl | exact Or.inr rfl | (intro _; rfl) | (intro _ _; rfl) | (intro _ _ _; rfl)) (by first | rfl | decide | exact Or.inl rfl | exact Or.inr rfl | (intro _; rfl) | (intro _ _; rfl) | (intro _ _ _; rfl))) (by first | rfl | decide | exact Or.inl rfl | exact Or.inr rfl | (intro _; rfl) | (intro _ _; rfl) | (intro _ _ _; rfl)) (by first | rfl | decide | exact Or.inl rfl | exact Or.inr rfl | (intro _; rfl) | (intro _ _; rfl) | (intro _ _ _; rfl))) (@pss_cons _ _ _ _ _ (@ps_if _ _ _ _ _ _ _ _ (@pt_cmpR _ _ _ _ _ _ _ _ op_eq (pv 1) pe_int (by exact (nomark _))) (@pss_one _ _ _ (@ps_ret _ _ _ _ (@pe_tup _ _ _ _ _ (@pa_consN _ _ _ _ _ (pv 4) (@pa_consN _ _ _ _ _ (@cc _ _ _ _ _ _ _ _ _ _ (by exact C_l_rule) (by exact (hr.mono (by decide))) (@pa_consN _ _ _ _ _ (@cc _ _ _ _ _ _ _ _ _ _ (by exact C_l_weights) (by exact (hr.mono (by decide))) (@pa_consN _ _ _ _ _ (pv 0) (@pa_consN _ _ _ _ _ (pv 2) pa_nil (by first | rfl | decide | exact Or.inl rfl | exact Or.inr rfl | (intro _; rfl) | (intro _ _; rfl) | (intro _ _ _; rfl))) (by first | rfl | decide | exact Or.inl rfl | exact Or.inr rfl | (intro _; rfl) | (intro _ _; rfl) | (intro _ _ _; rfl))) (by first | rfl | decide | exact Or.inl rfl | exact Or.inr rfl | (intro _; rfl) | (intro _ _; rfl) | (intro _ _ _; rfl)) (by first | rfl | decide | exact Or.inl rfl | exact Or.inr rfl | (intro _; rfl) | (intro _ _; rfl) | (intro _ _ _; rfl)) (by first | rfl | decide | exact Or.inl rfl | exact Or.inr rfl | (intro _; rfl) | (intro _ _; rfl) | (intro _ _ _; rfl)) (by first | rfl | decide | exact Or.inl rfl | exact Or.inr rfl | (intro _; rfl) | (intro _ _; rfl) | (intro _ _ _; rfl))) pa_nil (by first | rfl | decide | exact Or.inl rfl | exact Or.inr rfl | (intro _; rfl) | (intro _ _; rfl) | (intro _ _ _; rfl))) (by first | rfl | decide | exact Or.inl rfl | exact Or.inr rfl | (intro _; rfl) | (intro _ _; rfl) | (intro _ _ _; rfl)) (by first | rfl | decide | exact Or.inl rfl | exact Or.inr rfl | (intro _; rfl) | (intro _ _; rfl) | (intro _ _ _; rfl)) (by first | rfl | decide | exact Or.inl rfl | exact Or.inr rfl | (intro _; rfl) | (intro _ _; rfl) | (intro _ _ _; rfl)) (by first | rfl | decide | exact Or.inl rfl | exact Or.inr rfl | (intro _; rfl) | (intro _ _; rfl) | (intro _ _ _; rfl))) pa_nil (by first | rfl | decide | exact Or.inl rfl | exact Or.inr rfl | (intro _; rfl) | (intro _ _; rfl) | (intro _ _ _; rfl))) (by first | rfl | decide | exact Or.inl rfl | exact Or.inr rfl | (intro _; rfl) | (intro _ _; rfl) | (intro _ _ _; rfl)))))) pss_nil) (@pss_cons _ _ _ _ _ (@ps_if _ _ _ _ _ _ _ _ (@pt_cmpR _ _ _ _ _ _ _ _ op_lt (pv 1) pe_int (by exact (nomark _))) (@pss_cons _ _ _ _ _ (@ps_set _ _ (5) _ _ _ _ (by exact S.nd) (by rfl) (by first | exact Or.inl rfl | exact Or.inr rfl) (@pe_tup _ _ _ _ _ (@pa_consN _ _ _ _ _ (@cc _ _ _ _ _ _ _ _ _ _ (by exact C_l_rule) (by exact (hr.mono (by decide))) (@pa_consN _ _ _ _ _ (@cc _ _ _ _ _ _ _ _ _ _ (by exact C_l_behind) (by exact (hr.mono (by decide))) (@pa_consN _ _ _ _ _ (pv 0) (@pa_consN _ _ _ _ _ (pv 3) pa_nil (by first | rfl | decide | exact Or.inl rfl | exact Or.inr rfl | (intro _; rfl) | (intro _ _; rfl) | (intro _ _ _; rfl))) (by first | rfl | decide | exact Or.inl rfl | exact Or.inr rfl | (intro _; rfl) | (intro _ _; rfl) | (intro _ _ _; rfl))) (by first | rfl | decide | exact Or.inl rfl | exact Or.inr rfl | (intro _; rfl) | (intro _ _; rfl) | (intro _ _ _; rfl)) (by first | rfl | decide | exact Or.inl rfl | exact Or.inr rfl | (intro _; rfl) | (intro _ _; rfl) | (intro _ _ _; rfl)) (by first | rfl | decide | exact Or.inl rfl | exact Or.inr rfl | (intro _; rfl) | (intro _ _; rfl) | (intro _ _ _; rfl)) (by first | rfl | decide | exact Or.inl rfl | exact Or.inr rfl | (intro _; rfl) | (intro _ _; rfl) | (intro _ _ _; rfl))) pa_nil (by first | rfl | decide | exact Or.inl rfl | exact Or.inr rfl | (intro _; rfl) | (intro _ _; rfl) | (intro _ _ _; rfl))) (by first | rfl | decide | exact Or.inl rfl | exact Or.inr rfl | (intro _; rfl) | (intro _ _; rfl) | (intro _ _ _; rfl)) (by first | rfl | decide | exact Or.inl rfl | exact Or.inr rfl | (intro _; rfl) | (intro _ _; rfl) | (intro _ _ _; rfl)) (by first | rfl | decide | exact Or.inl rfl | exact Or.inr rfl | (intro _; rfl) | (intro _ _; rfl) | (intro _ _ _; rfl)) (by first | rfl | decide | exact Or.inl rfl | exact Or.inr rfl | (intro _; rfl) | (intro _ _; rfl) | (intro _ _ _; rfl))) (@pa_consN _ _ _ _ _ (pv 4) pa_nil (by first | rfl | decide | exact Or.inl rfl | exact Or.inr rfl | (intro _; rfl) | (intro _ _; rfl) | (intro _ _ _; rfl))) (by first | rfl | decide | exact Or.inl rfl | exact Or.inr rfl | (intro _; rfl) | (intro _ _; rfl) | (intro _ _ _; rfl)))) (by first | rfl | decide | exact Or.inl rfl | exact Or.inr rfl | (intro _; rfl) | (intro _ _; rfl) | (intro _ _ _; rfl)) (by first | rfl | decide | exact Or.inl rfl | exact Or.inr rfl | (intro _; rfl) | (intro _ _; rfl) | (intro _ _ _; rfl))) (@pss_one _ _ _ (@ps_ret _ _ _ _ (@pe_ix _ _ _ _ _ _ _ ix_tup (@pe_tup _ _ _ _ _ (@pa_consN _ _ _ _ _ (pv 5) (@pa_consN _ _ _ _ _ (@pe_revT _ _ _ _ _ _ _ _ (pv 5)) pa_nil (by first | rfl | decide | exact Or.inl rfl | exact Or.inr rfl | (intro _; rfl) | (intro _ _; rfl) | (intro _ _ _; rfl))) (by first | rfl | decide | exact Or.inl rfl | exact Or.inr rfl | (intro _; rfl) | (intro _ _; rfl) | (intro _ _ _; rfl)))) (@pe_op _ _ _ _ _ _ _ _ op_sub (pv 1) pe_int) (by exact (fun _ _ => rfl)))))) pss_nil) (@pss_cons _ _ _ _ _ (@ps_if _ _ _ _ _ _ _ _ (@pt_cmpR _ _ _ _ _ _ _ _ op_eq (pv 1) pe_int (by exact (nomark _))) (@pss_one _ _ _ (@ps_ret _ _ _ _ (@pe_tup _ _ _ _ _ (@pa_consN _ _ _ _ _ (pv 4) (@pa_consN _ _ _ _ _ (pv 4) pa_nil (by first | rfl | decide | exact Or.inl rfl | exact Or.inr rfl | (intro _; rfl) | (intro _ _; rfl) | (intro _ _ _; rfl))) (by first | rfl | decide | exact Or.inl rfl | exact Or.inr rfl | (intro _; rfl) | (intro _ _; rfl) | (intro _ _ _; rfl)))))) pss_nil) (@pss_cons _ _ _ _ _ (@ps_if _ _ _ _ _ _ _ _ (@pt_cmpR _ _ _ _ _ _ _ _ op_eq (pv 1) pe_int (by exact (nomark _))) (@pss_one _ _ _ (@ps_ret _ _ _ _ (@pe_tup _ _ _ _ _ (@pa_consN _ _ _ _ _ (@cc _ _ _ _ _ _ _ _ _ _ (by exact C_drawn) (by exact (hr.mono (by decide))) (@pa_consN _ _ _ _ _ (pv 2) (@pa_consN _ _ _ _ _ (@pe_op _ _ _ _ _ _ _ _ op_add pe_int (@cc _ _ _ _ _ _ _ _ _ _ (by exact C_l_take) (by exact (hr.mono (by decide))) (@pa_consN _ _ _ _ _ (pv 0) (@pa_consN _ _ _ _ _ pe_int pa_nil (by first | rfl | decide | exact Or.inl rfl | exact Or.inr rfl | (intro _; rfl) | (intro _ _; rfl) | (intro _ _ _; rfl))) (by first | rfl | decide | exact Or.inl rfl | exact Or.inr rfl | (intro _; rfl) | (intro _ _; rfl) | (intro _ _ _; rfl))) (by first | rfl | decide | exact Or.inl rfl | exact Or.inr rfl | (intro _; rfl) | (intro _ _; rfl) | (intro _ _ _; rfl)) (by first | rfl | decide | exact Or.inl rfl | exact Or.inr rfl | (intro _; rfl) | (intro _ _; rfl) | (intro _ _ _; rfl)) (by first | rfl | decide | exact Or.inl rfl | exact Or.inr rfl | (intro _; rfl) | (intro _ _; rfl) | (intro _ _ _; rfl)) (by first | rfl | decide | exact Or.inl rfl | exact Or.inr rfl | (intro _; rfl) | (intro _ _; rfl) | (intro _ _ _; rfl)))) pa_nil (by first | rfl | decide | exact Or.inl rfl | exact Or.inr rfl | (intro _; rfl) | (intro _ _; rfl) | (intro _ _ _; rfl))) (by first | rfl | decide | exact Or.inl rfl | exact Or.inr rfl | (intro _; rfl) | (intro _ _; rfl) | (intro _ _ _; rfl))) (by first | rfl | decide | exact Or.inl rfl | exact Or.inr rfl | (intro _; rfl) | (intro _ _; rfl) | (intro _ _ _; rfl)) (by first | rfl | decide | exact Or.inl rfl | exact Or.inr rfl | (intro _; rfl) | (intro _ _; rfl) | (intro _ _ _; rfl)) (by first | rfl | decide | exact Or.inl rfl | exact Or.inr rfl | (intro _; rfl) | (intro _ _; rfl) | (intro _ _ _; rfl)) (by first | rfl | decide | exact Or.inl rfl | exact Or.inr rfl | (intro _; rfl) | (intro _ _; rfl) | (intro _ _ _; rfl))) (@pa_consN _ _ _ _ _ (@cc _ _ _ _ _ _ _ _ _ _ (by exact C_unlike) (by exact (hr.mono (by decide))) (@pa_consN _ _ _ _ _ (pv 2) (@pa_consN _ _ _ _ _ (@pe_op _ _ _ _ _ _ _ _ op_add pe_int (@cc _ _ _ _ _ _ _ _ _ _ (by exact C_l_take) (by exact (hr.mono (by decide))) (@pa_consN _ _ _ _ _ (pv 0) (@pa_consN _ _ _ _ _ (pv 2) pa_nil (by first | rfl | decide | exact Or.inl rfl | exact Or.inr rfl | (intro _; rfl) | (intro _ _; rfl) | (intro _ _ _; rfl))) (by first | rfl | decide | exact Or.inl rfl | exact Or.inr rfl | (intro _; rfl) | (intro _ _; rfl) | (intro _ _ _; rfl))) (by first | rfl | decide | exact Or.inl rfl | exact Or.inr rfl | (intro _; rfl) | (intro _ _; rfl) | (intro _ _ _; rfl)) (by first | rfl | decide | exact Or.inl rfl | exact Or.inr rfl | (intro _; rfl) | (intro _ _; rfl) | (intro _ _ _; rfl)) (by first | rfl | decide | exact Or.inl rfl | exact Or.inr rfl | (intro _; rfl) | (intro _ _; rfl) | (intro _ _ _; rfl)) (by first | rfl | decide | exact Or.inl rfl | exact Or.inr rfl | (intro _; rfl) | (intro _ _; rfl) | (intro _ _ _; rfl)))) pa_nil (by first | rfl | decide | exact Or.inl rfl | exact Or.inr rfl | (intro _; rfl) | (intro _ _; rfl) | (intro _ _ _; rfl))) (by first | rfl | decide | exact Or.inl rfl | exact Or.inr rfl | (intro _; rfl) | (intro _ _; rfl) | (intro _ _ _; rfl))) (by first | rfl | decide | exact Or.inl rfl | exact Or.inr rfl | (intro _; rfl) | (intro _ _; rfl) | (intro _ _ _; rfl)) (by first | rfl | decide | exact Or.inl rfl | exact Or.inr rfl | (intro _; rfl) | (intro _ _; rfl) | (intro _ _ _; rfl)) (by first | rfl | decide | exact Or.inl rfl | exact Or.inr rfl | (intro _; rfl) | (intro _ _; rfl) | (intro _ _ _; rfl)) (by first | rfl | decide | exact Or.inl rfl | exact Or.inr rfl | (intro _; rfl) | (intro _ _; rfl) | (intro _ _ _; rfl))) pa_nil (by first | rfl | decide | exact Or.inl rfl | exact Or.inr rfl | (intro _; rfl) | (intro _ _; rfl) | (intro _ _ _; rfl))) (by first | rfl | decide | exact Or.inl rfl | exact Or.inr rfl | (intro _; rfl) | (intro _ _; rfl) | (intro _ _ _; rfl)))))) pss_nil) (@pss_one _ _ _ (@ps_ret _ _ _ _ (@pe_tup _ _ _ _ _ (@pa_consN _ _ _ _ _ (@cc _ _ _ _ _ _ _ _ _ _ (by exact C_mixed) (by exact (hr.mono (by decide))) (@pa_consN _ _ _ _ _ (@cc _ _ _ _ _ _ _ _ _ _ (by exact C_l_share) (by exact (hr.mono (by decide))) (@pa_consN _ _ _ _ _ (@cc _ _ _ _ _ _ _ _ _ _ (by exact C_l_take) (by exact (hr.mono (by decide))) (@pa_consN _ _ _ _ _ (pv 0) (@pa_consN _ _ _ _ _ pe_int pa_nil (by first | rfl | decide | exact Or.inl rfl | exact Or.inr rfl | (intro _; rfl) | (intro _ _; rfl) | (intro _ _ _; rfl))) (by first | rfl | decide | exact Or.inl rfl | exact Or.inr rfl | (intro _; rfl) | (intro _ _; rfl) | (intro _ _ _; rfl))) (by first | rfl | decide | exact Or.inl rfl | exact Or.inr rfl | (intro _; rfl) | (intro _ _; rfl) | (intro _ _ _; rfl)) (by first | rfl | decide | exact Or.inl rfl | exact Or.inr rfl | (intro _; rfl) | (intro _ _; rfl) | (intro _ _ _; rfl)) (by first | rfl | decide | exact Or.inl rfl | exact Or.inr rfl | (intro _; rfl) | (intro _ _; rfl) | (intro _ _ _; rfl)) (by first | rfl | decide | exact Or.inl rfl | exact Or.inr rfl | (intro _; rfl) | (intro _ _; rfl) | (intro _ _ _; rfl))) (@pa_consN _ _ _ _ _ pe_int pa_nil (by first | rfl | decide | exact Or.inl rfl | exact Or.inr rfl | (intro _; rfl) | (intro _ _; rfl) | (intro _ _ _; rfl))) (by first | rfl | decide | exact Or.inl rfl | exact Or.inr rfl | (intro _; rfl) | (intro _ _; rfl) | (intro _ _ _; rfl))) (by first | rfl | decide | exact Or.inl rfl | exact Or.inr rfl | (intro _; rfl) | (intro _ _; rfl) | (intro _ _ _; rfl)) (by first | rfl | decide | exact Or.inl rfl | exact Or.inr rfl | (intro _; rfl) | (intro _ _; rfl) | (intro _ _ _; rfl)) (by first | rfl | decide | exact Or.inl rfl | exact Or.inr rfl | (intro _; rfl) | (intro _ _; rfl) | (intro _ _ _; rfl)) (by first | rfl | decide | exact Or.inl rfl | exact Or.inr rfl | (intro _; rfl) | (intro _ _; rfl) | (intro _ _ _; rfl))) (@pa_consN _ _ _ _ _ (pv 4) (@pa_consN _ _ _ _ _ (@cc _ _ _ _ _ _ _ _ _ _ (by exact C_drawn) (by exact (hr.mono (by decide))) (@pa_consN _ _ _ _ _ (pv 2) (@pa_consN _ _ _ _ _ pe_int pa_nil (by first | rfl | decide | exact Or.inl rfl | exact Or.inr rfl | (intro _; rfl) | (intro _ _; rfl) | (intro _ _ _; rfl))) (by first | rfl | decide | exact Or.inl rfl | exact Or.inr rfl | (intro _; rfl) | (intro _ _; rfl) | (intro _ _ _; rfl))) (by first | rfl | decide | exact Or.inl rfl | exact Or.inr rfl | (intro _; rfl) | (intro _ _; rfl) | (intro _ _ _; rfl)) (by first | rfl | decide | exact Or.inl rfl | exact Or.inr rfl | (intro _; rfl) | (intro _ _; rfl) | (intro _ _ _; rfl)) (by first | rfl | decide | exact Or.inl rfl | exact Or.inr rfl | (intro _; rfl) | (intro _ _; rfl) | (intro _ _ _; rfl)) (by first | rfl | decide | exact Or.inl rfl | exact Or.inr rfl | (intro _; rfl) | (intro _ _; rfl) | (intro _ _ _; rfl))) pa_nil (by first | rfl | decide | exact Or.inl rfl | exact Or.inr rfl | (intro _; rfl) | (intro _ _; rfl) | (intro _ _ _; rfl))) (by first | rfl | decide | exact Or.inl rfl | exact Or.inr rfl | (intro _; rfl) | (intro _ _; rfl) | (intro _ _ _; rfl))) (by first | rfl | decide | exact Or.inl rfl | exact Or.inr rfl | (intro _; rfl) | (intro _ _; rfl) | (intro _ _ _; rfl))) (by first | rfl | decide | exact Or.inl rfl | exact Or.inr rfl | (intro _; rfl) | (intro _ _; rfl) | (intro _ _ _; rfl)) (by first | rfl | decide | exact Or.inl rfl | exact Or.inr rfl | (intro _; rfl) | (intro _ _; rfl) | (intro _ _ _; rfl)) (by first | rfl | decide | exact Or.inl rfl | exact Or.inr rfl | (intro _; rfl) | (intro _ _; rfl) | (intro _ _ _; rfl)) (by first | rfl | decide | exact Or.inl rfl | exact Or.inr rfl | (intro _; rfl) | (intro _ _; rfl) | (intro _ _ _; rfl))) (@pa_consN _ _ _ _ _ (pv 4) pa_nil (by first | rfl | decide | exact Or.inl rfl | exact Or.inr rfl | (intro _; rfl) | (intro _ _; rfl) | (intro _ _ _; rfl))) (by first | rfl | decide | exact Or.inl rfl | exact Or.inr rfl | (intro _; rfl) | (intro _ _; rfl) | (intro _ _ _; rfl))))))))))))))), ?_⟩
  refine ⟨_, rfl, p, _, _, rfl, hp, by omega, by omega, by omega, fun way H1 w0 w1 p1 x1 => ?_⟩
  refine ⟨_, rfl, rfl, _, rfl, ?_⟩
  refine ite2 (fun c6 => ?_) (fun c6 => ?_)
  · exact ⟨_, rfl, p, _, rfl, p1, by omega, fun v qs rs H2 hv be p2 x2 => k v qs rs H2 hv be (p2.mono (by omega)) (x1.trans x2)⟩
  have w6 := tstN c6
  refine ⟨_, rfl, lz 2 rfl, fun t ht => ⟨_, rfl, p, _, _, rfl, p1.same (same_new ht _), by omega, by omega, by omega, fun d2 H2 d20 d21 p2 x2 => ?_⟩⟩
  have st := same_new ht (.tup [.int 6, .int 12])
  have ht2 := (p1.same st).keepT x2 upd_same
  obtain ⟨b, hb, b6, b12⟩ : ∃ b : Int, atI [V.int 6, .int 12] d2 = some (.int b) ∧ 6 ≤ b ∧ b ≤ 12 := by
    rcases (show d2 = 0 ∨ d2 = 1 by omega) with rfl | rfl
    · exact ⟨6, rfl, by decide, by decide⟩
    · exact ⟨12, rfl, by decide, by decide⟩
  refine ⟨t, _, _, _, rfl, rfl, SqT.of ht2, hb, p, _, _, rfl, p2, by omega, by omega, by omega, fun d3 H3 d30 d31 p3 x3 => ?_⟩
  have x13 : SameY p H H3 := ((x1.trans (Same.y st)).trans x2).trans x3
  refine ⟨_, _, rfl, rfl, ?_⟩
  obtain ⟨n, en⟩ : ∃ n : Nat, 1 + d3 = (n : Int) := ⟨(1 + d3).toNat, by omega⟩
  refine gN_eq (congrArg V.int en) ?_
  have n1 : 1 ≤ n := by omega
  have n12 : n ≤ 12 := by omega
  refine ⟨_, rfl, _, rfl, p, n, _, rfl, p3, by omega, by omega, by omega, fun l1 ws1 H4 W1 hl1 p4 x4 => ?_⟩
  refine ⟨_, rfl, l1, n, ws1, rfl, hl1, W1, by omega, fun v1 H5 s5 r1 => ?_⟩
  have f1 := rw_fineN W1
  have p5 := p4.same s5
  have x15 : SameY p H H5 := (x13.trans x4).trans (Same.y s5)
  have hl5 := s5 _ _ hl1
  have bes : ∀ {N : Nat} {qs rs : List Rat}, FineN N n qs → FineN N n rs → N ≤ 50 → Beside qs rs := fun {N qs rs} h g l => FineN.beside (N := 50) (h.mono l) (g.mono l) n1 n12 (by omega) (by decide) (by omega)
  refine ⟨_, rfl, rfl, _, rfl, ?_⟩
  refine ite2 (fun c0 => ?_) (fun c0 => ?_)
  · refine ⟨_, rfl, _, rfl, _, rfl, p, n, _, rfl, p5, by omega, by omega, by omega, fun l2 ws2 H6 W2 hl2 p6 x6 => ?_⟩
    refine ⟨l2, n, ws2, rfl, hl2, W2, by omega, fun v2 H7 s7 r2 => ?_⟩
    refine ⟨lz 2 rfl, fun u hu => ?_⟩
    have su := same_new hu (.tup [v1, v2])
    exact k _ _ _ _ ⟨u, v1, v2, rfl, upd_same, ((r1.keepZ p5 x6).same s7).same su, r2.same su⟩ (bes f1 (rw_fineN W2) (by decide)) (((p6.same s7).same su).mono (by omega)) ((x15.trans x6).trans (Same.y (s7.trans su)))
  refine ⟨_, rfl, _, _, rfl, rfl, _, rfl, ?_⟩
  refine ite2 (fun c3 => ?_) (fun c3 => ?_)
  · have w3 : way < 3 := of_decide_eq_true c3
    have wn0 := tstN c0
    refine ⟨_, rfl, _, rfl, p, l1, n, _, ws1, rfl, p5, by omega, hl5, W1, n1, n12, fun l2 ws2 H6 W2 hl2 p6 x6 => ?_⟩
    refine ⟨l2, n, ws2, rfl, hl2, W2, by omega, fun v2 H7 s7 r2 => ?_⟩
    refine ⟨_, rfl, lz 2 rfl, fun u hu => ?_⟩
    have su := same_new hu (.tup [v2, v1])
    have hu1 : (upd H7 u (.tup [v2, v1])) u = some (.tup [v2, v1]) := upd_same
    have r1u := ((r1.keepZ p5 x6).same s7).same su
    have r2u := r2.same su
    have pu := (p6.same s7).same su
    have xu : SameY p H (upd H7 u (.tup [v2, v1])) := (x15.trans x6).trans (Same.y (s7.trans su))
    generalize upd H7 u (.tup [v2, v1]) = H8 at hu1 r1u r2u pu xu
    have be := bes (rw_fineN W2) f1 (by decide)
    refine ⟨_, rfl, _, rfl, u, _, rfl, hu1, fun u2 hu2 => ?_⟩
    have s9 := same_new hu2 (.tup ([v2, v1].reverse))
    have hu22 : (upd H8 u2 (.tup ([v2, v1].reverse))) u2 = some (.tup [v1, v2]) := upd_same
    refine ⟨lz 2 rfl, fun t3 ht3 => ?_⟩
    have s10 := same_new ht3 (.tup [.ref u, .ref u2])
    refine ⟨_, rfl, _, _, rfl, rfl, ?_⟩
    have pz := (pu.same s9).same s10
    have xz := xu.trans (Same.y (s9.trans s10))
    rcases (show way = 1 ∨ way = 2 by omega) with rfl | rfl
    · exact ⟨t3, _, _, _, rfl, rfl, SqT.of upd_same, rfl, k _ _ _ _ ⟨u, v2, v1, rfl, s10 _ _ (s9 _ _ hu1), (r2u.same s9).same s10, (r1u.same s9).same s10⟩ be (pz.mono (by omega)) xz⟩
    · exact ⟨t3, _, _, _, rfl, rfl, SqT.of upd_same, rfl, k _ _ _ _ ⟨u2, v1, v2, rfl, s10 _ _ hu22, (r1u.same s9).same s10, (r2u.same s9).same s10⟩ be.symm (pz.mono (by omega)) xz⟩
  refine ⟨_, rfl, rfl, _, rfl, ?_⟩
  refine ite2 (fun c4 => ?_) (fun c4 => ?_)
  · refine ⟨_, rfl, _, rfl, lz 2 rfl, fun u hu => ?_⟩
    have su := same_new hu (.tup [v1, v1])
    exact k _ _ _ _ ⟨u, v1, v1, rfl, upd_same, r1.same su, r1.same su⟩ (bes f1 f1 (by decide)) ((p5.same su).mono (by omega)) (x15.trans (Same.y su))
  refine ⟨_, rfl, rfl, _, rfl, ?_⟩
  refine ite2 (fun c5 => ?_) (fun c5 => ?_)
  · refine ⟨_, rfl, _, rfl, p, _, _, rfl, p5, by omega, by omega, by omega, fun d6 H6 d60 d61 p6 x6 => ⟨_, _, rfl, rfl, ?_⟩⟩
    obtain ⟨q6, e6, f6, _⟩ := drawn_fineN (n := n) (k := 1 + d6) ⟨by omega, by omega, by omega, by omega⟩
    refine ⟨_, _, rfl, ⟨by omega, by omega, by omega, by omega⟩, fun t6 ys6 H7 s7 ht6 hy6 => ?_⟩
    rw [e6] at hy6
    rw [Int.toNat_natCast] at f6
    have r6 : RuAt H7 (.ref t6) q6 := ⟨t6, ys6, rfl, ht6, shs_of hy6⟩
    have p7 := p6.same s7
    refine ⟨_, rfl, _, rfl, _, rfl, p, _, _, rfl, p7, by omega, by omega, by omega, fun d8 H8 d80 d81 p8 x8 => ⟨_, _, rfl, rfl, ?_⟩⟩
    obtain ⟨q8, e8, f8⟩ := unlike_fineN (n := n) (k := 1 + d8) ⟨by omega, by omega, by omega, by omega⟩
    refine ⟨_, _, rfl, ⟨by omega, by omega, by omega, by omega⟩, fun t8 ys8 H9 s9 ht8 hy8 => ?_⟩
    rw [e8] at hy8
    rw [Int.toNat_natCast] at f8
    have r8 : RuAt H9 (.ref t8) q8 := ⟨t8, ys8, rfl, ht8, shs_of hy8⟩
    refine ⟨lz 2 rfl, fun u hu => ?_⟩
    have su := same_new hu (.tup [.ref t6, .ref t8])
    exact k _ _ _ _ ⟨u, .ref t6, .ref t8, rfl, upd_same, ((r6.keepZ p7 x8).same s9).same su, r8.same su⟩ (bes f6 (f8.mono (by decide)) (by decide)) (((p8.same s9).same su).mono (by omega)) (((x15.trans x6).trans (Same.y s7)).trans (x8.trans (Same.y (s9.trans su))))
  · refine ⟨_, rfl, p, _, _, rfl, p5, by omega, by omega, by omega, fun d6 H6 d60 d61 p6 x6 => ?_⟩
    obtain ⟨bq, q0, q1⟩ := div7 d60 (by omega)
    refine ⟨d6, 7, rfl, d60, by decide, by decide, fun vq H7 s7 hq => ?_⟩
    obtain ⟨q6, e6, f6, _⟩ := drawn_fineN (n := n) (k := 2) ⟨by omega, by omega, by omega, by omega⟩
    refine ⟨_, rfl, _, rfl, _, _, rfl, ⟨by omega, by omega, by omega, by omega⟩, fun t6 ys6 H8 s8 ht6 hy6 => ?_⟩
    rw [e6] at hy6
    rw [Int.toNat_natCast] at f6
    have r6 : RuAt H8 (.ref t6) q6 := ⟨t6, ys6, rfl, ht6, shs_of hy6⟩
    have r18 := (r1.keepZ p5 x6).same (s7.trans s8)
    have fa := f1.mono (show 10 ≤ 1000 by decide)
    have fb := f6.mono (show 15 ≤ 1000 by decide)
    refine ⟨vq, v1, .ref t6, Rat.divInt d6 7, rwF ws1, q6, rfl, hq.same s8, r18, r6, bq.mono (by decide), fun x hx => (fa.2 x hx).2, fun x hx => (fb.2 x hx).2, by rw [f1.1]; omega, by rw [f1.1, f6.1], fun v' H9 s9 rm => ?_⟩
    refine ⟨_, rfl, lz 2 rfl, fun u hu => ?_⟩
    have su := same_new hu (.tup [v', v1])
    exact k _ _ _ _ ⟨u, v', v1, rfl, upd_same, rm.same su, (r18.same s9).same su⟩ (bes (f1.mix f6 bq q0 q1) (f1.mono (by omega)) (by decide)) (((p6.same (s7.trans (s8.trans s9))).same su).mono (by omega)) ((x15.trans x6).trans (Same.y ((s7.trans (s8.trans s9)).trans su)))
end
end My

set_option Elab.async false
set_option linter.all false
set_option maxRecDepth 100000
set_option maxHeartbeats 4000000
namespace My
open PySem L2 MA
theorem fa_le {qs rs : List Rat} {k : Nat} (h : faF qs rs = some k) : k ≤ qs.length := by
  unfold faF at h
  obtain ⟨j, e, rfl⟩ := Option.map_eq_some_iff.mp h
  have := List.mem_range.mp (List.mem_of_find?_eq_some e)
  omega
def dOpt : Option Nat → PyData
  | none => .none
  | some k => .int (k : Int)
theorem dOpt_at (H : Hp) : ∀ o, DataV H (optV o) (dOpt o)
  | none => .non
  | some k => .int _
theorem dOpt_good {o : Option Nat} (h : ∀ k, o = some k → k ≤ 12) : Good (dOpt o) := by
  cases o with
  | none => exact (sm_none 1).good (by decide) (by decide)
  | some k =>
    have := h k rfl
    exact (sm_int (i := (k : Int)) (show Int.natAbs _ < _ by omega) 1).good (by decide) (show 0 ≤ 20 by decide)
def dPart (n k : Nat) : PyData := .tuple [.tuple ((evF n).map PyData.int), .int (k : Int)]
theorem dPart_good {n k : Nat} (hn : n ≤ 12) (hk : k ≤ 12) : Good (dPart n k) := by
  have h1 : ∀ x ∈ evF n, I36 x := fun x hx => by
    obtain ⟨i, hi, rfl⟩ := List.mem_map.mp hx
    have := List.mem_range.mp hi
    show Int.natAbs _ < _
    omega
  have hl : (evF n).length = n := by simp [evF]
  have t : Sm 200 (dPart n k) := sm_tup (n := 90) (by simpa using ⟨sm_ints h1 (by decide) (by omega), sm_int (i := (k : Int)) (show Int.natAbs _ < _ by omega) 90⟩) (by simp [PyData.hasDictAll, PyData.hasDict, noDict_ints, -List.map_map]) (by decide) (show 2 * (90 + 1) ≤ 200 by decide)
  refine t.good (by decide) ?_
  show PyData.depth (.tuple [.tuple ((evF n).map PyData.int), .int (k : Int)]) ≤ 20
  simp [PyData.depth, PyData.depthAll, depth_ints, -List.map_map]
theorem q_same {Q : VK} {H : Hp} {x : V} (h : Q (.bl true) H) : Q (.bl (decide (x = x))) H := by rw [decide_eq_true rfl]; exact h
section
variable {P : Program} {w : World} {K : PySem.W.Frag} {mg : Str → Option Value} {base : Heap}
def spFullAt0 : Sp := fun vs H Q _ => ∃ a b qs rs B, vs = [a, b] ∧ RuAt H a qs ∧ RuAt H b rs ∧ qs.length = rs.length ∧ Okr B qs ∧ Okr B rs ∧ ∀ H', Same H H' → Q (optV (faF qs rs)) H'
theorem full1_0 {c2 : Addr} : ∀ vs H Q E, spFullAt0 vs H Q E → spFullAt1 c2 vs H Q E0 := fun vs H Q E ⟨a, b, qs, rs, B, h1, ⟨a', xs, e1, h2, h3⟩, ⟨b', ys, e2, h4, h5⟩, h6, h7, h8, h9⟩ => by
  subst e1 e2
  exact ⟨a', b', xs, ys, qs, rs, h1, h2, h4, h3, h5, fun z => absurd h6 z, fun _ => ⟨B, h7, h8, h9⟩⟩
def spParting0 : Sp := fun vs H Q _ => ∃ a b qs rs B, vs = [a, b] ∧ RuAt H a qs ∧ RuAt H b rs ∧ qs.length = rs.length ∧ Okr B qs ∧ Okr B rs ∧ ∀ v H', Same H H' → PartAt H' v qs.length (faF qs rs) → Q v H'
theorem part1_0 {c2 : Addr} : ∀ vs H Q E, spParting0 vs H Q E → spParting1 c2 vs H Q E0 := fun vs H Q E ⟨a, b, qs, rs, B, h1, ⟨a', xs, e1, h2, h3⟩, ⟨b', ys, e2, h4, h5⟩, h6, h7, h8, h9⟩ => by
  subst e1 e2
  exact ⟨a', b', xs, ys, qs, rs, h1, h2, h4, h3, h5, fun z => absurd h6 z, fun _ => ⟨B, h7, h8, h9⟩⟩
def spRight : Sp := fun vs H Q _ => ∃ a b qs rs, vs = [a, b] ∧ RuAt H a qs ∧ RuAt H b rs ∧ Beside qs rs ∧ ∀ H', Same H H' → Q (.bl true) H'
theorem ok_right (T : Txt2 mg) (C_l_due : Cal P w K mg base "_law_due" ["_law_one", "_law_other"] 3 spDueB) (C_fuller_at : Cal P w K mg base "fuller_at" ["one", "other"] 4 spFullAt0) (C_parting : Cal P w K mg base "parting" ["one", "other"] 5 spParting0)
    (F : FunAt K mg "_law_right" ["_law_one", "_law_other"] s_l_right) : Cal P w K mg base "_law_right" ["_law_one", "_law_other"] 6 spRight := by
  have S := sc_l_right
  refine F.cal sc_l_right (fun vs H Q E h => ?_) (fun f cdv A outer s H vs Q E hr h => ?_)
  · obtain ⟨a, b, qs, rs, rfl, _⟩ := h; rfl
  obtain ⟨a, b, qs, rs, rfl, ra, rb, ⟨len, l1, B, oq, orr⟩, k⟩ := h
  have l12 := oq.2.1
  obtain ⟨a', xs, rfl, ha, hxs⟩ := id ra
  obtain ⟨b', ys, rfl, hb, hys⟩ := id rb
  have lx := hxs.length
  refine ⟨_, (@pss_cons _ _ _ _ _ (@ps_set _ _ (2) _ _ _ _ (by exact S.nd) (by rfl) (by first | exact Or.inl rfl | exact Or.inr rfl) (@cc _ _ _ _ _ _ _ _ _ _ (by exact C_l_due) (by exact (hr.mono (by decide))) (@pa_consN _ _ _ _ _ (pv 0) (@pa_consN _ _ _ _ _ (pv 1) pa_nil (by first | rfl | decide | exact Or.inl rfl | exact Or.inr rfl | (intro _; rfl) | (intro _ _; rfl) | (intro _ _ _; rfl))) (by first | rfl | decide | exact Or.inl rfl | exact Or.inr rfl | (intro _; rfl) | (intro _ _; rfl) | (intro _ _ _; rfl))) (by first | rfl | decide | exact Or.inl rfl | exact Or.inr rfl | (intro _; rfl) | (intro _ _; rfl) | (intro _ _ _; rfl)) (by first | rfl | decide | exact Or.inl rfl | exact Or.inr rfl | (intro _; rfl) | (intro _ _; rfl) | (intro _ _ _; rfl)) (by first | rfl | decide | exact Or.inl rfl | exact Or.inr rfl | (intro _; rfl) | (intro _ _; rfl) | (intro _ _ _; rfl)) (by first | rfl | decide | exact Or.inl rfl | exact Or.inr rfl | (intro _; rfl) | (intro _ _; rfl) | (intro _ _ _; rfl))) (by first | rfl | decide | exact Or.inl rfl | exact Or.inr rfl | (intro _; rfl) | (intro _ _; rfl) | (intro _ _ _; rfl)) (by first | rfl | decide | exact Or.inl rfl | exact Or.inr rfl | (intro _; rfl) | (intro _ _; rfl) | (intro _ _ _; rfl))) (@pss_cons _ _ _ _ _ (@ps_if _ _ _ _ _ _ _ _ (@pt_cmpR _ _ _ _ _ _ _ _ op_ne (@pe_callB _ _ _ _ _ _ _ _ _ (call_repr hr) (by rfl) (by exact T.z_repr) (by exact bt_repr) (@pa_consN _ _ _ _ _ (@cc _ _ _ _ _ _ _ _ _ _ (by exact C_fuller_at) (by exact (hr.mono (by decide))) (@pa_consN _ _ _ _ _ (pv 0) (@pa_consN _ _ _ _ _ (pv 1) pa_nil (by first | rfl | decide | exact Or.inl rfl | exact Or.inr rfl | (intro _; rfl) | (intro _ _; rfl) | (intro _ _ _; rfl))) (by first | rfl | decide | exact Or.inl rfl | exact Or.inr rfl | (intro _; rfl) | (intro _ _; rfl) | (intro _ _ _; rfl))) (by first | rfl | decide | exact Or.inl rfl | exact Or.inr rfl | (intro _; rfl) | (intro _ _; rfl) | (intro _ _ _; rfl)) (by first | rfl | decide | exact Or.inl rfl | exact Or.inr rfl | (intro _; rfl) | (intro _ _; rfl) | (intro _ _ _; rfl)) (by first | rfl | decide | exact Or.inl rfl | exact Or.inr rfl | (intro _; rfl) | (intro _ _; rfl) | (intro _ _ _; rfl)) (by first | rfl | decide | exact Or.inl rfl | exact Or.inr rfl | (intro _; rfl) | (intro _ _; rfl) | (intro _ _ _; rfl))) pa_nil (by first | rfl | decide | exact Or.inl rfl | exact Or.inr rfl | (intro _; rfl) | (intro _ _; rfl) | (intro _ _ _; rfl))) (by first | rfl | decide | exact Or.inl rfl | exact Or.inr rfl | (intro _; rfl) | (intro _ _; rfl) | (intro _ _ _; rfl)) (by first | rfl | decide | exact Or.inl rfl | exact Or.inr rfl | (intro _; rfl) | (intro _ _; rfl) | (intro _ _ _; rfl)) (by first | rfl | decide | exact Or.inl rfl | exact Or.inr rfl | (intro _; rfl) | (intro _ _; rfl) | (intro _ _ _; rfl)) (by first | rfl | decide | exact Or.inl rfl | exact Or.inr rfl | (intro _; rfl) | (intro _ _; rfl) | (intro _ _ _; rfl))) (@pe_callB _ _ _ _ _ _ _ _ _ (call_repr hr) (by rfl) (by exact T.z_repr) (by exact bt_repr) (@pa_consN _ _ _ _ _ (pv 2) pa_nil (by first | rfl | decide | exact Or.inl rfl | exact Or.inr rfl | (intro _; rfl) | (intro _ _; rfl) | (intro _ _ _; rfl))) (by first | rfl | decide | exact Or.inl rfl | exact Or.inr rfl | (intro _; rfl) | (intro _ _; rfl) | (intro _ _ _; rfl)) (by first | rfl | decide | exact Or.inl rfl | exact Or.inr rfl | (intro _; rfl) | (intro _ _; rfl) | (intro _ _ _; rfl)) (by first | rfl | decide | exact Or.inl rfl | exact Or.inr rfl | (intro _; rfl) | (intro _ _; rfl) | (intro _ _ _; rfl)) (by first | rfl | decide | exact Or.inl rfl | exact Or.inr rfl | (intro _; rfl) | (intro _ _; rfl) | (intro _ _ _; rfl))) (by exact (nomark _))) (@pss_one _ _ _ (@ps_ret _ _ _ _ pe_bl)) pss_nil) (@pss_cons _ _ _ _ _ (@ps_if _ _ _ _ _ _ _ _ (@pt_cmpR _ _ _ _ _ _ _ _ op_gt (@pe_callB _ _ _ _ _ _ _ _ _ call_len_seq (by rfl) (by exact T.z_len) (by exact bt_len) (@pa_consN _ _ _ _ _ (pv 0) pa_nil (by first | rfl | decide | exact Or.inl rfl | exact Or.inr rfl | (intro _; rfl) | (intro _ _; rfl) | (intro _ _ _; rfl))) (by first | rfl | decide | exact Or.inl rfl | exact Or.inr rfl | (intro _; rfl) | (intro _ _; rfl) | (intro _ _ _; rfl)) (by first | rfl | decide | exact Or.inl rfl | exact Or.inr rfl | (intro _; rfl) | (intro _ _; rfl) | (intro _ _ _; rfl)) (by first | rfl | decide | exact Or.inl rfl | exact Or.inr rfl | (intro _; rfl) | (intro _ _; rfl) | (intro _ _ _; rfl)) (by first | rfl | decide | exact Or.inl rfl | exact Or.inr rfl | (intro _; rfl) | (intro _ _; rfl) | (intro _ _ _; rfl))) pe_int (by exact (nomark _))) (@pss_one _ _ _ (@ps_ret _ _ _ _ pe_bl)) pss_nil) (@pss_cons _ _ _ _ _ (@ps_if _ _ _ _ _ _ _ _ (@pt_cmpR _ _ _ _ _ _ _ _ op_isN (pv 2) pe_non (by exact (nomark _))) (@pss_one _ _ _ (@ps_ret _ _ _ _ (@pe_cmpR _ _ _ _ _ _ _ _ op_isN (@cc _ _ _ _ _ _ _ _ _ _ (by exact C_parting) (by exact (hr.mono (by decide))) (@pa_consN _ _ _ _ _ (pv 0) (@pa_consN _ _ _ _ _ (pv 1) pa_nil (by first | rfl | decide | exact Or.inl rfl | exact Or.inr rfl | (intro _; rfl) | (intro _ _; rfl) | (intro _ _ _; rfl))) (by first | rfl | decide | exact Or.inl rfl | exact Or.inr rfl | (intro _; rfl) | (intro _ _; rfl) | (intro _ _ _; rfl))) (by first | rfl | decide | exact Or.inl rfl | exact Or.inr rfl | (intro _; rfl) | (intro _ _; rfl) | (intro _ _ _; rfl)) (by first | rfl | decide | exact Or.inl rfl | exact Or.inr rfl | (intro _; rfl) | (intro _ _; rfl) | (intro _ _ _; rfl)) (by first | rfl | decide | exact Or.inl rfl | exact Or.inr rfl | (intro _; rfl) | (intro _ _; rfl) | (intro _ _ _; rfl)) (by first | rfl | decide | exact Or.inl rfl | exact Or.inr rfl | (intro _; rfl) | (intro _ _; rfl) | (intro _ _ _; rfl))) pe_non (by exact (nomark _))))) pss_nil) (@pss_one _ _ _ (@ps_ret _ _ _ _ (@pe_cmpR _ _ _ _ _ _ _ _ op_eq (@pe_callB _ _ _ _ _ _ _ _ _ (call_repr hr) (by rfl) (by exact T.z_repr) (by exact bt_repr) (@pa_consN _ _ _ _ _ (@cc _ _ _ _ _ _ _ _ _ _ (by exact C_parting) (by exact (hr.mono (by decide))) (@pa_consN _ _ _ _ _ (pv 0) (@pa_consN _ _ _ _ _ (pv 1) pa_nil (by first | rfl | decide | exact Or.inl rfl | exact Or.inr rfl | (intro _; rfl) | (intro _ _; rfl) | (intro _ _ _; rfl))) (by first | rfl | decide | exact Or.inl rfl | exact Or.inr rfl | (intro _; rfl) | (intro _ _; rfl) | (intro _ _ _; rfl))) (by first | rfl | decide | exact Or.inl rfl | exact Or.inr rfl | (intro _; rfl) | (intro _ _; rfl) | (intro _ _ _; rfl)) (by first | rfl | decide | exact Or.inl rfl | exact Or.inr rfl | (intro _; rfl) | (intro _ _; rfl) | (intro _ _ _; rfl)) (by first | rfl | decide | exact Or.inl rfl | exact Or.inr rfl | (intro _; rfl) | (intro _ _; rfl) | (intro _ _ _; rfl)) (by first | rfl | decide | exact Or.inl rfl | exact Or.inr rfl | (intro _; rfl) | (intro _ _; rfl) | (intro _ _ _; rfl))) pa_nil (by first | rfl | decide | exact Or.inl rfl | exact Or.inr rfl | (intro _; rfl) | (intro _ _; rfl) | (intro _ _ _; rfl))) (by first | rfl | decide | exact Or.inl rfl | exact Or.inr rfl | (intro _; rfl) | (intro _ _; rfl) | (intro _ _ _; rfl)) (by first | rfl | decide | exact Or.inl rfl | exact Or.inr rfl | (intro _; rfl) | (intro _ _; rfl) | (intro _ _ _; rfl)) (by first | rfl | decide | exact Or.inl rfl | exact Or.inr rfl | (intro _; rfl) | (intro _ _; rfl) | (intro _ _ _; rfl)) (by first | rfl | decide | exact Or.inl rfl | exact Or.inr rfl | (intro _; rfl) | (intro _ _; rfl) | (intro _ _ _; rfl))) (@pe_callB _ _ _ _ _ _ _ _ _ (call_repr hr) (by rfl) (by exact T.z_repr) (by exact bt_repr) (@pa_consN _ _ _ _ _ (@pe_tup _ _ _ _ _ (@pa_consN _ _ _ _ _ (@pe_callTy _ _ _ _ _ _ _ _ _ call_tuple_of (by rfl) (by exact T.z_tuple) (by exact bt_tuple) (@pa_consN _ _ _ _ _ (@pe_revL _ _ _ _ _ _ _ _ (@pe_comp0 _ _ _ _ _ _ _ _ _ _ _ (["_law_k"]) (fun _ => [none]) (by rfl) (by exact (fun _ _ h => h)) (by decide +kernel) (by rfl) (by decide +kernel) (by decide +kernel) (by exact Sees.none1) (@pi_range1 _ _ _ _ _ _ (by rfl) (by exact T.z_range) (@pa_consN _ _ _ _ _ (@pe_callB _ _ _ _ _ _ _ _ _ call_len_seq (by rfl) (by exact T.z_len) (by exact bt_len) (@pa_consN _ _ _ _ _ (pv 0) pa_nil (by first | rfl | decide | exact Or.inl rfl | exact Or.inr rfl | (intro _; rfl) | (intro _ _; rfl) | (intro _ _ _; rfl))) (by first | rfl | decide | exact Or.inl rfl | exact Or.inr rfl | (intro _; rfl) | (intro _ _; rfl) | (intro _ _ _; rfl)) (by first | rfl | decide | exact Or.inl rfl | exact Or.inr rfl | (intro _; rfl) | (intro _ _; rfl) | (intro _ _ _; rfl)) (by first | rfl | decide | exact Or.inl rfl | exact Or.inr rfl | (intro _; rfl) | (intro _ _; rfl) | (intro _ _ _; rfl)) (by first | rfl | decide | exact Or.inl rfl | exact Or.inr rfl | (intro _; rfl) | (intro _ _; rfl) | (intro _ _ _; rfl))) pa_nil (by first | rfl | decide | exact Or.inl rfl | exact Or.inr rfl | (intro _; rfl) | (intro _ _; rfl) | (intro _ _ _; rfl))) (by first | rfl | decide | exact Or.inl rfl | exact Or.inr rfl | (intro _; rfl) | (intro _ _; rfl) | (intro _ _ _; rfl))) (fun _ _ _ _ _ => @pg_name _ _ (0) _ (by exact (show (["_law_k"] : List Str).Nodup by decide +kernel)) (by rfl) (by first | exact Or.inl rfl | exact Or.inr rfl) (by first | rfl | decide | exact Or.inl rfl | exact Or.inr rfl | (intro _; rfl) | (intro _ _; rfl) | (intro _ _ _; rfl))) (fun _ _ _ _ _ => pts_nil) (fun _ _ _ _ _ => (@pe_op _ _ _ _ _ _ _ _ op_mul pe_int (pv 0))) (by first | rfl | decide | exact Or.inl rfl | exact Or.inr rfl | (intro _; rfl) | (intro _ _; rfl) | (intro _ _ _; rfl)))) pa_nil (by first | rfl | decide | exact Or.inl rfl | exact Or.inr rfl | (intro _; rfl) | (intro _ _; rfl) | (intro _ _ _; rfl))) (by first | rfl | decide | exact Or.inl rfl | exact Or.inr rfl | (intro _; rfl) | (intro _ _; rfl) | (intro _ _ _; rfl)) (by first | rfl | decide | exact Or.inl rfl | exact Or.inr rfl | (intro _; rfl) | (intro _ _; rfl) | (intro _ _ _; rfl)) (by first | rfl | decide | exact Or.inl rfl | exact Or.inr rfl | (intro _; rfl) | (intro _ _; rfl) | (intro _ _ _; rfl)) (by first | rfl | decide | exact Or.inl rfl | exact Or.inr rfl | (intro _; rfl) | (intro _ _; rfl) | (intro _ _ _; rfl))) (@pa_consN _ _ _ _ _ (pv 2) pa_nil (by first | rfl | decide | exact Or.inl rfl | exact Or.inr rfl | (intro _; rfl) | (intro _ _; rfl) | (intro _ _ _; rfl))) (by first | rfl | decide | exact Or.inl rfl | exact Or.inr rfl | (intro _; rfl) | (intro _ _; rfl) | (intro _ _ _; rfl)))) pa_nil (by first | rfl | decide | exact Or.inl rfl | exact Or.inr rfl | (intro _; rfl) | (intro _ _; rfl) | (intro _ _ _; rfl))) (by first | rfl | decide | exact Or.inl rfl | exact Or.inr rfl | (intro _; rfl) | (intro _ _; rfl) | (intro _ _ _; rfl)) (by first | rfl | decide | exact Or.inl rfl | exact Or.inr rfl | (intro _; rfl) | (intro _ _; rfl) | (intro _ _ _; rfl)) (by first | rfl | decide | exact Or.inl rfl | exact Or.inr rfl | (intro _; rfl) | (intro _ _; rfl) | (intro _ _ _; rfl)) (by first | rfl | decide | exact Or.inl rfl | exact Or.inr rfl | (intro _; rfl) | (intro _ _; rfl) | (intro _ _ _; rfl))) (by exact (nomark _))))))))), ?_⟩
  refine ⟨_, rfl, _, rfl, a', b', xs, ys, qs, rs, B, rfl, ha, hb, hxs, hys, len, oq, orr, fun H1 s1 => ?_⟩
  have gk : Good (dOpt (faF qs rs)) := dOpt_good fun k e => Nat.le_trans (fa_le e) l12
  obtain ⟨dk, ek⟩ : ∃ dk, dOpt (faF qs rs) = dk := ⟨_, rfl⟩
  have dat : ∀ H', DataV H' (optV (faF qs rs)) dk := fun H' => by rw [← ek]; exact dOpt_at H' _
  rw [ek] at gk
  refine ⟨_, rfl, _, rfl, _, _, qs, rs, B, rfl, ra.same s1, rb.same s1, len, oq, orr, fun H2 s2 => ?_⟩
  have s12 := s1.trans s2
  refine ⟨_, _, rfl, dat _, gk.sh, gk.ld, gk.dp, gk.ln, _, rfl, _, _, rfl, dat _, gk.sh, gk.ld, gk.dp, gk.ln, rfl, _, rfl, iteNS rfl ?_⟩
  refine ⟨_, rfl, a', _, rfl, .inr (SqT.of (s12 _ _ ha)), _, _, rfl, rfl, _, rfl, ?_⟩
  refine ite2 (fun _ => k _ s12) (fun _ => ?_)
  cases ef : faF qs rs with
  | none =>
    rw [ef] at dat
    refine ⟨_, rfl, rfl, _, rfl, iteT ?_⟩
    refine ⟨_, rfl, _, rfl, _, _, qs, rs, B, rfl, ra.same s12, rb.same s12, len, oq, orr, fun v H3 s3 pt => ?_⟩
    rw [ef] at pt
    obtain rfl : v = .non := pt
    exact ⟨rfl, k _ (s12.trans s3)⟩
  | some n =>
    refine ⟨_, rfl, rfl, _, rfl, iteF ?_⟩
    have n12 := fa_le ef
    refine ⟨_, rfl, _, rfl, _, _, qs, rs, B, rfl, ra.same s12, rb.same s12, len, oq, orr, fun v H3 s3 pt => ?_⟩
    rw [ef] at pt
    obtain ⟨p, t, rfl, hp, ht⟩ := pt
    have gp : Good (dPart qs.length n) := dPart_good l12 (by omega)
    have dp : ∀ {H' : Hp} {p t : Addr}, H' p = some (.tup [.ref t, .int (n : Int)]) → H' t = some (.tup (iv (evF qs.length))) → DataV H' (.ref p) (dPart qs.length n) := fun {H' p t} h1 h2 => .tup h1 (.cons (.tup h2 (data_ints _ _)) (.cons (.int _) .nil))
    obtain ⟨dd, ed⟩ : ∃ dd, dPart qs.length n = dd := ⟨_, rfl⟩
    rw [ed] at gp dp
    have s13 := s12.trans s3
    refine ⟨_, _, rfl, dp hp ht, gp.sh, gp.ld, gp.dp, gp.ln, ?_⟩
    refine ⟨_, rfl, a', _, rfl, .inr (SqT.of (s13 _ _ ha)), _, rfl, by omega, by omega, comp_rng (n := ((xs.length : Nat) : Int).toNat) (lo := 0) (fs := []) (fun acc i ys H' => Same H3 H' ∧ ys = iv ((List.range i).map fun (j : Nat) => 2 * (0 + (j : Int)))) (by omega) ?_ ?_ ?_⟩
    · intro acc hacc
      exact ⟨same_new hacc _, rfl⟩
    · rintro acc i ys H' hacc hi hl ⟨s', rfl⟩ hH' Q' hQ
      refine ⟨_, rfl, _, _, rfl, rfl, .inl ⟨by omega, by omega⟩, ?_⟩
      refine hQ _ H' hH' ⟨same_upd s' hacc, ?_⟩
      rw [map_range_succ]
      simp [iv]
    · rintro acc ys H' hacc ⟨s', rfl⟩ hH' hl
      have er : (iv ((List.range ((xs.length : Nat) : Int).toNat).map fun (j : Nat) => 2 * (0 + (j : Int)))).reverse = iv (evF qs.length) := by
        rw [Int.toNat_natCast, lx, ev_rev, ← List.map_reverse]
      refine ⟨acc, _, rfl, SqL.of hH', fun l2 hl2 => ?_⟩
      rw [er]
      have t2s := same_new hl2 (.lst (iv (evF qs.length)))
      refine ⟨l2, _, rfl, .inl ⟨SqL.of upd_same, fun t2 ht2 => ?_⟩⟩
      have t3s := same_new ht2 (.tup (iv (evF qs.length)))
      have e2 : (upd (upd H' l2 (.lst (iv (evF qs.length)))) t2 (.tup (iv (evF qs.length)))) t2 = some (.tup (iv (evF qs.length))) := upd_same
      refine ⟨_, rfl, lz 2 rfl, fun p2 hp2 => ?_⟩
      have t4s := same_new hp2 (.tup [.ref t2, .int (n : Int)])
      refine ⟨_, _, rfl, dp upd_same (t4s _ _ e2), gp.sh, gp.ld, gp.dp, gp.ln, rfl, ?_⟩
      have := k _ ((s13.trans s').trans (t2s.trans (t3s.trans t4s)))
      exact q_same this
end
end My

set_option Elab.async false
set_option linter.all false
set_option maxRecDepth 100000
set_option maxHeartbeats 4000000
namespace My
open PySem L2 MA
theorem RuAt.updL {H : Hp} {l : Addr} {zs : List V} {o : HO} {v : V} {qs : List Rat} (hl : H l = some (.lst zs)) (h : RuAt H v qs) : RuAt (upd H l o) v qs := let ⟨a, xs, e, h1, h2⟩ := h; ⟨a, xs, e, by rw [upd_ne (ne_of h1 hl (by intro z; cases z))]; exact h1, h2.updL hl⟩
theorem PairAt.updL {H : Hp} {l : Addr} {zs : List V} {o : HO} {v : V} {qs rs : List Rat} (hl : H l = some (.lst zs)) (h : PairAt H v qs rs) : PairAt (upd H l o) v qs rs := let ⟨t, a, b, e, h1, h2, h3⟩ := h; ⟨t, a, b, e, by rw [upd_ne (ne_of h1 hl (by intro z; cases z))]; exact h1, h2.updL hl, h3.updL hl⟩
theorem PairAt.same {H H' : Hp} {v : V} {qs rs : List Rat} (h : PairAt H v qs rs) (s : Same H H') : PairAt H' v qs rs := let ⟨t, a, b, e, h1, h2, h3⟩ := h; ⟨t, a, b, e, s _ _ h1, h2.same s, h3.same s⟩
theorem PairAt.keepZ {K : PySem.W.Frag} {H H' : Hp} {p : Addr} {n : Nat} {v : V} {qs rs : List Rat} (hp : PenZ K H p n) (x : SameY p H H') (h : PairAt H v qs rs) : PairAt H' v qs rs := let ⟨t, a, b, e, h1, h2, h3⟩ := h; ⟨t, a, b, e, hp.keepT x h1, h2.keepZ hp x, h3.keepZ hp x⟩
/-- pairs of rules held beside -/
def PairsAt (H : Hp) (xs : List V) : Prop := ∀ x ∈ xs, ∃ qs rs, PairAt H x qs rs ∧ Beside qs rs
theorem PairsAt.same {H H' : Hp} {xs : List V} (h : PairsAt H xs) (s : Same H H') : PairsAt H' xs := fun x hx => let ⟨qs, rs, a, b⟩ := h x hx; ⟨qs, rs, a.same s, b⟩
theorem PairsAt.snoc {H : Hp} {xs : List V} {v : V} {qs rs : List Rat} (h : PairsAt H xs) (a : PairAt H v qs rs) (b : Beside qs rs) : PairsAt H (xs ++ [v]) := fun x hx => by
  rcases List.mem_append.mp hx with q | q
  · exact h x q
  · obtain rfl : x = v := by simpa using q
    exact ⟨qs, rs, a, b⟩
theorem PairsAt.updL {H : Hp} {l : Addr} {zs : List V} {o : HO} {xs : List V} (hl : H l = some (.lst zs)) (h : PairsAt H xs) : PairsAt (upd H l o) xs := fun x hx => let ⟨qs, rs, a, b⟩ := h x hx; ⟨qs, rs, a.updL hl, b⟩
theorem PairsAt.app {H : Hp} {xs ys : List V} (h : PairsAt H xs) (g : PairsAt H ys) : PairsAt H (xs ++ ys) := fun x hx => by
  rcases List.mem_append.mp hx with q | q
  · exact h x q
  · exact g x q
theorem PairsAt.sub {H : Hp} {xs ys : List V} (h : PairsAt H xs) (g : ∀ y ∈ ys, y ∈ xs) : PairsAt H ys := fun x hx => h x (g x hx)
section
variable {P : Program} {w : World} {K : PySem.W.Frag} {mg : Str → Option Value} {base : Heap}
theorem ok_law {er : Errs} {f : Addr} {fd : FuncData} (T : Txt2 mg) (C_l_pen : Cal P w K mg base "_law_pen" ["_law_script"] 1 (spPenZ K)) (C_l_pair : Cal P w K mg base "_law_pair" ["_law_pen_here"] 6 (spPairZ K 70)) (C_l_right : Cal P w K mg base "_law_right" ["_law_one", "_law_other"] 6 spRight)
    (C_l_is_refused : Cal P w K mg base "_law_is_refused" ["_law_ask", "_law_one", "_law_other"] 6 (spRefused P w K mg base er.c2)) (c_full : Cal1 P w K mg base "fuller_at" ["one", "other"] 4 (spFullAt1 er.c2)) (c_part : Cal1 P w K mg base "parting" ["one", "other"] 5 (spParting1 er.c2))
    (F : Fun K "law" "law" s_law f fd) : FnOk P w K mg base CX0 7 f fd ["_law_script"] (spLaw K) := by
  have S := sc_law
  obtain ⟨f1, m1, v1⟩ := c_full.fnV
  obtain ⟨f2, m2, v2⟩ := c_part.fnV
  have v1 := v1.mono (show 4 ≤ 5 by decide)
  refine F.ok sc_law (fun vs H Q E h => ?_) (fun cdv A outer s H vs Q E hr h => ?_)
  · obtain ⟨a, ns, rfl, _⟩ := h; rfl
  obtain ⟨a, ns, rfl, ha, hlen, k⟩ := h
  refine ⟨_, (@pss_cons _ _ _ _ _ (@ps_set _ _ (1) _ _ _ _ (by exact S.nd) (by rfl) (by first | exact Or.inl rfl | exact Or.inr rfl) (@cc _ _ _ _ _ _ _ _ _ _ (by exact C_l_pen) (by exact (hr.mono (by decide))) (@pa_consN _ _ _ _ _ (pv 0) pa_nil (by first | rfl | decide | exact Or.inl rfl | exact Or.inr rfl | (intro _; rfl) | (intro _ _; rfl) | (intro _ _ _; rfl))) (by first | rfl | decide | exact Or.inl rfl | exact Or.inr rfl | (intro _; rfl) | (intro _ _; rfl) | (intro _ _ _; rfl)) (by first | rfl | decide | exact Or.inl rfl | exact Or.inr rfl | (intro _; rfl) | (intro _ _; rfl) | (intro _ _ _; rfl)) (by first | rfl | decide | exact Or.inl rfl | exact Or.inr rfl | (intro _; rfl) | (intro _ _; rfl) | (intro _ _ _; rfl)) (by first | rfl | decide | exact Or.inl rfl | exact Or.inr rfl | (intro _; rfl) | (intro _ _; rfl) | (intro _ _ _; rfl))) (by first | rfl | decide | exact Or.inl rfl | exact Or.inr rfl | (intro _; rfl) | (intro _ _; rfl) | (intro _ _ _; rfl)) (by first | rfl | decide | exact Or.inl rfl | exact Or.inr rfl | (intro _; rfl) | (intro _ _; rfl) | (intro _ _ _; rfl))) (@pss_cons _ _ _ _ _ (@ps_comp _ _ _ _ _ _ _ _ _ _ _ _ _ _ _ (2) _ (by exact S.nd) (by rfl) (by first | exact Or.inl rfl | exact Or.inr rfl) (by rfl) (by exact (fun _ _ h => h)) (by decide +kernel) (by rfl) (by decide +kernel) (by exact hfr_of rfl) (by exact Sees.frees ["_law_turns"] [("_law_pen_here", 1)] (fr_cons ⟨rfl, rfl⟩ fr_nil)) (@pi_range1 _ _ _ _ _ _ (by rfl) (by exact T.z_range) (@pa_consN _ _ _ _ _ pe_int pa_nil (by first | rfl | decide | exact Or.inl rfl | exact Or.inr rfl | (intro _; rfl) | (intro _ _; rfl) | (intro _ _ _; rfl))) (by first | rfl | decide | exact Or.inl rfl | exact Or.inr rfl | (intro _; rfl) | (intro _ _; rfl) | (intro _ _ _; rfl))) (fun _ _ _ _ _ => @pg_name _ _ (0) _ (by exact (show (["_law_turns", "_law_pen_here"] : List Str).Nodup by decide +kernel)) (by rfl) (by first | exact Or.inl rfl | exact Or.inr rfl) (by first | rfl | decide | exact Or.inl rfl | exact Or.inr rfl | (intro _; rfl) | (intro _ _; rfl) | (intro _ _ _; rfl))) (fun _ _ _ _ _ => pts_nil) (fun _ _ _ _ _ => (@cc _ _ _ _ _ _ _ _ _ _ (by exact C_l_pair) (by exact (hr.mono (by decide))) (@pa_consN _ _ _ _ _ (pv 1) pa_nil (by first | rfl | decide | exact Or.inl rfl | exact Or.inr rfl | (intro _; rfl) | (intro _ _; rfl) | (intro _ _ _; rfl))) (by first | rfl | decide | exact Or.inl rfl | exact Or.inr rfl | (intro _; rfl) | (intro _ _; rfl) | (intro _ _ _; rfl)) (by first | rfl | decide | exact Or.inl rfl | exact Or.inr rfl | (intro _; rfl) | (intro _ _; rfl) | (intro _ _ _; rfl)) (by first | rfl | decide | exact Or.inl rfl | exact Or.inr rfl | (intro _; rfl) | (intro _ _; rfl) | (intro _ _ _; rfl)) (by first | rfl | decide | exact Or.inl rfl | exact Or.inr rfl | (intro _; rfl) | (intro _ _; rfl) | (intro _ _ _; rfl)))) (by first | rfl | decide | exact Or.inl rfl | exact Or.inr rfl | (intro _; rfl) | (intro _ _; rfl) | (intro _ _ _; rfl)) (by first | rfl | decide | exact Or.inl rfl | exact Or.inr rfl | (intro _; rfl) | (intro _ _; rfl) | (intro _ _ _; rfl)) (by first | rfl | decide | exact Or.inl rfl | exact Or.inr rfl | (intro _; rfl) | (intro _ _; rfl) | (intro _ _ _; rfl))) (@pss_cons _ _ _ _ _ (@ps_for _ _ _ _ _ _ _ _ (by exact PassesOwn.never) (by rfl) (@pi_list _ _ _ _ (@pe_op _ _ _ _ _ _ _ _ op_cat (@pe_op _ _ _ _ _ _ _ _ op_cat (pv 2) (@pe_comp0 _ _ _ _ _ _ _ _ _ _ _ (["_law_pair_here"]) (fun _ => [none]) (by rfl) (by exact (fun _ _ h => h)) (by decide +kernel) (by rfl) (by decide +kernel) (by decide +kernel) (by exact Sees.none1) (@pi_list _ _ _ _ (pv 2)) (fun _ _ _ _ _ => @pg_name _ _ (0) _ (by exact (show (["_law_pair_here"] : List Str).Nodup by decide +kernel)) (by rfl) (by first | exact Or.inl rfl | exact Or.inr rfl) (by first | rfl | decide | exact Or.inl rfl | exact Or.inr rfl | (intro _; rfl) | (intro _ _; rfl) | (intro _ _ _; rfl))) (fun _ _ _ _ _ => pts_nil) (fun _ _ _ _ _ => (@pe_revT _ _ _ _ _ _ _ _ (pv 0))) (by first | rfl | decide | exact Or.inl rfl | exact Or.inr rfl | (intro _; rfl) | (intro _ _; rfl) | (intro _ _ _; rfl)))) (@pe_slice _ _ _ _ _ _ _ _ _ _ sl_list (pv 2) po_none (@po_some _ _ _ pe_int)))) (@pg_tup _ _ _ _ _ _ (by rfl) (@pgs_cons _ _ _ _ _ (@pg_name _ _ (3) _ (by exact S.nd) (by rfl) (by first | exact Or.inl rfl | exact Or.inr rfl) (by first | rfl | decide | exact Or.inl rfl | exact Or.inr rfl | (intro _; rfl) | (intro _ _; rfl) | (intro _ _ _; rfl))) (@pgs_cons _ _ _ _ _ (@pg_name _ _ (4) _ (by exact S.nd) (by rfl) (by first | exact Or.inl rfl | exact Or.inr rfl) (by first | rfl | decide | exact Or.inl rfl | exact Or.inr rfl | (intro _; rfl) | (intro _ _; rfl) | (intro _ _ _; rfl))) pgs_nil (by first | rfl | decide | exact Or.inl rfl | exact Or.inr rfl | (intro _; rfl) | (intro _ _; rfl) | (intro _ _ _; rfl))) (by first | rfl | decide | exact Or.inl rfl | exact Or.inr rfl | (intro _; rfl) | (intro _ _; rfl) | (intro _ _ _; rfl))) (by first | rfl | decide | exact Or.inl rfl | exact Or.inr rfl | (intro _; rfl) | (intro _ _; rfl) | (intro _ _ _; rfl)) (by first | rfl | decide | exact Or.inl rfl | exact Or.inr rfl | (intro _; rfl) | (intro _ _; rfl) | (intro _ _ _; rfl))) (@pss_one _ _ _ (@ps_if _ _ _ _ _ _ _ _ (@pt_not _ _ _ _ (@pt_val _ _ _ (@cc _ _ _ _ _ _ _ _ _ _ (by exact C_l_right) (by exact (hr.mono (by decide))) (@pa_consN _ _ _ _ _ (pv 3) (@pa_consN _ _ _ _ _ (pv 4) pa_nil (by first | rfl | decide | exact Or.inl rfl | exact Or.inr rfl | (intro _; rfl) | (intro _ _; rfl) | (intro _ _ _; rfl))) (by first | rfl | decide | exact Or.inl rfl | exact Or.inr rfl | (intro _; rfl) | (intro _ _; rfl) | (intro _ _ _; rfl))) (by first | rfl | decide | exact Or.inl rfl | exact Or.inr rfl | (intro _; rfl) | (intro _ _; rfl) | (intro _ _ _; rfl)) (by first | rfl | decide | exact Or.inl rfl | exact Or.inr rfl | (intro _; rfl) | (intro _ _; rfl) | (intro _ _ _; rfl)) (by first | rfl | decide | exact Or.inl rfl | exact Or.inr rfl | (intro _; rfl) | (intro _ _; rfl) | (intro _ _ _; rfl)) (by first | rfl | decide | exact Or.inl rfl | exact Or.inr rfl | (intro _; rfl) | (intro _ _; rfl) | (intro _ _ _; rfl))) (by first | rfl | decide | exact Or.inl rfl | exact Or.inr rfl | (intro _; rfl) | (intro _ _; rfl) | (intro _ _ _; rfl)))) (@pss_one _ _ _ (@ps_ret _ _ _ _ pe_bl)) pss_nil)) (by first | rfl | decide | exact Or.inl rfl | exact Or.inr rfl | (intro _; rfl) | (intro _ _; rfl) | (intro _ _ _; rfl))) (@pss_cons _ _ _ _ _ (@ps_for _ _ _ _ _ _ _ _ (by exact PassesOwn.never) (by rfl) (@pi_zip _ _ _ _ _ _ _ _ _ (by rfl) (by exact T.z_zip) (@pa_consN _ _ _ _ _ (pv 2) (@pa_consN _ _ _ _ _ (@pe_slice _ _ _ _ _ _ _ _ _ _ sl_list (pv 2) (@po_some _ _ _ pe_int) po_none) pa_nil (by first | rfl | decide | exact Or.inl rfl | exact Or.inr rfl | (intro _; rfl) | (intro _ _; rfl) | (intro _ _ _; rfl))) (by first | rfl | decide | exact Or.inl rfl | exact Or.inr rfl | (intro _; rfl) | (intro _ _; rfl) | (intro _ _ _; rfl))) (by first | rfl | decide | exact Or.inl rfl | exact Or.inr rfl | (intro _; rfl) | (intro _ _; rfl) | (intro _ _ _; rfl)) (by first | rfl | decide | exact Or.inl rfl | exact Or.inr rfl | (intro _; rfl) | (intro _ _; rfl) | (intro _ _ _; rfl))) (@pg_tup _ _ _ _ _ _ (by rfl) (@pgs_cons _ _ _ _ _ (@pg_name _ _ (3) _ (by exact S.nd) (by rfl) (by first | exact Or.inl rfl | exact Or.inr rfl) (by first | rfl | decide | exact Or.inl rfl | exact Or.inr rfl | (intro _; rfl) | (intro _ _; rfl) | (intro _ _ _; rfl))) (@pgs_cons _ _ _ _ _ (@pg_name _ _ (4) _ (by exact S.nd) (by rfl) (by first | exact Or.inl rfl | exact Or.inr rfl) (by first | rfl | decide | exact Or.inl rfl | exact Or.inr rfl | (intro _; rfl) | (intro _ _; rfl) | (intro _ _ _; rfl))) pgs_nil (by first | rfl | decide | exact Or.inl rfl | exact Or.inr rfl | (intro _; rfl) | (intro _ _; rfl) | (intro _ _ _; rfl))) (by first | rfl | decide | exact Or.inl rfl | exact Or.inr rfl | (intro _; rfl) | (intro _ _; rfl) | (intro _ _ _; rfl))) (by first | rfl | decide | exact Or.inl rfl | exact Or.inr rfl | (intro _; rfl) | (intro _ _; rfl) | (intro _ _ _; rfl)) (by first | rfl | decide | exact Or.inl rfl | exact Or.inr rfl | (intro _; rfl) | (intro _ _; rfl) | (intro _ _ _; rfl))) (@pss_one _ _ _ (@ps_if _ _ _ _ _ _ _ _ (@pt_cmpR _ _ _ _ _ _ _ _ op_ne (@pe_callB _ _ _ _ _ _ _ _ _ call_len_seq (by rfl) (by exact T.z_len) (by exact bt_len) (@pa_consN _ _ _ _ _ (@pe_ix _ _ _ _ _ _ _ ix_tup (pv 3) pe_int (by exact (fun _ _ => rfl))) pa_nil (by first | rfl | decide | exact Or.inl rfl | exact Or.inr rfl | (intro _; rfl) | (intro _ _; rfl) | (intro _ _ _; rfl))) (by first | rfl | decide | exact Or.inl rfl | exact Or.inr rfl | (intro _; rfl) | (intro _ _; rfl) | (intro _ _ _; rfl)) (by first | rfl | decide | exact Or.inl rfl | exact Or.inr rfl | (intro _; rfl) | (intro _ _; rfl) | (intro _ _ _; rfl)) (by first | rfl | decide | exact Or.inl rfl | exact Or.inr rfl | (intro _; rfl) | (intro _ _; rfl) | (intro _ _ _; rfl)) (by first | rfl | decide | exact Or.inl rfl | exact Or.inr rfl | (intro _; rfl) | (intro _ _; rfl) | (intro _ _ _; rfl))) (@pe_callB _ _ _ _ _ _ _ _ _ call_len_seq (by rfl) (by exact T.z_len) (by exact bt_len) (@pa_consN _ _ _ _ _ (@pe_ix _ _ _ _ _ _ _ ix_tup (pv 4) pe_int (by exact (fun _ _ => rfl))) pa_nil (by first | rfl | decide | exact Or.inl rfl | exact Or.inr rfl | (intro _; rfl) | (intro _ _; rfl) | (intro _ _ _; rfl))) (by first | rfl | decide | exact Or.inl rfl | exact Or.inr rfl | (intro _; rfl) | (intro _ _; rfl) | (intro _ _ _; rfl)) (by first | rfl | decide | exact Or.inl rfl | exact Or.inr rfl | (intro _; rfl) | (intro _ _; rfl) | (intro _ _ _; rfl)) (by first | rfl | decide | exact Or.inl rfl | exact Or.inr rfl | (intro _; rfl) | (intro _ _; rfl) | (intro _ _ _; rfl)) (by first | rfl | decide | exact Or.inl rfl | exact Or.inr rfl | (intro _; rfl) | (intro _ _; rfl) | (intro _ _ _; rfl))) (by exact (nomark _))) (@pss_cons _ _ _ _ _ (@ps_if _ _ _ _ _ _ _ _ (@PW.pt _ _ _ (@pw_or _ _ _ _ _ _ _ (@pt_not _ _ _ _ (@pt_val _ _ _ (@cc _ _ _ _ _ _ _ _ _ _ (by exact C_l_is_refused) (by exact (hr.mono (by decide))) (@pa_consN _ _ _ _ _ (@pe_glob _ _ (.ref f1) _ _ (by rfl) (by exact m1) (by rfl) (by first | rfl | decide | exact Or.inl rfl | exact Or.inr rfl | (intro _; rfl) | (intro _ _; rfl) | (intro _ _ _; rfl))) (@pa_consN _ _ _ _ _ (@pe_ix _ _ _ _ _ _ _ ix_tup (pv 3) pe_int (by exact (fun _ _ => rfl))) (@pa_consN _ _ _ _ _ (@pe_ix _ _ _ _ _ _ _ ix_tup (pv 4) pe_int (by exact (fun _ _ => rfl))) pa_nil (by first | rfl | decide | exact Or.inl rfl | exact Or.inr rfl | (intro _; rfl) | (intro _ _; rfl) | (intro _ _ _; rfl))) (by first | rfl | decide | exact Or.inl rfl | exact Or.inr rfl | (intro _; rfl) | (intro _ _; rfl) | (intro _ _ _; rfl))) (by first | rfl | decide | exact Or.inl rfl | exact Or.inr rfl | (intro _; rfl) | (intro _ _; rfl) | (intro _ _ _; rfl))) (by first | rfl | decide | exact Or.inl rfl | exact Or.inr rfl | (intro _; rfl) | (intro _ _; rfl) | (intro _ _ _; rfl)) (by first | rfl | decide | exact Or.inl rfl | exact Or.inr rfl | (intro _; rfl) | (intro _ _; rfl) | (intro _ _ _; rfl)) (by first | rfl | decide | exact Or.inl rfl | exact Or.inr rfl | (intro _; rfl) | (intro _ _; rfl) | (intro _ _ _; rfl)) (by first | rfl | decide | exact Or.inl rfl | exact Or.inr rfl | (intro _; rfl) | (intro _ _; rfl) | (intro _ _ _; rfl))) (by first | rfl | decide | exact Or.inl rfl | exact Or.inr rfl | (intro _; rfl) | (intro _ _; rfl) | (intro _ _ _; rfl)))) (@pw_or1 _ _ _ _ (@pt_not _ _ _ _ (@pt_val _ _ _ (@cc _ _ _ _ _ _ _ _ _ _ (by exact C_l_is_refused) (by exact (hr.mono (by decide))) (@pa_consN _ _ _ _ _ (@pe_glob _ _ (.ref f1) _ _ (by rfl) (by exact m1) (by rfl) (by first | rfl | decide | exact Or.inl rfl | exact Or.inr rfl | (intro _; rfl) | (intro _ _; rfl) | (intro _ _ _; rfl))) (@pa_consN _ _ _ _ _ (@pe_ix _ _ _ _ _ _ _ ix_tup (pv 4) pe_int (by exact (fun _ _ => rfl))) (@pa_consN _ _ _ _ _ (@pe_ix _ _ _ _ _ _ _ ix_tup (pv 3) pe_int (by exact (fun _ _ => rfl))) pa_nil (by first | rfl | decide | exact Or.inl rfl | exact Or.inr rfl | (intro _; rfl) | (intro _ _; rfl) | (intro _ _ _; rfl))) (by first | rfl | decide | exact Or.inl rfl | exact Or.inr rfl | (intro _; rfl) | (intro _ _; rfl) | (intro _ _ _; rfl))) (by first | rfl | decide | exact Or.inl rfl | exact Or.inr rfl | (intro _; rfl) | (intro _ _; rfl) | (intro _ _ _; rfl))) (by first | rfl | decide | exact Or.inl rfl | exact Or.inr rfl | (intro _; rfl) | (intro _ _; rfl) | (intro _ _ _; rfl)) (by first | rfl | decide | exact Or.inl rfl | exact Or.inr rfl | (intro _; rfl) | (intro _ _; rfl) | (intro _ _ _; rfl)) (by first | rfl | decide | exact Or.inl rfl | exact Or.inr rfl | (intro _; rfl) | (intro _ _; rfl) | (intro _ _ _; rfl)) (by first | rfl | decide | exact Or.inl rfl | exact Or.inr rfl | (intro _; rfl) | (intro _ _; rfl) | (intro _ _ _; rfl))) (by first | rfl | decide | exact Or.inl rfl | exact Or.inr rfl | (intro _; rfl) | (intro _ _; rfl) | (intro _ _ _; rfl))))))) (@pss_one _ _ _ (@ps_ret _ _ _ _ pe_bl)) pss_nil) (@pss_one _ _ _ (@ps_if _ _ _ _ _ _ _ _ (@PW.pt _ _ _ (@pw_and _ _ _ _ _ _ _ (@pt_cmpR _ _ _ _ _ _ _ _ op_lt (@pe_callB _ _ _ _ _ _ _ _ _ (call_max2 (by rfl)) (by rfl) (by exact T.z_max) (by exact bt_max) (@pa_consN _ _ _ _ _ (@pe_callB _ _ _ _ _ _ _ _ _ call_len_seq (by rfl) (by exact T.z_len) (by exact bt_len) (@pa_consN _ _ _ _ _ (@pe_ix _ _ _ _ _ _ _ ix_tup (pv 3) pe_int (by exact (fun _ _ => rfl))) pa_nil (by first | rfl | decide | exact Or.inl rfl | exact Or.inr rfl | (intro _; rfl) | (intro _ _; rfl) | (intro _ _ _; rfl))) (by first | rfl | decide | exact Or.inl rfl | exact Or.inr rfl | (intro _; rfl) | (intro _ _; rfl) | (intro _ _ _; rfl)) (by first | rfl | decide | exact Or.inl rfl | exact Or.inr rfl | (intro _; rfl) | (intro _ _; rfl) | (intro _ _ _; rfl)) (by first | rfl | decide | exact Or.inl rfl | exact Or.inr rfl | (intro _; rfl) | (intro _ _; rfl) | (intro _ _ _; rfl)) (by first | rfl | decide | exact Or.inl rfl | exact Or.inr rfl | (intro _; rfl) | (intro _ _; rfl) | (intro _ _ _; rfl))) (@pa_consN _ _ _ _ _ (@pe_callB _ _ _ _ _ _ _ _ _ call_len_seq (by rfl) (by exact T.z_len) (by exact bt_len) (@pa_consN _ _ _ _ _ (@pe_ix _ _ _ _ _ _ _ ix_tup (pv 4) pe_int (by exact (fun _ _ => rfl))) pa_nil (by first | rfl | decide | exact Or.inl rfl | exact Or.inr rfl | (intro _; rfl) | (intro _ _; rfl) | (intro _ _ _; rfl))) (by first | rfl | decide | exact Or.inl rfl | exact Or.inr rfl | (intro _; rfl) | (intro _ _; rfl) | (intro _ _ _; rfl)) (by first | rfl | decide | exact Or.inl rfl | exact Or.inr rfl | (intro _; rfl) | (intro _ _; rfl) | (intro _ _ _; rfl)) (by first | rfl | decide | exact Or.inl rfl | exact Or.inr rfl | (intro _; rfl) | (intro _ _; rfl) | (intro _ _ _; rfl)) (by first | rfl | decide | exact Or.inl rfl | exact Or.inr rfl | (intro _; rfl) | (intro _ _; rfl) | (intro _ _ _; rfl))) pa_nil (by first | rfl | decide | exact Or.inl rfl | exact Or.inr rfl | (intro _; rfl) | (intro _ _; rfl) | (intro _ _ _; rfl))) (by first | rfl | decide | exact Or.inl rfl | exact Or.inr rfl | (intro _; rfl) | (intro _ _; rfl) | (intro _ _ _; rfl))) (by first | rfl | decide | exact Or.inl rfl | exact Or.inr rfl | (intro _; rfl) | (intro _ _; rfl) | (intro _ _ _; rfl)) (by first | rfl | decide | exact Or.inl rfl | exact Or.inr rfl | (intro _; rfl) | (intro _ _; rfl) | (intro _ _ _; rfl)) (by first | rfl | decide | exact Or.inl rfl | exact Or.inr rfl | (intro _; rfl) | (intro _ _; rfl) | (intro _ _ _; rfl)) (by first | rfl | decide | exact Or.inl rfl | exact Or.inr rfl | (intro _; rfl) | (intro _ _; rfl) | (intro _ _ _; rfl))) pe_int (by exact (nomark _))) (@pw_and1 _ _ _ _ (@pt_not _ _ _ _ (@pt_val _ _ _ (@cc _ _ _ _ _ _ _ _ _ _ (by exact C_l_is_refused) (by exact (hr.mono (by decide))) (@pa_consN _ _ _ _ _ (@pe_glob _ _ (.ref f2) _ _ (by rfl) (by exact m2) (by rfl) (by first | rfl | decide | exact Or.inl rfl | exact Or.inr rfl | (intro _; rfl) | (intro _ _; rfl) | (intro _ _ _; rfl))) (@pa_consN _ _ _ _ _ (@pe_ix _ _ _ _ _ _ _ ix_tup (pv 3) pe_int (by exact (fun _ _ => rfl))) (@pa_consN _ _ _ _ _ (@pe_ix _ _ _ _ _ _ _ ix_tup (pv 4) pe_int (by exact (fun _ _ => rfl))) pa_nil (by first | rfl | decide | exact Or.inl rfl | exact Or.inr rfl | (intro _; rfl) | (intro _ _; rfl) | (intro _ _ _; rfl))) (by first | rfl | decide | exact Or.inl rfl | exact Or.inr rfl | (intro _; rfl) | (intro _ _; rfl) | (intro _ _ _; rfl))) (by first | rfl | decide | exact Or.inl rfl | exact Or.inr rfl | (intro _; rfl) | (intro _ _; rfl) | (intro _ _ _; rfl))) (by first | rfl | decide | exact Or.inl rfl | exact Or.inr rfl | (intro _; rfl) | (intro _ _; rfl) | (intro _ _ _; rfl)) (by first | rfl | decide | exact Or.inl rfl | exact Or.inr rfl | (intro _; rfl) | (intro _ _; rfl) | (intro _ _ _; rfl)) (by first | rfl | decide | exact Or.inl rfl | exact Or.inr rfl | (intro _; rfl) | (intro _ _; rfl) | (intro _ _ _; rfl)) (by first | rfl | decide | exact Or.inl rfl | exact Or.inr rfl | (intro _; rfl) | (intro _ _; rfl) | (intro _ _ _; rfl))) (by first | rfl | decide | exact Or.inl rfl | exact Or.inr rfl | (intro _; rfl) | (intro _ _; rfl) | (intro _ _ _; rfl))))))) (@pss_one _ _ _ (@ps_ret _ _ _ _ pe_bl)) pss_nil))) pss_nil)) (by first | rfl | decide | exact Or.inl rfl | exact Or.inr rfl | (intro _; rfl) | (intro _ _; rfl) | (intro _ _ _; rfl))) (@pss_one _ _ _ (@ps_ret _ _ _ _ pe_bl)))))), ?_⟩
  refine ⟨_, rfl, a, ns, rfl, ha, fun p H1 s1 hp => ?_⟩
  refine ⟨4, rfl, by decide, by decide, comp_rng (n := 4) (lo := 0) (fs := [some (.ref p)]) (fun acc i ys H' => PenZ K H' p (70 * i) ∧ SameY p H1 H' ∧ PairsAt H' ys) (by omega) ?_ ?_ ?_⟩
  · intro acc hacc
    exact ⟨hp.same (same_new hacc _), (Same.y (same_new hacc _)), fun x hx => by simp at hx⟩
  · rintro acc i ys H' hacc hi hl ⟨p', x', pr⟩ hacc' Q' hQ
    refine ⟨_, rfl, p, _, rfl, p', by omega, fun v qs rs H2 hv be p2 x2 => ?_⟩
    obtain ⟨u1, u2⟩ := penZ_upd hacc hp (x'.trans x2) p2 (.lst (ys ++ [v]))
    have ha2 := x2.all _ _ hacc' (hp.ne hacc)
    refine hQ _ H2 ha2 ⟨u1.mono (by omega), u2, PairsAt.updL ha2 (PairsAt.snoc (fun x hx => ?_) hv be)⟩
    obtain ⟨qs, rs, a1, b1⟩ := pr x hx
    exact ⟨qs, rs, a1.keepZ p' x2, b1⟩
  rintro L ys H2 hL ⟨p2, x2, pr⟩ hL2 hlen4
  refine ⟨_, rfl, _, rfl, L, rfl, ⟨_, SqL.of hL2⟩, comp_lst (a := L) (xs := ys) (fs := []) (fun acc i zs H' => Same H2 H' ∧ PairsAt H' zs) (by omega) ?_ ?_ ?_ ?_⟩
  · intro acc hacc
    exact ⟨same_new hacc _, fun x hx => by simp at hx⟩
  · rintro acc i zs H' hacc ⟨s', _⟩
    exact s' _ _ hL2
  · rintro acc i zs H' x hacc hx hl ⟨s', pz⟩ hacc' Q' hQ
    obtain ⟨qs, rs, ⟨t, a1, b1, rfl, ht, ra, rb⟩, be⟩ := pr x (List.mem_of_getElem? hx)
    refine ⟨_, rfl, t, _, rfl, s' _ _ ht, fun u hu => ?_⟩
    have su := same_new hu (.tup ([a1, b1].reverse))
    have hu1 : (upd H' u (.tup ([a1, b1].reverse))) u = some (.tup [b1, a1]) := upd_same
    refine hQ _ _ (su _ _ hacc') ⟨same_upd (s'.trans su) hacc, PairsAt.updL (su _ _ hacc') (PairsAt.snoc (pz.same su) ⟨u, b1, a1, rfl, hu1, rb.same (s'.trans su), ra.same (s'.trans su)⟩ be.symm)⟩
  rintro M zs H3 hM ⟨s3, pz⟩ hM3 hlz
  have hL3 := s3 _ _ hL2
  refine ⟨L, M, _, _, rfl, rfl, hL3, hM3, (by rw [sizeLine_eq]; omega), fun C1 hC1 => ?_⟩
  have s4 := same_new hC1 (.lst (ys ++ zs))
  have hC : (upd H3 C1 (.lst (ys ++ zs))) C1 = some (.lst (ys ++ zs)) := upd_same
  have hL4 := s4 _ _ hL3
  have pr4 : PairsAt (upd H3 C1 (.lst (ys ++ zs))) ys := pr.same (s3.trans s4)
  have pz4 : PairsAt (upd H3 C1 (.lst (ys ++ zs))) zs := pz.same s4
  generalize upd H3 C1 (.lst (ys ++ zs)) = H4 at s4 hC hL4 pr4 pz4
  refine ⟨_, rfl, 2, rfl, L, _, rfl, SqL.of hL4, fun D1 hD1 => ?_⟩
  have ct : cutV ys none (some 2) = ys.take 2 := cut_take (k := 2) (by omega)
  rw [ct]
  have s5 := same_new hD1 (.lst (ys.take 2))
  have hD : (upd H4 D1 (.lst (ys.take 2))) D1 = some (.lst (ys.take 2)) := upd_same
  have hC5 := s5 _ _ hC
  have hL5 := s5 _ _ hL4
  have pr5 := pr4.same s5
  have pz5 := pz4.same s5
  generalize upd H4 D1 (.lst (ys.take 2)) = H5 at s5 hD hC5 hL5 pr5 pz5
  refine ⟨C1, D1, _, _, rfl, rfl, hC5, hD, (by rw [sizeLine_eq, List.length_append, List.length_take]; omega), fun G hG => ?_⟩
  have s6 := same_new hG (.lst (ys ++ zs ++ ys.take 2))
  have hG6 : (upd H5 G (.lst (ys ++ zs ++ ys.take 2))) G = some (.lst (ys ++ zs ++ ys.take 2)) := upd_same
  have hL6 := s6 _ _ hL5
  have pr6 := pr5.same s6
  have all6 : PairsAt (upd H5 G (.lst (ys ++ zs ++ ys.take 2))) (ys ++ zs ++ ys.take 2) := ((pr5.app pz5).app (pr5.sub fun y hy => List.mem_of_mem_take hy)).same s6
  generalize upd H5 G (.lst (ys ++ zs ++ ys.take 2)) = H6 at s6 hG6 hL6 pr6 all6
  refine ⟨G, rfl, ⟨_, SqL.of hG6⟩, for_list (xs := ys ++ zs ++ ys.take 2) (fun i σ H' => (∃ o3 o4, σ = [some (.ref a), some (.ref p), some (.ref L), o3, o4]) ∧ Same H6 H') ⟨⟨_, _, rfl⟩, Same.refl _⟩ (fun i σ H' _ h => SqL.of (h.2 _ _ hG6)) ?_ ?_⟩
  · rintro i x σ H7 hx ⟨⟨o3, o4, rfl⟩, s7⟩
    obtain ⟨qs, rs, ⟨t, a1, b1, rfl, ht, ra, rb⟩, be⟩ := all6 x (List.mem_of_getElem? hx)
    refine ⟨t, _, rfl, SqT.of (s7 _ _ ht), rfl, _, _, rfl, _, _, rfl, rfl, ?_⟩
    refine ⟨_, rfl, _, rfl, a1, b1, qs, rs, rfl, ra.same s7, rb.same s7, be, fun H8 s8 => ?_⟩
    exact ⟨_, rfl, iteF ⟨⟨_, _, rfl⟩, s7.trans s8⟩⟩
  rintro σ H7 ⟨⟨o3, o4, rfl⟩, s7⟩
  have hL7 := s7 _ _ hL6
  have pr7 := pr6.same s7
  refine ⟨_, rfl, _, rfl, 1, rfl, L, _, rfl, SqL.of hL7, fun N hN => ?_⟩
  have cd : cutV ys (some 1) none = ys.drop 1 := cut_drop (k := 1) (by omega)
  rw [cd]
  have s8 := same_new hN (.lst (ys.drop 1))
  have hN8 : (upd H7 N (.lst (ys.drop 1))) N = some (.lst (ys.drop 1)) := upd_same
  have hL8 := s8 _ _ hL7
  have pr8 := pr7.same s8
  generalize upd H7 N (.lst (ys.drop 1)) = H8 at s8 hN8 hL8 pr8
  refine ⟨L, N, rfl, ⟨_, SqL.of hL8⟩, ⟨_, SqL.of hN8⟩, for_zipS (xs := ys) (ys := ys.drop 1) (fun i σ H' => (∃ o3 o4, σ = [some (.ref a), some (.ref p), some (.ref L), o3, o4]) ∧ Same H8 H') (by simp) ⟨⟨_, _, rfl⟩, Same.refl _⟩ (fun i σ H' _ h => ⟨SqL.of (h.2 _ _ hL8), SqL.of (h.2 _ _ hN8)⟩) ?_ ?_⟩
  · rintro i x y t0 σ H9 hx hy ⟨⟨o3, o4, rfl⟩, s9⟩ ht0
    obtain ⟨qs, rs, ⟨t, a1, b1, rfl, ht, ra, rb⟩, be⟩ := pr8 x (List.mem_of_getElem? hx)
    obtain ⟨us, ws, ⟨u, a2, b2, rfl, hu, rc, rd⟩, be2⟩ := pr8 y (List.mem_of_mem_drop (List.mem_of_getElem? hy))
    have s10 := same_new ht0 (.tup [V.ref t, .ref u])
    refine ⟨t0, _, rfl, SqT.of upd_same, rfl, _, _, rfl, _, _, rfl, rfl, ?_⟩
    have sx := s9.trans s10
    replace ht := sx _ _ ht
    replace hu := sx _ _ hu
    replace ra := ra.same sx
    replace rb := rb.same sx
    replace rc := rc.same sx
    replace rd := rd.same sx
    generalize upd H9 t0 (.tup [V.ref t, .ref u]) = H10 at s10 sx ht hu ra rb rc rd
    obtain ⟨a', xs', rfl, ha', hxs'⟩ := id ra
    obtain ⟨c', zs', rfl, hc', hzs'⟩ := id rc
    obtain ⟨d', ws', rfl, hd', hws'⟩ := id rd
    have l1 := hxs'.length
    have l2 := hzs'.length
    refine ⟨_, rfl, t, _, _, _, rfl, rfl, SqT.of ht, rfl, a', _, rfl, .inr (SqT.of ha'), _, rfl, u, _, _, _, rfl, rfl, SqT.of hu, rfl, c', _, rfl, .inr (SqT.of hc'), rfl, _, rfl, ?_⟩
    have full : ∀ {H' : Hp} {Q' : VK} {E' : XK} {a b : Addr} {xs ys : List V} {qs rs : List Rat}, H' a = some (.tup xs) → H' b = some (.tup ys) → Shs H' xs qs → Shs H' ys rs → qs.length ≠ rs.length → E' (.ref er.c2) none H' → spFullAt1 er.c2 [.ref a, .ref b] H' Q' E' := fun {H' Q' E' a b xs ys qs rs} h1 h2 h3 h4 h5 h6 => ⟨a, b, xs, ys, qs, rs, rfl, h1, h2, h3, h4, fun _ => h6, fun z => absurd z h5⟩
    have part : ∀ {H' : Hp} {Q' : VK} {E' : XK} {a b : Addr} {xs ys : List V} {qs rs : List Rat}, H' a = some (.tup xs) → H' b = some (.tup ys) → Shs H' xs qs → Shs H' ys rs → qs.length ≠ rs.length → E' (.ref er.c2) none H' → spParting1 er.c2 [.ref a, .ref b] H' Q' E' := fun {H' Q' E' a b xs ys qs rs} h1 h2 h3 h4 h5 h6 => ⟨a, b, xs, ys, qs, rs, rfl, h1, h2, h3, h4, fun _ => h6, fun z => absurd z h5⟩
    have dn := be2.1
    by_cases en : xs'.length = zs'.length
    · refine ite2 (fun c => absurd (congrArg (fun n : Nat => V.int n) en) (by simpa using c)) (fun _ => ⟨⟨_, _, rfl⟩, sx⟩)
    · refine ite2 (fun _ => ?_) (fun c => absurd (V.int.inj (by simpa using c)) (by omega))
      have ne : qs.length ≠ ws.length := by omega
      refine ⟨_, rfl, t, _, _, _, rfl, rfl, SqT.of ht, rfl, _, rfl, u, _, _, _, rfl, rfl, SqT.of hu, rfl, f1, .ref a', .ref d', _, _, rfl, v1, fun Q' E' e => full ha' hd' hxs' hws' ne e, fun H11 s11 => ?_⟩
      refine ⟨_, rfl, iteF ?_⟩
      refine ⟨_, rfl, u, _, _, _, rfl, rfl, SqT.of (s11 _ _ hu), rfl, _, rfl, t, _, _, _, rfl, rfl, SqT.of (s11 _ _ ht), rfl, f1, .ref d', .ref a', _, _, rfl, v1, fun Q' E' e => full (s11 _ _ hd') (s11 _ _ ha') (hws'.same s11) (hxs'.same s11) (Ne.symm ne) e, fun H12 s12 => ?_⟩
      have sy := s11.trans s12
      refine ⟨_, rfl, iteF ?_⟩
      refine ⟨_, rfl, t, _, _, _, rfl, rfl, SqT.of (sy _ _ ht), rfl, a', _, rfl, .inr (SqT.of (sy _ _ ha')), _, rfl, u, _, _, _, rfl, rfl, SqT.of (sy _ _ hu), rfl, c', _, rfl, .inr (SqT.of (sy _ _ hc')), _, _, rfl, _, _, rfl, rfl, _, rfl, ?_⟩
      refine ite2 (fun _ => ?_) (fun _ => iteF ⟨⟨_, _, rfl⟩, sx.trans sy⟩)
      refine ⟨_, rfl, t, _, _, _, rfl, rfl, SqT.of (sy _ _ ht), rfl, _, rfl, u, _, _, _, rfl, rfl, SqT.of (sy _ _ hu), rfl, f2, .ref a', .ref d', _, _, rfl, v2, fun Q' E' e => part (sy _ _ ha') (sy _ _ hd') (hxs'.same sy) (hws'.same sy) ne e, fun H13 s13 => ?_⟩
      exact ⟨_, rfl, iteF ⟨⟨_, _, rfl⟩, sx.trans (sy.trans s13)⟩⟩
  · rintro σ H9 ⟨⟨o3, o4, rfl⟩, s9⟩
    exact k _
end
end My

set_option Elab.async false
set_option linter.all false
set_option maxRecDepth 100000
set_option maxHeartbeats 4000000
namespace My
open PySem L2 MA
structure Funs (K : PySem.W.Frag) (mg : Str → Option Value) : Prop where
  f_measure : FunAt K mg "measure" ["a", "b"] s_measure
  f_plus : FunAt K mg "plus" ["a", "b"] s_plus
  f_minus : FunAt K mg "minus" ["a", "b"] s_minus
  f_times : FunAt K mg "times" ["a", "b"] s_times
  f_parted : FunAt K mg "parted" ["top", "bottoms"] s_parted
  f_ask_as_many : FunAt K mg "ask_as_many" ["one", "other"] s_ask_as_many
  f_drawn : FunAt K mg "drawn" ["n", "many"] s_drawn
  f_rows_up_to : FunAt K mg "rows_up_to" ["rank", "many"] s_rows_up_to
  f_unlike : FunAt K mg "unlike" ["n", "many"] s_unlike
  f_sets : FunAt K mg "sets" ["things", "many"] s_sets
  f_mixed : FunAt K mg "mixed" ["share", "one", "other"] s_mixed
  f_fuller_at : FunAt K mg "fuller_at" ["one", "other"] s_fuller_at
  f_parting : FunAt K mg "parting" ["one", "other"] s_parting
  f_l_pen : FunAt K mg "_law_pen" ["_law_script"] s_l_pen
  f_l_take : FunAt K mg "_law_take" ["_law_pen_here", "_law_many"] s_l_take
  f_l_share : FunAt K mg "_law_share" ["_law_top", "_law_bottom"] s_l_share
  f_l_sum : FunAt K mg "_law_sum" ["_law_some"] s_l_sum
  f_l_weights : FunAt K mg "_law_weights" ["_law_pen_here", "_law_boxes"] s_l_weights
  f_l_rule : FunAt K mg "_law_rule" ["_law_weights_here"] s_l_rule
  f_l_behind : FunAt K mg "_law_behind" ["_law_pen_here", "_law_weights_here"] s_l_behind
  f_l_near : FunAt K mg "_law_near" ["_law_pen_here"] s_l_near
  f_l_pair : FunAt K mg "_law_pair" ["_law_pen_here"] s_l_pair
  f_l_due : FunAt K mg "_law_due" ["_law_one", "_law_other"] s_l_due
  f_l_right : FunAt K mg "_law_right" ["_law_one", "_law_other"] s_l_right
  f_l_is_refused : FunAt K mg "_law_is_refused" ["_law_ask", "_law_one", "_law_other"] s_l_is_refused
theorem all_mk {l : PySem.W.OpenLaw} {w : World} {K : PySem.W.Frag} {h : Heap} {mg : Str → Option Value} {fa f3 : Addr} (X : K.In h) (G : h.Ns mainGlobals mg) (hfa : mg "law" = some (.ref fa))
    {od3 an3 : Option Addr} {sl3 : Array (Option Value)} {oc3 kV3 dc3 pm3 cd3 ct3 : Value} {er : Errs} (T : Txt2 mg) (N : ErrN mg er) (q2 : errOk K er er.c2 2 = true) (FA : Funs K mg)
    (a3 : PySem.W.nsIn K mainGlobals "law" = some (some (.ref f3))) (l3 : K.lookup f3 = some ⟨oc3, od3, .func (PySem.W.fnOf "law" "law" (defArgs s_law) (defBody s_law) (defScope s_law) .none kV3 dc3 pm3 an3 cd3 ct3), sl3⟩) (c3 : PySem.W.codeIn K cd3 "law" = true) (k3 : PySem.W.keepIn K (.ref f3) = true) :
    ∃ fd : FuncData, (∀ (s : Shared) (v : Value), BindsTo s fd ⟨[v], []⟩ [("_law_script", v)]) ∧ ∀ base : Heap, K.In base → base.Ns mainGlobals mg → FnOk l.prog w K mg base CX0 7 fa fd ["_law_script"] (spLaw K) := by
  have e := hfa.symm.trans (PySem.W.mg_of X G a3)
  cases e
  have F3 := fun_mk (st := s_law) l3 c3 k3
  refine ⟨PySem.W.fnOf "law" "law" (defArgs s_law) (defBody s_law) (defScope s_law) .none kV3 dc3 pm3 an3 cd3 ct3, fun s v => .of_eq rfl, fun base _ _ => ?_⟩
  obtain ⟨e2, z2⟩ := errOk_of q2
  have c_measure := ok_measure (P := l.prog) (w := w) (base := base) T.toTxt FA.f_measure
  have c_plus := ok_plus c_measure FA.f_plus
  have c_minus := ok_minus c_plus FA.f_minus
  have c_times := ok_times c_measure FA.f_times
  have c_parted := ok_parted c_measure FA.f_parted
  have c_ask := ok_ask (P := l.prog) (w := w) (base := base) T N z2 FA.f_ask_as_many
  have c_rowsup := ok_rowsup (P := l.prog) (w := w) (base := base) T.toTxt FA.f_rows_up_to
  have c_drawn := ok_drawn T.toTxt c_parted c_rowsup FA.f_drawn
  have c_sets := ok_sets (P := l.prog) (w := w) (base := base) T.toTxt FA.f_sets
  have c_unlike := ok_unlike T.toTxt c_parted c_sets FA.f_unlike
  have c_mixed1 := ok_mixed T c_ask c_plus c_minus c_times FA.f_mixed
  have c_mixed := c_mixed1.cal0.imp mixed1_0
  have c_full := ok_fullat T c_ask c_plus c_minus FA.f_fuller_at
  have c_part := ok_parting T c_full FA.f_parting
  have c_full0 := c_full.cal0.imp full1_0
  have c_part0 := c_part.cal0.imp part1_0
  have c_pen := ok_penZ (P := l.prog) (w := w) (base := base) FA.f_l_pen
  have c_take := ok_take (P := l.prog) (w := w) (base := base) T.toTxt FA.f_l_take
  have c_share := ok_shareL (P := l.prog) (w := w) (base := base) T FA.f_l_share
  have c_sum := ok_sum T c_share FA.f_l_sum
  have c_weights := ok_weights T c_take FA.f_l_weights
  have c_rule := ok_rule T c_share FA.f_l_rule
  have c_behind := ok_behind T c_take FA.f_l_behind
  have c_near := ok_near T c_take c_drawn c_unlike c_weights c_rule c_mixed FA.f_l_near
  have c_pair := ok_pair T c_take c_drawn c_unlike c_weights c_rule c_mixed c_behind c_share c_near FA.f_l_pair
  have c_due := ok_dueB T c_sum FA.f_l_due
  have c_right := ok_right T c_due c_full0 c_part0 FA.f_l_right
  have c_refused := ok_refused (P := l.prog) (w := w) (base := base) T N e2 FA.f_l_is_refused
  exact ok_law T c_pen c_pair c_right c_refused c_full c_part F3
theorem walk {l : PySem.W.OpenLaw} {q : Program} {loose : List Str} {XP : (Str → Option Value) → Heap → Prop} {YP : World → Heap → Prop} {d : DefRec} {K : Params → PySem.W.Frag} (hn : l.most = some 63) (hdf : d.params.defaults = [])
    (hY : ∀ (w : World) (h : Heap), YP w h → (K w.params).In h)
    (F : ∀ (w : World) (mg : Str → Option Value) (fa : Addr) (h : Heap), (K w.params).In h → h.Ns mainGlobals mg → mg d.name = some (.ref fa) →
      ∃ fd : FuncData, (∀ (s : Shared) (u : Value), BindsTo s fd ⟨[u], []⟩ [("_law_script", u)]) ∧ ∀ base : Heap, (K w.params).In base → base.Ns mainGlobals mg → FnOk l.prog w (K w.params) mg base CX0 7 fa fd ["_law_script"] (spLaw (K w.params))) :
    PySem.W.WalkO q loose XP YP l.row.toRowW d [] (fun f vs => PySem.call f vs) :=
  L2.walk_of (n := 63) (k := 7) (x := "_law_script") (CX := fun _ => CX0) (sp := fun w => spLaw (K w.params)) hn (by decide) hdf ⟨rfl, by decide, by decide, rfl⟩ hY F (fun _ _ a ns hl _ hS => ⟨a, ns, rfl, hS, hl, fun _ => rfl⟩) fun _ _ _ _ _ z => z
theorem txt_mk {K : PySem.W.Frag} {h : Heap} {mg : Str → Option Value} (X : K.In h) (G : h.Ns mainGlobals mg)
    (z_abs : PySem.W.nsIn K mainGlobals "abs" = some none)
    (z_len : PySem.W.nsIn K mainGlobals "len" = some none)
    (z_isinstance : PySem.W.nsIn K mainGlobals "isinstance" = some none)
    (z_range : PySem.W.nsIn K mainGlobals "range" = some none)
    (z_int : PySem.W.nsIn K mainGlobals "int" = some none)
    (z_bool : PySem.W.nsIn K mainGlobals "bool" = some none)
    (z_tuple : PySem.W.nsIn K mainGlobals "tuple" = some none)
    (z_list : PySem.W.nsIn K mainGlobals "list" = some none)
    (z_all : PySem.W.nsIn K mainGlobals "all" = some none)
    (z_str : PySem.W.nsIn K mainGlobals "str" = some none)
    (z_repr : PySem.W.nsIn K mainGlobals "repr" = some none)
    (z_dict : PySem.W.nsIn K mainGlobals "dict" = some none)
    (z_sum : PySem.W.nsIn K mainGlobals "sum" = some none)
    (z_sorted : PySem.W.nsIn K mainGlobals "sorted" = some none)
    (z_max : PySem.W.nsIn K mainGlobals "max" = some none)
    (z_min : PySem.W.nsIn K mainGlobals "min" = some none)
    (z_any : PySem.W.nsIn K mainGlobals "any" = some none)
    (z_enumerate : PySem.W.nsIn K mainGlobals "enumerate" = some none)
    (z_zip : PySem.W.nsIn K mainGlobals "zip" = some none)
    (z_set : PySem.W.nsIn K mainGlobals "set" = some none)
    (z_reversed : PySem.W.nsIn K mainGlobals "reversed" = some none)
    (z_ValueError : PySem.W.nsIn K mainGlobals "ValueError" = some none)
    : Txt2 mg := ⟨⟨PySem.W.mg_none_of X G z_abs, PySem.W.mg_none_of X G z_len, PySem.W.mg_none_of X G z_isinstance, PySem.W.mg_none_of X G z_range, PySem.W.mg_none_of X G z_int, PySem.W.mg_none_of X G z_bool, PySem.W.mg_none_of X G z_tuple, PySem.W.mg_none_of X G z_list, PySem.W.mg_none_of X G z_all⟩, PySem.W.mg_none_of X G z_str, PySem.W.mg_none_of X G z_repr, PySem.W.mg_none_of X G z_dict, PySem.W.mg_none_of X G z_sum, PySem.W.mg_none_of X G z_sorted, PySem.W.mg_none_of X G z_max, PySem.W.mg_none_of X G z_min, PySem.W.mg_none_of X G z_any, PySem.W.mg_none_of X G z_enumerate, PySem.W.mg_none_of X G z_zip, PySem.W.mg_none_of X G z_set, PySem.W.mg_none_of X G z_reversed, PySem.W.mg_none_of X G z_ValueError⟩
end My
open PySem PySem.W PyProof.Rows
set_option maxRecDepth 100000 in
set_option maxHeartbeats 0 in
theorem PySem.Challenge.cw_emptierbox_k23_rules_held_beside_holds : PySem.Challenge.rw_emptierbox_k23_rules_held_beside.Holds := by
  w_on; o_law; k_head; (case hw => w_witness2)
  k_fill
  refine My.walk (l := PySem.Challenge.rw_emptierbox_k23_rules_held_beside) rfl rfl (fun w h Y => PySem.W.kIn_of Y) ?F
  case F =>
    intro w mg fa h KX G hmg
    have T : My.Txt2 mg := by
      refine' My.txt_mk KX G ?z0 ?z1 ?z2 ?z3 ?z4 ?z5 ?z6 ?z7 ?z8 ?z9 ?z10 ?z11 ?z12 ?z13 ?z14 ?z15 ?z16 ?z17 ?z18 ?z19 ?z20 ?z21
      (case z0 => k_is)
      (case z1 => k_is)
      (case z2 => k_is)
      (case z3 => k_is)
      (case z4 => k_is)
      (case z5 => k_is)
      (case z6 => k_is)
      (case z7 => k_is)
      (case z8 => k_is)
      (case z9 => k_is)
      (case z10 => k_is)
      (case z11 => k_is)
      (case z12 => k_is)
      (case z13 => k_is)
      (case z14 => k_is)
      (case z15 => k_is)
      (case z16 => k_is)
      (case z17 => k_is)
      (case z18 => k_is)
      (case z19 => k_is)
      (case z20 => k_is)
      (case z21 => k_is)
    have f_measure : L2.FunAt (L2.KOf KX) mg "measure" ["a", "b"] My.s_measure := by
      dsimp only [L2.KOf]
      refine' L2.funAt_mk KX G (fun _ _ _ _ _ _ us hl => match us, hl with | [_, _], _ => rfl) ?a ?l ?c ?k
      (case a => k_is); (case l => k_is); (case c => k_is); (case k => k_is)
    have f_plus : L2.FunAt (L2.KOf KX) mg "plus" ["a", "b"] My.s_plus := by
      dsimp only [L2.KOf]
      refine' L2.funAt_mk KX G (fun _ _ _ _ _ _ us hl => match us, hl with | [_, _], _ => rfl) ?a ?l ?c ?k
      (case a => k_is); (case l => k_is); (case c => k_is); (case k => k_is)
    have f_minus : L2.FunAt (L2.KOf KX) mg "minus" ["a", "b"] My.s_minus := by
      dsimp only [L2.KOf]
      refine' L2.funAt_mk KX G (fun _ _ _ _ _ _ us hl => match us, hl with | [_, _], _ => rfl) ?a ?l ?c ?k
      (case a => k_is); (case l => k_is); (case c => k_is); (case k => k_is)
    have f_times : L2.FunAt (L2.KOf KX) mg "times" ["a", "b"] My.s_times := by
      dsimp only [L2.KOf]
      refine' L2.funAt_mk KX G (fun _ _ _ _ _ _ us hl => match us, hl with | [_, _], _ => rfl) ?a ?l ?c ?k
      (case a => k_is); (case l => k_is); (case c => k_is); (case k => k_is)
    have f_parted : L2.FunAt (L2.KOf KX) mg "parted" ["top", "bottoms"] My.s_parted := by
      dsimp only [L2.KOf]
      refine' L2.funAt_mk KX G (fun _ _ _ _ _ _ us hl => match us, hl with | [_, _], _ => rfl) ?a ?l ?c ?k
      (case a => k_is); (case l => k_is); (case c => k_is); (case k => k_is)
    have f_ask_as_many : L2.FunAt (L2.KOf KX) mg "ask_as_many" ["one", "other"] My.s_ask_as_many := by
      dsimp only [L2.KOf]
      refine' L2.funAt_mk KX G (fun _ _ _ _ _ _ us hl => match us, hl with | [_, _], _ => rfl) ?a ?l ?c ?k
      (case a => k_is); (case l => k_is); (case c => k_is); (case k => k_is)
    have f_drawn : L2.FunAt (L2.KOf KX) mg "drawn" ["n", "many"] My.s_drawn := by
      dsimp only [L2.KOf]
      refine' L2.funAt_mk KX G (fun _ _ _ _ _ _ us hl => match us, hl with | [_, _], _ => rfl) ?a ?l ?c ?k
      (case a => k_is); (case l => k_is); (case c => k_is); (case k => k_is)
    have f_rows_up_to : L2.FunAt (L2.KOf KX) mg "rows_up_to" ["rank", "many"] My.s_rows_up_to := by
      dsimp only [L2.KOf]
      refine' L2.funAt_mk KX G (fun _ _ _ _ _ _ us hl => match us, hl with | [_, _], _ => rfl) ?a ?l ?c ?k
      (case a => k_is); (case l => k_is); (case c => k_is); (case k => k_is)
    have f_unlike : L2.FunAt (L2.KOf KX) mg "unlike" ["n", "many"] My.s_unlike := by
      dsimp only [L2.KOf]
      refine' L2.funAt_mk KX G (fun _ _ _ _ _ _ us hl => match us, hl with | [_, _], _ => rfl) ?a ?l ?c ?k
      (case a => k_is); (case l => k_is); (case c => k_is); (case k => k_is)
    have f_sets : L2.FunAt (L2.KOf KX) mg "sets" ["things", "many"] My.s_sets := by
      dsimp only [L2.KOf]
      refine' L2.funAt_mk KX G (fun _ _ _ _ _ _ us hl => match us, hl with | [_, _], _ => rfl) ?a ?l ?c ?k
      (case a => k_is); (case l => k_is); (case c => k_is); (case k => k_is)
    have f_mixed : L2.FunAt (L2.KOf KX) mg "mixed" ["share", "one", "other"] My.s_mixed := by
      dsimp only [L2.KOf]
      refine' L2.funAt_mk KX G (fun _ _ _ _ _ _ us hl => match us, hl with | [_, _, _], _ => rfl) ?a ?l ?c ?k
      (case a => k_is); (case l => k_is); (case c => k_is); (case k => k_is)
    have f_fuller_at : L2.FunAt (L2.KOf KX) mg "fuller_at" ["one", "other"] My.s_fuller_at := by
      dsimp only [L2.KOf]
      refine' L2.funAt_mk KX G (fun _ _ _ _ _ _ us hl => match us, hl with | [_, _], _ => rfl) ?a ?l ?c ?k
      (case a => k_is); (case l => k_is); (case c => k_is); (case k => k_is)
    have f_parting : L2.FunAt (L2.KOf KX) mg "parting" ["one", "other"] My.s_parting := by
      dsimp only [L2.KOf]
      refine' L2.funAt_mk KX G (fun _ _ _ _ _ _ us hl => match us, hl with | [_, _], _ => rfl) ?a ?l ?c ?k
      (case a => k_is); (case l => k_is); (case c => k_is); (case k => k_is)
    have f_l_pen : L2.FunAt (L2.KOf KX) mg "_law_pen" ["_law_script"] My.s_l_pen := by
      dsimp only [L2.KOf]
      refine' L2.funAt_mk KX G (fun _ _ _ _ _ _ us hl => match us, hl with | [_], _ => rfl) ?a ?l ?c ?k
      (case a => k_is); (case l => k_is); (case c => k_is); (case k => k_is)
    have f_l_take : L2.FunAt (L2.KOf KX) mg "_law_take" ["_law_pen_here", "_law_many"] My.s_l_take := by
      dsimp only [L2.KOf]
      refine' L2.funAt_mk KX G (fun _ _ _ _ _ _ us hl => match us, hl with | [_, _], _ => rfl) ?a ?l ?c ?k
      (case a => k_is); (case l => k_is); (case c => k_is); (case k => k_is)
    have f_l_share : L2.FunAt (L2.KOf KX) mg "_law_share" ["_law_top", "_law_bottom"] My.s_l_share := by
      dsimp only [L2.KOf]
      refine' L2.funAt_mk KX G (fun _ _ _ _ _ _ us hl => match us, hl with | [_, _], _ => rfl) ?a ?l ?c ?k
      (case a => k_is); (case l => k_is); (case c => k_is); (case k => k_is)
    have f_l_sum : L2.FunAt (L2.KOf KX) mg "_law_sum" ["_law_some"] My.s_l_sum := by
      dsimp only [L2.KOf]
      refine' L2.funAt_mk KX G (fun _ _ _ _ _ _ us hl => match us, hl with | [_], _ => rfl) ?a ?l ?c ?k
      (case a => k_is); (case l => k_is); (case c => k_is); (case k => k_is)
    have f_l_weights : L2.FunAt (L2.KOf KX) mg "_law_weights" ["_law_pen_here", "_law_boxes"] My.s_l_weights := by
      dsimp only [L2.KOf]
      refine' L2.funAt_mk KX G (fun _ _ _ _ _ _ us hl => match us, hl with | [_, _], _ => rfl) ?a ?l ?c ?k
      (case a => k_is); (case l => k_is); (case c => k_is); (case k => k_is)
    have f_l_rule : L2.FunAt (L2.KOf KX) mg "_law_rule" ["_law_weights_here"] My.s_l_rule := by
      dsimp only [L2.KOf]
      refine' L2.funAt_mk KX G (fun _ _ _ _ _ _ us hl => match us, hl with | [_], _ => rfl) ?a ?l ?c ?k
      (case a => k_is); (case l => k_is); (case c => k_is); (case k => k_is)
    have f_l_behind : L2.FunAt (L2.KOf KX) mg "_law_behind" ["_law_pen_here", "_law_weights_here"] My.s_l_behind := by
      dsimp only [L2.KOf]
      refine' L2.funAt_mk KX G (fun _ _ _ _ _ _ us hl => match us, hl with | [_, _], _ => rfl) ?a ?l ?c ?k
      (case a => k_is); (case l => k_is); (case c => k_is); (case k => k_is)
    have f_l_near : L2.FunAt (L2.KOf KX) mg "_law_near" ["_law_pen_here"] My.s_l_near := by
      dsimp only [L2.KOf]
      refine' L2.funAt_mk KX G (fun _ _ _ _ _ _ us hl => match us, hl with | [_], _ => rfl) ?a ?l ?c ?k
      (case a => k_is); (case l => k_is); (case c => k_is); (case k => k_is)
    have f_l_pair : L2.FunAt (L2.KOf KX) mg "_law_pair" ["_law_pen_here"] My.s_l_pair := by
      dsimp only [L2.KOf]
      refine' L2.funAt_mk KX G (fun _ _ _ _ _ _ us hl => match us, hl with | [_], _ => rfl) ?a ?l ?c ?k
      (case a => k_is); (case l => k_is); (case c => k_is); (case k => k_is)
    have f_l_due : L2.FunAt (L2.KOf KX) mg "_law_due" ["_law_one", "_law_other"] My.s_l_due := by
      dsimp only [L2.KOf]
      refine' L2.funAt_mk KX G (fun _ _ _ _ _ _ us hl => match us, hl with | [_, _], _ => rfl) ?a ?l ?c ?k
      (case a => k_is); (case l => k_is); (case c => k_is); (case k => k_is)
    have f_l_right : L2.FunAt (L2.KOf KX) mg "_law_right" ["_law_one", "_law_other"] My.s_l_right := by
      dsimp only [L2.KOf]
      refine' L2.funAt_mk KX G (fun _ _ _ _ _ _ us hl => match us, hl with | [_, _], _ => rfl) ?a ?l ?c ?k
      (case a => k_is); (case l => k_is); (case c => k_is); (case k => k_is)
    have f_l_is_refused : L2.FunAt (L2.KOf KX) mg "_law_is_refused" ["_law_ask", "_law_one", "_law_other"] My.s_l_is_refused := by
      dsimp only [L2.KOf]
      refine' L2.funAt_mk KX G (fun _ _ _ _ _ _ us hl => match us, hl with | [_, _, _], _ => rfl) ?a ?l ?c ?k
      (case a => k_is); (case l => k_is); (case c => k_is); (case k => k_is)
    refine' My.all_mk KX G hmg T (My.errN_mk KX G ?n ?n0 ?n1 ?n2 ?n3 ?n4 ?n5 ?n6 ?n7 ?n8) ?q2 ⟨f_measure, f_plus, f_minus, f_times, f_parted, f_ask_as_many, f_drawn, f_rows_up_to, f_unlike, f_sets, f_mixed, f_fuller_at, f_parting, f_l_pen, f_l_take, f_l_share, f_l_sum, f_l_weights, f_l_rule, f_l_behind, f_l_near, f_l_pair, f_l_due, f_l_right, f_l_is_refused⟩ ?a3 ?l3 ?c3 ?k3
    (case n => k_is); (case n0 => k_is); (case n1 => k_is); (case n2 => k_is); (case n3 => k_is); (case n4 => k_is); (case n5 => k_is); (case n6 => k_is); (case n7 => k_is); (case n8 => k_is)
    (case q2 => kernel_rfl)
    (case a3 => k_is); (case l3 => k_is); (case c3 => k_is); (case k3 => k_is)

