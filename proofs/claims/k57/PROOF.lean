import PyProof.Rows.All
import KE.KRevIter
import PyProof.FactsAll.range_2
import Wide.All
import OpenK.AllK
import Wide.FinOn
import PyProof.EqAt
import PyProof.EqKinds
import PyProof.NeKinds
import PyProof.TupleCall
import PyProof.CompFree
import PyProof.CompMap
import PyProof.ReprRoads
import PyProof.CallFns
import PyProof.ReprBulk
import PyProof.CompUse
import KE.KRevSl
import PyProof.Rows.SetFrom
import PyProof.AttrMissSeq
import KE.KDictOf
import PyProof.DictUpdate
import PyProof.ListRange
import PyProof.Rows.SumAny
import PyProof.Rows.SortRev
import PyProof.Rows.CallKwBuiltin
import PyProof.ListMulAny
import PyProof.TupleOps
import PyProof.ZipIter
import PyProof.Draws
import PyProof.TupleIter
import PyProof.EnumMake
import PyProof.DictCompW
import PyProof.DictItems
import PyProof.DictItemsLoops
import PyProof.ExcAttrAll.ValueError
import KE.KTryMore
import KE.KLam
import KE.KTupSum
import KE.KMinKey
import PyProof.FactsAll.tuple_0
import PyProof.FactsAll.tuple_2
import PyProof.FactsAll.tuple_3
import KE.KSortTup
import PyProof.DictValues
import PyProof.DictWalks
import PyProof.SumWalkG
import PyProof.CollectWalk
import PyProof.FactsAll.dict_values
import KE.KDictList
import KE.KItemsList
import PyProof.TupleKey
import PyProof.DictDisplay
import PyProof.DictTable
import PyProof.ReprDict
import PyProof.ReprNest
import PyProof.ReprReads
import PySem.Challenge.RW_emptierbox_k57_a_room
set_option Elab.async false
set_option linter.all false
set_option maxRecDepth 100000
set_option maxHeartbeats 4000000
set_option Elab.async false
set_option linter.all false
set_option maxRecDepth 100000
set_option maxHeartbeats 0
namespace L2
open PySem PySem.W PyProof.Rows
theorem headK {r : OpenRow} {q : Program} {H : Hook} {N : Nat} {d : DefRec}
    (top : LeftO r.prog q [] (fun s => xlAt q [] s && recOk r.toRowW.records s) H.obs H.val N)
    (at0 : defOf q r.name = some (d, [])) (here : r.prog.theDef r.name = some (d.params, d.body, d.scope)) (kwd : kwWritten? d.params.kwonlyargs d.params.kw_defaults = some [])
    (writ : (!r.writes || r.records.isEmpty) = true) (said : r.wellSaid = true) (looks : (chainsOk q && opensWell r.prog && (frees r.toRowW && r.within.isEmpty)) = true) (bare : r.prog.bare)
    (prom : r.toRowW.promised) (walk : WalkO q [] (XL q []) H.says r.toRowW d [] fun f vs => PySem.call f vs) : r.Holds :=
  holds_open top H.of H.keeps (fun s e => xl_of s (Bool.and_eq_true_iff.mp e).1) XL.keeps at0 here kwd (fun s e => recFacts_of (Bool.and_eq_true_iff.mp e).2) writ said looks bare prom walk
end L2
noncomputable def My.topv (i : Nat) : PySem.Stmt := PySem.Challenge.pw_emptierbox_k57_a_room.main.body.getD i (.Pass ⟨0, 0, 0, 0⟩)
noncomputable def My.qv : PySem.Program := { PySem.Challenge.pw_emptierbox_k57_a_room with main := { PySem.Challenge.pw_emptierbox_k57_a_room.main with body := [My.topv 1, My.topv 3, My.topv 4, My.topv 5, My.topv 6, My.topv 7, My.topv 8, My.topv 9, My.topv 10, My.topv 11, My.topv 12, My.topv 14, My.topv 16, My.topv 18, My.topv 19, My.topv 21, My.topv 22, My.topv 23, My.topv 24, My.topv 25, My.topv 26, My.topv 27, My.topv 28, My.topv 29, My.topv 30, My.topv 31, My.topv 32, My.topv 33, My.topv 34] } }
section
open PySem PySem.W PyProof.Rows
local macro_rules | `(tactic| o_head $H) => do
  let hw := Lean.mkIdent `hw
  let hc := Lean.mkIdent `hc
  `(tactic| (refine L2.headK (q := My.qv) (H := $H) (N := 9000) ?_ rfl rfl rfl rfl (by assumption) (by decide +kernel) ⟨rfl, rfl, rfl, rfl, rfl, by decide +kernel⟩ ?$hw ?$hc; (focus intro w; kernel_rfl)))
open_top My.hd for PySem.Challenge.rw_emptierbox_k57_a_room
end

namespace MA
end MA

set_option Elab.async false
set_option linter.all false
set_option maxRecDepth 100000
set_option maxHeartbeats 4000000
/-! THE HAND LAYER, for ints, bools, texts, own classes, LISTS and tuples (index, slices, in, append, pop ..), calls, loops. Paste it whole ahead of your own text; what your proof does not reach may be deleted. -/
namespace L2
open PySem PySem.Spec PyProof.Rows

/-- a key: an int or a str -/
noncomputable abbrev Key := Sum Int Str
noncomputable def keyIs : Key → Value → Bool
  | .inl k, v => Value.isInt k v
  | .inr x, v => Value.isStrOf x v
noncomputable def keyH (w : World) : Key → Int
  | .inl k => hashInt k
  | .inr x => hashStr w x
theorem keyIs_shape : ∀ {k : Key} {v : Value}, keyIs k v = true → (∃ i t, k = Sum.inl i ∧ v = Value.int i t) ∨ (∃ x t, k = Sum.inr x ∧ v = Value.str x t)
  | .inl i, v, h => by
    obtain ⟨t, e⟩ := Value.isInt_shape (k := i) (v := v) h
    exact .inl ⟨i, t, rfl, e⟩
  | .inr x, v, h => by
    obtain ⟨t, e⟩ := Value.isStrOf_shape (x := x) (v := v) h
    exact .inr ⟨x, t, rfl, e⟩
theorem keyIs_int (i : Int) (t : Tok) : keyIs (.inl i) (.int i t) = true := by simp [keyIs, Value.isInt]
theorem keyIs_str (x : Str) (t : Tok) : keyIs (.inr x) (.str x t) = true := by simp [keyIs, Value.isStrOf]
theorem key_ll (a b : Int) : decide ((Sum.inl a : Key) = Sum.inl b) = (a == b) := by
  by_cases e : a = b
  · subst e; simp
  · have h : ¬ (Sum.inl a : Key) = Sum.inl b := fun q => e (Sum.inl.inj q)
    rw [decide_eq_false h]
    exact (beq_eq_false_iff_ne.mpr e).symm
theorem key_rr (a b : Str) : decide ((Sum.inr a : Key) = Sum.inr b) = decide (a = b) := by
  by_cases e : a = b
  · subst e; simp
  · have h : ¬ (Sum.inr a : Key) = Sum.inr b := fun q => e (Sum.inr.inj q)
    rw [decide_eq_false h, decide_eq_false e]
theorem key_lr (a : Int) (b : Str) : decide ((Sum.inl a : Key) = Sum.inr b) = false := decide_eq_false (fun q => nomatch q)
theorem key_rl (a : Str) (b : Int) : decide ((Sum.inr a : Key) = Sum.inl b) = false := decide_eq_false (fun q => nomatch q)

noncomputable def mixKind (prog : Program) (w : World) : PySem.KeyKind prog w Key where
  is := keyIs
  hash := keyH w
  inj := fun v a b ha hb => by
    rcases keyIs_shape ha with ⟨i, t, rfl, rfl⟩ | ⟨x, t, rfl, rfl⟩
    · rcases keyIs_shape hb with ⟨j, u, rfl, e⟩ | ⟨y, u, rfl, e⟩
      · injection e with e1 _; rw [e1]
      · exact nomatch e
    · rcases keyIs_shape hb with ⟨j, u, rfl, e⟩ | ⟨y, u, rfl, e⟩
      · exact nomatch e
      · injection e with e1 _; rw [e1]
  byValue := fun k v h => by
    rcases keyIs_shape h with ⟨i, t, rfl, rfl⟩ | ⟨x, t, rfl, rfl⟩ <;> rfl
  pyHash := fun hv h => by
    rcases keyIs_shape hv with ⟨i, t, rfl, rfl⟩ | ⟨x, t, rfl, rfl⟩
    · exact wpAny_pyHash_int h
    · exact wpAny_pyHash_str h
  eqBool := fun hu hv h => by
    rcases keyIs_shape hu with ⟨i, t, rfl, rfl⟩ | ⟨x, t, rfl, rfl⟩
    · rcases keyIs_shape hv with ⟨j, u, rfl, rfl⟩ | ⟨y, u, rfl, rfl⟩
      · rw [key_ll] at h; exact wpAny_eqBool_int h
      · rw [key_lr] at h; exact SeqAt.EqAt.int_str i t y u _ _ _ _ h
    · rcases keyIs_shape hv with ⟨j, u, rfl, rfl⟩ | ⟨y, u, rfl, rfl⟩
      · rw [key_rl] at h; exact SeqAt.EqAt.str_int x t j u _ _ _ _ h
      · rw [key_rr] at h; exact wpAny_eqBool_str h
  «strs» := fun k x t v h => by
    rcases keyIs_shape h with ⟨i, u, rfl, e⟩ | ⟨y, u, rfl, e⟩
    · exact nomatch e
    · injection e with e1 _
      subst e1
      cases v <;> rfl

theorem mixKind_int (prog : Program) (w : World) (i : Int) (t : Tok) : (mixKind prog w).is (.inl i) (.int i t) = true := keyIs_int i t
theorem mixKind_str (prog : Program) (w : World) (x : Str) (t : Tok) : (mixKind prog w).is (.inr x) (.str x t) = true := keyIs_str x t
end L2

namespace L2
open PySem PySem.Spec PyProof.Rows

/-- a value, without the heap -/
inductive V where
  | non | bl (b : Bool) | int (i : Int) | str (x : Str) | byt (b : Array UInt8) | flt (b : UInt64) | ref (a : Addr) | ty (n : String)
  deriving DecidableEq

noncomputable def RelV : V → Value → Prop
  | .non, u => u = Value.none
  | .bl b, u => u = Value.bool b
  | .int i, u => ∃ t, u = Value.int i t
  | .str x, u => ∃ t, u = Value.str x t
  | .byt b, u => ∃ t, u = Value.bytes b t
  | .flt b, u => ∃ t, u = Value.float b t
  | .ref a, u => u = Value.ref a
  | .ty n, u => u = Value.type n

noncomputable abbrev Vals : List V → List Value → Prop := Paired RelV
theorem Vals.length {xs : List V} {us : List Value} (r : Vals xs us) : xs.length = us.length := Paired.length r
theorem Vals.get : ∀ {xs : List V} {us : List Value} {i : Nat} {x : V}, Vals xs us → xs[i]? = some x → ∃ u, us[i]? = some u ∧ RelV x u
  | _, _, _, _, .nil, e => by simp at e
  | _, _, 0, _, .cons r _, e => by simp at e; subst e; exact ⟨_, rfl, r⟩
  | _, _, i + 1, x, .cons _ t, e => by
    obtain ⟨u, h1, h2⟩ := Vals.get (i := i) (x := x) t (by simpa using e)
    exact ⟨u, by simpa using h1, h2⟩
theorem Vals.set {x : V} {u : Value} (r : RelV x u) : ∀ {xs : List V} {us : List Value} (i : Nat), Vals xs us → Vals (xs.set i x) (us.set i u)
  | _, _, _, .nil => .nil
  | _, _, 0, .cons _ t => .cons r t
  | _, _, i + 1, .cons q t => .cons q (Vals.set r i t)
theorem Vals.append : ∀ {xs ys : List V} {us ws : List Value}, Vals xs us → Vals ys ws → Vals (xs ++ ys) (us ++ ws)
  | _, _, _, _, .nil, s => s
  | _, _, _, _, .cons r t, s => .cons r (Vals.append t s)
theorem Vals.take : ∀ {xs : List V} {us : List Value} (n : Nat), Vals xs us → Vals (xs.take n) (us.take n)
  | _, _, 0, _ => .nil
  | _, _, _ + 1, .nil => .nil
  | _, _, n + 1, .cons r t => .cons r (Vals.take n t)
theorem Vals.drop : ∀ {xs : List V} {us : List Value} (n : Nat), Vals xs us → Vals (xs.drop n) (us.drop n)
  | _, _, 0, r => r
  | _, _, _ + 1, .nil => .nil
  | _, _, n + 1, .cons _ t => Vals.drop n t
noncomputable def RelO : Option V → Option Value → Prop
  | some v, some u => RelV v u
  | none, none => True
  | _, _ => False
noncomputable def KV {κ : Type} : List (κ × V) → List (κ × Value) → Prop := Paired fun (p : κ × V) (q : κ × Value) => p.1 = q.1 ∧ RelV p.2 q.2

/-- a key of a dict (00_mix): an int or a text -/
noncomputable def kV : Key → V
  | .inl i => .int i
  | .inr x => .str x

/-- what stands at a tracked address -/
inductive HO where
  /-- a list -/
  | lst (xs : List V)
  /-- a tuple (never changes) -/
  | tup (xs : List V)
  /-- a dict whose keys are ints and texts; one whose keys are tuples of ints and texts (the empty one is both) -/
  | dK (kvs : List (Key × V)) | dT (kvs : List (List Key × V))
  /-- a set of ints: its members, its size -/
  | set (S : Int → Bool) (n : Nat)
  /-- an instance of the class at C, its dict at dx, its attributes -/
  | ins (C dx : Addr) (fs : List (Str × V))
  /-- the dict of the instance at x -/
  | own (x : Addr)
  /-- the dict of an exception -/
  | xd (fs : List (Str × V))
  /-- a bound method, f of x -/
  | met (f x : Addr)
  /-- a range object lo, lo + 1, .. below hi -/
  | rng (lo hi : Int)
  /-- a thing that is known to the object (the script; a dict while a loop walks it): read, never written while it is so -/
  | frz (o : Obj) (u : HO)
  /-- a code object's table -/
  | tbl (ps : Array Value)
  /-- the table of the lambdas of a def, whose qualname is q -/
  | tab (q : Str)
  /-- any other thing, by what is true of its one object (a def of one's own: SetO a S n := HO.ext fun h => ..) -/
  | ext (φ : Heap → Prop)

noncomputable abbrev Hp := Addr → Option HO
noncomputable def upd (H : Hp) (a : Addr) (o : HO) : Hp := fun b => if b = a then some o else H b
theorem upd_same {H : Hp} {a : Addr} {o : HO} : upd H a o a = some o := by unfold upd; rw [if_pos rfl]
theorem upd_ne {H : Hp} {a b : Addr} {o : HO} (h : b ≠ a) : upd H a o b = H b := by unfold upd; rw [if_neg h]
theorem upd_upd {H : Hp} {a : Addr} {o u : HO} : upd (upd H a o) a u = upd H a u := by
  funext b; unfold upd; split <;> rfl
/-- two objects of different content stand apart -/
theorem ne_of {H : Hp} {a b : Addr} {o u : HO} (h : H a = some o) (h' : H b = some u) (d : o ≠ u) : a ≠ b := by
  intro e; subst e; rw [h] at h'; exact d (Option.some.inj h')
theorem ne_of_none {H : Hp} {a b : Addr} {o : HO} (h : H a = some o) (h' : H b = none) : a ≠ b := by
  intro e; subst e; rw [h] at h'; cases h'

/-- a tuple, with no dict of its own -/
noncomputable def IsTupN (h : Heap) (a : Addr) (items : Array Value) : Prop := ∃ o, h.get? a = some o ∧ o.cls = .type "tuple" ∧ ∃ n, o.data = .seq items n ∧ o.dict = none
theorem IsTupN.tup {h : Heap} {a : Addr} {items : Array Value} (x : IsTupN h a items) : PyProof.Rows.IsTup h a items := let ⟨o, e, c, n, d, _⟩ := x; ⟨o, e, c, n, d⟩
theorem IsTupN.new (h : Heap) (items : Array Value) : IsTupN (h.push { cls := .type "tuple", data := .seq items }) h.objs.size items := ⟨_, Heap.get?_push_size _ rfl, rfl, _, rfl, rfl⟩
theorem IsTupN.lt {h : Heap} {a : Addr} {items : Array Value} (x : IsTupN h a items) : a < h.objs.size := let ⟨_, e, _⟩ := x; Heap.lt_size e

section
variable (P : Program) (w : World)
noncomputable def ObjOk (H : Hp) (h : Heap) (a : Addr) : HO → Prop
  | .lst xs => xs.length ≤ sizeLine ∧ ∃ (its : List Value) (n : Nat), Vals xs its ∧ h.get? a = some { cls := .type "list", data := .seq its.toArray n }
  | .tup xs => xs.length ≤ sizeLine ∧ ∃ its : List Value, Vals xs its ∧ IsTupN h a its.toArray
  | .dK kvs => kvs.length ≤ sizeLine ∧ (a == sysModules) = false ∧ ∃ vs, KV kvs vs ∧ h.DictOf (mixKind P w) a vs
  | .dT kvs => kvs.length ≤ sizeLine ∧ (a == sysModules) = false ∧ ∃ xs : List (List Key × Addr × Value),
      Paired (fun (p : List Key × V) (q : List Key × Addr × Value) => p.1 = q.1 ∧ H q.2.1 = some (.tup (p.1.map kV)) ∧ RelV p.2 q.2.2) kvs xs ∧
      ∃ o es ep, h.get? a = some o ∧ o.ExactDict ∧ o.data = .dict es ep ∧ es.toList = xs.map (entryOfKey (tupleKind (mixKind P w))) ∧ (xs.map (·.1)).Nodup
  | .set S n => h.SetOf (intKind P w) a S n
  | .ins C dx fs => H dx = some (.own a) ∧ fs.length ≤ 1000 ∧ dx ≠ a ∧ h.get? a = some (PySem.W.instObj C dx) ∧
      ∃ mA, h.Ns1 dx mA ∧ (∀ f, RelO (fs.lookup f) (mA f)) ∧ PySem.Within mA (fs.map (·.1))
  | .own _ => ∃ o, h.get? a = some o
  | .xd fs => ∃ mA, h.Ns1 a mA ∧ ∀ f, RelO (fs.lookup f) (mA f)
  | .rng lo hi => ∃ t u v, h.get? a = some { cls := .type "range", data := .fields #[.int lo t, .int hi u, .int 1 v] }
  | .frz o u => h.get? a = some o ∧ ObjOk H h a u
  | .tbl ps => h.get? a = some { cls := .none, data := .fields ps }
  | .tab q => ∃ ps : Array Value, h.get? a = some { cls := .none, data := .fields ps } ∧ TriplesOk ps.toList ∧ ∀ pos cv, codeAmong pos ps.toList = some cv →
      ∃ c oc vs t, cv = .ref c ∧ H c = some (.frz oc (.own 0)) ∧ oc.data = .fields vs ∧ vs[1]? = some (.str q t)
  | .met f x => h.get? a = some (PySem.W.methodObj (.ref f) (.ref x))
  | .ext φ => φ h ∧ (∃ o, h.get? a = some o) ∧ ∀ h1 h2 : Heap, φ h1 → (∀ o, h1.get? a = some o → h2.get? a = some o) → φ h2
/-- the abstract heap is held -/
noncomputable def HOk (H : Hp) (h : Heap) : Prop := ∀ a o, H a = some o → ObjOk P w H h a o
end

section
variable {P : Program} {w : World} {H H' : Hp} {h h' : Heap} {a : Addr} {o : HO}
theorem ObjOk.lt (x : ObjOk P w H h a o) : a < h.objs.size := by
  cases o with
  | lst xs => obtain ⟨_, _, _, _, e⟩ := x; exact Heap.lt_size e
  | tup xs => obtain ⟨_, _, _, p⟩ := x; exact p.lt
  | dK kvs => obtain ⟨_, _, _, _, o, _, _, e, _⟩ := x; exact Heap.lt_size e
  | dT kvs => obtain ⟨_, _, _, _, o, _, _, e, _⟩ := x; exact Heap.lt_size e
  | set S n => obtain ⟨o, _, _, _, e, _⟩ := x; exact Heap.lt_size e
  | ins C dx fs => obtain ⟨_, _, _, e, _⟩ := x; exact Heap.lt_size e
  | own y => obtain ⟨_, e⟩ := x; exact Heap.lt_size e
  | xd fs => obtain ⟨_, ⟨_, _, _, e, _⟩, _⟩ := x; exact Heap.lt_size e
  | rng lo hi => obtain ⟨_, _, _, e⟩ := x; exact Heap.lt_size e
  | frz ob u => obtain ⟨e, _⟩ := x; exact Heap.lt_size e
  | tbl ps => exact Heap.lt_size (show h.get? a = some _ from x)
  | tab q => obtain ⟨_, e, _⟩ := x; exact Heap.lt_size e
  | met f y => exact Heap.lt_size (show h.get? a = some _ from x)
  | ext φ => obtain ⟨_, ⟨_, e⟩, _⟩ := x; exact Heap.lt_size e
theorem Paired.mapP {α β : Type} {F G : α → β → Prop} : ∀ {l₁ : List α} {l₂ : List β}, Paired F l₁ l₂ → (∀ a b, F a b → G a b) → Paired G l₁ l₂
  | _, _, .nil, _ => .nil
  | _, _, .cons r t, f => .cons (f _ _ r) (Paired.mapP t f)
/-- what an object's description leans on: its own object, its own dict, the tuples -/
theorem ObjOk.stay (x : ObjOk P w H h a o) (k : ∀ b u, (b = a ∨ H b = some (.own a)) → h.get? b = some u → h'.get? b = some u)
    (ho : ∀ b, H b = some (.own a) → H' b = some (.own a)) (ht : ∀ b xs, H b = some (.tup xs) → H' b = some (.tup xs)) (hz : ∀ b ob, H b = some (.frz ob (.own 0)) → H' b = some (.frz ob (.own 0)) := by exact fun _ _ q => q) : ObjOk P w H' h' a o := by
  induction o with
  | lst xs => obtain ⟨z, its, n, r, e⟩ := x; exact ⟨z, its, n, r, k _ _ (.inl rfl) e⟩
  | tup xs => obtain ⟨z, its, r, ob, e, c⟩ := x; exact ⟨z, its, r, ob, k _ _ (.inl rfl) e, c⟩
  | dK kvs => obtain ⟨z, y, vs, r, ob, es, ep, e, c⟩ := x; exact ⟨z, y, vs, r, ob, es, ep, k _ _ (.inl rfl) e, c⟩
  | dT kvs =>
    obtain ⟨z, y, xs, r, ob, es, ep, e, c⟩ := x
    exact ⟨z, y, xs, Paired.mapP r fun p q z => ⟨z.1, ht _ _ z.2.1, z.2.2⟩, ob, es, ep, k _ _ (.inl rfl) e, c⟩
  | set S n => obtain ⟨ob, es, ep, t, e, c⟩ := x; exact ⟨ob, es, ep, t, k _ _ (.inl rfl) e, c⟩
  | ins C dx fs =>
    obtain ⟨d, z, ne, e, mA, ⟨od, es, ep, e2, c⟩, r⟩ := x
    exact ⟨ho _ d, z, ne, k _ _ (.inl rfl) e, mA, ⟨od, es, ep, k _ _ (.inr d) e2, c⟩, r⟩
  | own y => obtain ⟨ob, e⟩ := x; exact ⟨ob, k _ _ (.inl rfl) e⟩
  | xd fs => obtain ⟨mA, ⟨od, es, ep, e, c⟩, r⟩ := x; exact ⟨mA, ⟨od, es, ep, k _ _ (.inl rfl) e, c⟩, r⟩
  | rng lo hi => obtain ⟨t, u, v, e⟩ := x; exact ⟨t, u, v, k _ _ (.inl rfl) e⟩
  | frz ob u ih => obtain ⟨e, q⟩ := x; exact ⟨k _ _ (.inl rfl) e, ih q⟩
  | tab q =>
    obtain ⟨ps, e, tr, cs⟩ := x
    refine ⟨ps, k a _ (.inl rfl) e, tr, fun pos cv hc => ?_⟩
    obtain ⟨c, oc, vs, t, h1, h2, h3⟩ := cs pos cv hc
    exact ⟨c, oc, vs, t, h1, hz c oc h2, h3⟩
  | tbl ps =>
    have e : h.get? a = some { cls := .none, data := .fields ps } := x
    show h'.get? a = some { cls := .none, data := .fields ps }
    exact k a _ (.inl rfl) e
  | met f y =>
    have e : h.get? a = some (PySem.W.methodObj (.ref f) (.ref y)) := x
    show h'.get? a = some (PySem.W.methodObj (.ref f) (.ref y))
    exact k a _ (.inl rfl) e
  | ext φ => obtain ⟨p, ⟨o, e⟩, st⟩ := x; exact ⟨st _ _ p fun o q => k _ _ (.inl rfl) q, ⟨o, k _ _ (.inl rfl) e⟩, st⟩
theorem HOk.lt (x : HOk P w H h) (e : H a = some o) : a < h.objs.size := (x a o e).lt
theorem HOk.fresh (x : HOk P w H h) (e : h.objs.size ≤ a) : H a = none := by
  cases q : H a with
  | none => rfl
  | some u => exact absurd (Nat.lt_of_lt_of_le (x.lt q) e) (Nat.lt_irrefl _)
/-- every object of the heap is kept -/
theorem HOk.kept (x : HOk P w H h) (k : ∀ b u, h.get? b = some u → h'.get? b = some u) : HOk P w H h' := fun a o e =>
  (x a o e).stay (fun b u _ q => k b u q) (fun _ q => q) fun _ _ q => q
/-- a new object is laid and tracked -/
theorem HOk.laid (x : HOk P w H h) (k : ∀ b u, h.get? b = some u → h'.get? b = some u) (hp : h.objs.size ≤ a) (new : ObjOk P w (upd H a o) h' a o) : HOk P w (upd H a o) h' := fun b u e => by
  have hn := x.fresh hp
  by_cases hb : b = a
  · subst hb; rw [upd_same] at e; cases e; exact new
  · rw [upd_ne hb] at e
    exact (x b u e).stay (fun c v _ q => k c v q) (fun c q => by rw [upd_ne (ne_of_none q hn)]; exact q) (fun c xs q => by rw [upd_ne (ne_of_none q hn)]; exact q) fun c ob q => by rw [upd_ne (ne_of_none q hn)]; exact q
end

/-- what may be read as u: it is u, or a known u -/
noncomputable def Rd (H : Hp) (a : Addr) (u : HO) : Prop := H a = some u ∨ ∃ o, H a = some (.frz o u)
theorem Rd.ok {P : Program} {w : World} {H : Hp} {h : Heap} {a : Addr} {u : HO} (r : Rd H a u) (x : HOk P w H h) : ObjOk P w H h a u := by
  rcases r with r | ⟨o, r⟩
  · exact x a u r
  · obtain ⟨_, q⟩ := x a _ r
    exact q
/-- what may be written -/
noncomputable def Mut : Option HO → Prop
  | some (.lst _) => True
  | some (.dK _) => True
  | some (.dT _) => True
  | some (.set _ _) => True
  | some (.ins _ _ _) => True
  | some (.ext _) => True
  | some (.tab _) => True
  | _ => False
section
variable {P : Program} {w : World} {H : Hp} {h h' : Heap} {x e : Addr} {o' : HO}
/-- the object at e is changed: x itself, or the dict of the instance x -/
theorem HOk.write (ok : HOk P w H h) (mu : Mut (H x)) (he : e = x ∨ H e = some (.own x)) (k : ∀ b u, b ≠ e → h.get? b = some u → h'.get? b = some u) (heo : ∃ u, h'.get? e = some u)
    (new : ObjOk P w (upd H x o') h' x o') : HOk P w (upd H x o') h' := fun b u q => by
  have nown : ∀ c y, H c = some (.own y) → c ≠ x := fun c y r z => by subst z; rw [r] at mu; exact mu
  have ntup : ∀ c xs, H c = some (.tup xs) → c ≠ x := fun c xs r z => by subst z; rw [r] at mu; exact mu
  by_cases hb : b = x
  · subst hb; rw [upd_same] at q; cases q; exact new
  · rw [upd_ne hb] at q
    by_cases hbe : b = e
    · have q' : H b = some (.own x) := by
        rcases he with z | z
        · exact absurd (hbe.trans z) hb
        · rw [hbe]; exact z
      rw [q] at q'; cases q'
      obtain ⟨v, hv⟩ := heo
      exact ⟨v, by rw [hbe]; exact hv⟩
    · refine (ok b u q).stay (fun c v hc r => k c v ?_ r) (fun c r => by rw [upd_ne (nown c b r)]; exact r) (fun c xs r => by rw [upd_ne (ntup c xs r)]; exact r) (fun c ob r => by rw [upd_ne (fun z => by subst z; rw [r] at mu; exact mu)]; exact r)
      rcases hc with rfl | hc
      · exact hbe
      · rintro rfl
        rcases he with z | z
        · exact nown c b hc z
        · rw [hc] at z; cases z; exact hb rfl
end

/-! ### kept unless tracked; of the frames at fs (the callers') the slots may change (an exception that passes writes there); of the records at ex (iterators) nothing is said -/
structure Un (fs ex : List Addr) (H H' : Hp) (h h' : Heap) : Prop where
  keep : ∀ b o, h.get? b = some o → H b = none → b ∉ fs → b ∉ ex → h'.get? b = some o
  slot : ∀ b o, h.get? b = some o → H b = none → b ∈ fs → b ∉ ex → ∃ sl, h'.get? b = some { o with slots := sl }
  free : ∀ b o, h.get? b = some o → H b = none → b ∉ ex → H' b = none
  there : ∀ b o, h.get? b = some o → b ∉ ex → ∃ o', h'.get? b = some o'
  tups : ∀ b xs, H b = some (.tup xs) → H' b = some (.tup xs)
  frzs : ∀ b o u, H b = some (.frz o u) → H' b = some (.frz o u)
  tbls : ∀ b ps, H b = some (.tbl ps) → ∃ more, H' b = some (.tbl (ps ++ more))
section
variable {fs fs' ex ex' : List Addr} {H H1 H2 : Hp} {h h1 h2 h' : Heap} {a x e : Addr} {o : HO}
theorem Un.any (u : Un fs ex H H1 h h1) {b : Addr} {ob : Obj} (q : h.get? b = some ob) (n : H b = none) (hx : b ∉ ex) : ∃ sl, h1.get? b = some { ob with slots := sl } := by
  by_cases hb : b ∈ fs
  · exact u.slot b ob q n hb hx
  · exact ⟨ob.slots, u.keep b ob q n hb hx⟩
theorem Un.kept (k : ∀ b u, h.get? b = some u → h'.get? b = some u) : Un fs ex H H h h' :=
  ⟨fun b ob q _ _ _ => k b ob q, fun b ob q _ _ _ => ⟨ob.slots, k b ob q⟩, fun _ _ _ n _ => n, fun b ob q _ => ⟨ob, k b ob q⟩, fun _ _ q => q, fun _ _ _ q => q, fun _ ps q => ⟨#[], by rw [q]; simp⟩⟩
theorem Un.refl : Un fs ex H H h h := Un.kept fun _ _ q => q
theorem Un.laid (k : ∀ b u, h.get? b = some u → h'.get? b = some u) (hp : h.objs.size ≤ a) (hn : H a = none) : Un fs ex H (upd H a o) h h' where
  keep := fun b u q _ _ _ => k b u q
  slot := fun b u q _ _ _ => ⟨u.slots, k b u q⟩
  free := fun b u q n _ => by rw [upd_ne (Nat.ne_of_lt (Nat.lt_of_lt_of_le (Heap.lt_size q) hp))]; exact n
  there := fun b u q _ => ⟨u, k b u q⟩
  tups := fun b xs q => by rw [upd_ne (ne_of_none q hn)]; exact q
  frzs := fun b u xs q => by rw [upd_ne (ne_of_none q hn)]; exact q
  tbls := fun b ps q => ⟨#[], by rw [upd_ne (ne_of_none q hn), q]; simp⟩
theorem Un.write (mu : Mut (H x)) (he : e = x ∨ H e = some (.own x)) (k : ∀ b u, b ≠ e → h.get? b = some u → h'.get? b = some u) (heo : ∃ u, h'.get? e = some u) : Un fs ex H (upd H x o) h h' := by
  have hx : ∀ b, H b = none → b ≠ x := fun b n z => by subst z; rw [n] at mu; exact mu
  have hb : ∀ b, H b = none → b ≠ e := fun b n z => by
    subst z
    rcases he with r | r
    · exact hx b n r
    · rw [n] at r; cases r
  have hm : ∀ b u, H b = some u → ¬ Mut (some u) → b ≠ x := fun b u q nm z => by subst z; rw [q] at mu; exact nm mu
  refine ⟨fun b u q n _ _ => k b u (hb b n) q, fun b u q n _ _ => ⟨u.slots, k b u (hb b n) q⟩, fun b u q n _ => by rw [upd_ne (hx b n)]; exact n, fun b u q _ => ?_,
    fun b xs q => by rw [upd_ne (hm b _ q fun z => z)]; exact q, fun b u xs q => by rw [upd_ne (hm b _ q fun z => z)]; exact q, fun b ps q => ⟨#[], by rw [upd_ne (hm b _ q fun z => z), q]; simp⟩⟩
  by_cases hbe : b = e
  · subst hbe; exact heo
  · exact ⟨u, k b u hbe q⟩
end

/-! ### the heap without what is tracked -/
noncomputable def trk (h : Heap) (H : Hp) : List Addr := (List.range h.objs.size).filter fun a => (H a).isSome
noncomputable def hidT (h : Heap) (H : Hp) : Heap := PySem.W.hideAll h (trk h H)
theorem hidT_size (h : Heap) (H : Hp) : (hidT h H).objs.size = h.objs.size := PySem.W.hideAll_size _ _
theorem hidT_get {h : Heap} {H : Hp} {b : Addr} {o : Obj} (e : h.get? b = some o) (n : H b = none) : (hidT h H).get? b = some o :=
  PySem.W.hideAll_get _ e fun hm => by
    have q : (H b).isSome = true := (List.mem_filter.mp hm).2
    rw [n] at q; simp at q
theorem of_hidT {h : Heap} {H : Hp} {b : Addr} {o : Obj} (e : (hidT h H).get? b = some o) : h.get? b = some o ∧ H b = none := by
  have e' : h.get? b = some o := PySem.W.of_hideAll (trk h H) e
  refine ⟨e', ?_⟩
  cases q : H b with
  | none => rfl
  | some x =>
    have hm : b ∈ trk h H := List.mem_filter.mpr ⟨List.mem_range.mpr (Heap.lt_size e'), by simp [q]⟩
    have z : (hidT h H).get? b = none := PySem.W.hideAll_none (trk h H) hm
    rw [z] at e; cases e

/-! ### OpenK's ledger, filled with every new object but one -/
end L2

namespace L2
open PySem PySem.Spec PyProof.Rows

/-- the module's facts, over the base: the heap at the law's entry without what is tracked there -/
structure Mod (K : PySem.W.Frag) (mg : Str → Option Value) (base : Heap) : Prop where
  kin : K.In base
  glob : base.Ns mainGlobals mg
  blt : ∃ mb, base.Ns builtinsNs mb ∧ ∀ x : Str, x ≠ "__name__" → mb x = bootBuiltins x
  nolimit : base.NoLimit

/-- the context: a def's body (or a comprehension's block) running. base: fixed through the whole law; s₀, H₀: the entry; outer: the frames whose slots others may change (a def's callers); stack: all frames that run;
   ex: iterators that were made ahead of the entry and are walked here (a comprehension's); fn: the names whose cells were made at the entry (a def: all; a comprehension's block: its own); calm: not within an except suite; pn: pins that every state bears; xe: what is wanted of an exception that leaves the code -/
structure Cx where
  prog : Program
  w : World
  K : PySem.W.Frag
  mg : Str → Option Value
  base : Heap
  A : Around
  N : List Str
  s₀ : Shared
  H₀ : Hp
  env : Env
  outer : List Env
  stack : List Env
  ex : List Addr
  fn : Str → Bool
  calm : Bool
  pn : List (Addr × Obj)
  xe : Value → Shared → Prop
/-- the callers' frames -/
noncomputable def frs (l : List Env) : List Addr := l.filterMap (·.frame)
noncomputable abbrev Cx.fs (X : Cx) : List Addr := frs X.outer

noncomputable def Vis (sc : Scope) (x : Str) : Prop := sc.names.lookup x = some .local ∨ sc.names.lookup x = some .cell ∨ sc.names.lookup x = some .free
noncomputable def Loc (sc : Scope) (x : Str) : Prop := sc.names.lookup x = some .local ∨ sc.names.lookup x = some .cell
noncomputable def Look (env : Env) (h : Heap) (m : Str → Option Value) (x : Str) (u : Value) : Prop :=
  (env.kindOf x = some .local ∧ m x = some u) ∨ ((env.kindOf x = some .cell ∨ env.kindOf x = some .free) ∧ ∃ c, env.cells.lookup x = some c ∧ h.IsCell c (some u))

structure Cx.Ok (X : Cx) : Prop where
  mod : Mod X.K X.mg X.base
  kind : X.env.scope.kind = .function
  glob : X.env.globals = mainGlobals
  blt : X.env.builtins = builtinsNs
  above : X.s₀.heap.objs.size ≤ X.env.locals
  inj : ∀ x y c, X.env.cells.lookup x = some c → X.env.cells.lookup y = some c → x = y
  has : ∀ x, (X.env.kindOf x = some .cell ∨ X.env.kindOf x = some .free) → ∃ c, X.env.cells.lookup x = some c
  cab : ∀ x c, X.fn x = true → X.env.cells.lookup x = some c → X.s₀.heap.objs.size ≤ c
  hd : X.calm = true → X.A.handled = none
  frames : X.A.frames = some X.stack
  stk : X.stack = X.outer ∨ (X.stack = X.env :: X.outer ∧ X.env.frame = some X.env.locals)
  exf : ∀ b ∈ X.ex, b ≠ X.env.locals ∧ ∀ x c, X.env.cells.lookup x = some c → c ≠ b
  bs : ∀ b o, X.base.get? b = some o → X.s₀.heap.get? b = some o ∧ X.H₀ b = none
  bsz : X.base.objs.size ≤ X.s₀.heap.objs.size
  noex : ∀ b o, X.base.get? b = some o → b ∉ X.ex
  exfs : ∀ b ∈ X.ex, b ∉ X.fs
  funs : X.s₀.heap.FunFrames X.base X.outer
  frf : ∀ b ∈ X.fs, X.H₀ b = none

structure Inv (X : Cx) (pins : List (Addr × Obj)) (σ : List (Option V)) (H : Hp) (s : Shared) : Prop where
  ok : X.Ok
  os : s.os = X.s₀.os
  bare : AllBare s.gens
  base : Un X.fs X.ex X.H₀ H X.s₀.heap s.heap
  loc : ∃ m, s.heap.Ns X.env.locals m ∧ ∀ (i : Nat) (x : Str) (v : V), X.N[i]? = some x → σ[i]? = some (some v) → Vis X.env.scope x → ∃ u, RelV v u ∧ Look X.env s.heap m x u
  cell : ∀ x c, X.env.cells.lookup x = some c → ∃ v, s.heap.IsCell c v
  free : H X.env.locals = none
  freeC : ∀ x c, X.env.cells.lookup x = some c → H c = none
  pin : ∀ p ∈ X.pn ++ pins, s.heap.get? p.1 = some p.2 ∧ H p.1 = none ∧ p.1 ≠ X.env.locals ∧ p.1 ∉ X.fs ∧ ∀ v, p.2.data ≠ .cell v
  hok : HOk X.prog X.w H s.heap
  len : σ.length = X.N.length

section
variable {X : Cx} {pins : List (Addr × Obj)} {σ : List (Option V)} {H H' : Hp} {s : Shared} {h' : Heap}

theorem Cx.Ok.nofr (ok : X.Ok) {b : Addr} {o : Obj} (e : X.base.get? b = some o) : b ∉ X.fs := fun hb => by
  have := (ok.funs.mem hb).1
  rw [e] at this; cases this
theorem Inv.bs (I : Inv X pins σ H s) : ∀ b o, X.base.get? b = some o → s.heap.get? b = some o ∧ H b = none := fun b o e =>
  ⟨I.base.keep b o (I.ok.bs b o e).1 (I.ok.bs b o e).2 (I.ok.nofr e) (I.ok.noex b o e), I.base.free b o (I.ok.bs b o e).1 (I.ok.bs b o e).2 (I.ok.noex b o e)⟩
theorem Inv.bk (I : Inv X pins σ H s) : ∀ b o, X.base.get? b = some o → s.heap.get? b = some o := fun b o e => (I.bs b o e).1
theorem Inv.mod (I : Inv X pins σ H s) : Mod X.K X.mg X.base := I.ok.mod
theorem Inv.kIn (I : Inv X pins σ H s) : X.K.In s.heap := I.ok.mod.kin.keeps I.bk
theorem Inv.lt (I : Inv X pins σ H s) : X.env.locals < s.heap.objs.size := let ⟨_, hn, _⟩ := I.loc; hn.lt
theorem Inv.sz (I : Inv X pins σ H s) : X.s₀.heap.objs.size ≤ s.heap.objs.size := Nat.le_trans I.ok.above (Nat.le_of_lt I.lt)
theorem Inv.nofs (I : Inv X pins σ H s) {a : Addr} (h : s.heap.objs.size ≤ a) : a ∉ X.fs := fun hb => by
  obtain ⟨_, o, ho, _⟩ := I.ok.funs.mem hb
  exact absurd (Nat.lt_of_lt_of_le (Heap.lt_size ho) (Nat.le_trans I.sz h)) (Nat.lt_irrefl _)
theorem Inv.cne (I : Inv X pins σ H s) : ∀ x c, X.env.cells.lookup x = some c → c ≠ X.env.locals := fun x c e z => by
  obtain ⟨v, o, ho, hd⟩ := I.cell x c e
  obtain ⟨m, ⟨o', es, ep, ho', hd', _⟩, _⟩ := I.loc
  rw [z, ho'] at ho; cases ho; rw [hd'] at hd; cases hd
theorem Inv.funs (I : Inv X pins σ H s) : s.heap.FunFrames X.base X.outer := by
  have all : ∀ (l : List Env), (∀ b ∈ frs l, b ∈ X.fs) → X.s₀.heap.FunFrames X.base l → s.heap.FunFrames X.base l := by
    intro l
    induction l with
    | nil => intro _ _; trivial
    | cons env r ih =>
      intro hs hl
      obtain ⟨hk, ⟨L, o, hf, hn, ho, hd⟩, hr⟩ := hl
      have hL : L ∈ X.fs := hs L (by unfold frs; rw [List.filterMap_cons, hf]; exact List.mem_cons_self)
      obtain ⟨sl, e⟩ := I.base.slot L o ho (I.ok.frf L hL) hL fun z => I.ok.exfs L z hL
      exact ⟨hk, ⟨L, _, hf, hn, e, hd⟩, ih (fun b hb => hs b (by unfold frs; rw [List.filterMap_cons, hf]; exact List.mem_cons_of_mem _ hb)) hr⟩
  exact all X.outer (fun _ hb => hb) I.ok.funs

/-- the frames that run, for a call -/
theorem Inv.stack (I : Inv X pins σ H s) : s.heap.FunFrames X.base X.stack := by
  rcases I.ok.stk with e | ⟨e, hf⟩
  · rw [e]; exact I.funs
  · rw [e]
    obtain ⟨m, hn, _⟩ := I.loc
    refine .cons (by rw [I.ok.kind]; decide) hf hn ?_ I.funs
    exact Heap.get?_none_of_le (Nat.le_trans I.ok.bsz I.ok.above)
theorem Inv.stkSub (I : Inv X pins σ H s) : ∀ b ∈ frs X.stack, b ∈ X.env.locals :: X.fs := fun b hb => by
  rcases I.ok.stk with e | ⟨e, hf⟩
  · rw [e] at hb; exact List.mem_cons_of_mem _ hb
  · rw [e] at hb
    unfold frs at hb
    rw [List.filterMap_cons, hf] at hb
    exact hb
theorem Inv.stkFree (I : Inv X pins σ H s) : ∀ b ∈ frs X.stack, H b = none := fun b hb => by
  rcases List.mem_cons.mp (I.stkSub b hb) with e | hb
  · rw [e]; exact I.free
  · obtain ⟨_, o, ho, _⟩ := I.ok.funs.mem hb
    exact I.base.free b o ho (I.ok.frf b hb) fun z => I.ok.exfs b z hb

/-- THE STEP: the untracked objects but the frame and the records at ch are kept (the callers' frames up to slots), the frame's map is kept, the new abstract heap is held -/
theorem Inv.step {g' : Array GenState} {t' : Nat} {d' : Drawn} {ch : List Addr} (I : Inv X pins σ H s)
    (hch : ∀ b ∈ ch, (b ∈ X.ex ∨ X.s₀.heap.objs.size ≤ b) ∧ b ≠ X.env.locals ∧ (∀ x c, X.env.cells.lookup x = some c → c ≠ b) ∧ ∀ p ∈ X.pn ++ pins, p.1 ≠ b)
    (keep : ∀ b o, b ≠ X.env.locals → b ∉ X.fs → b ∉ ch → s.heap.get? b = some o → H b = none → h'.get? b = some o)
    (slot : ∀ b o, b ≠ X.env.locals → b ∈ X.fs → b ∉ ch → s.heap.get? b = some o → H b = none → ∃ sl, h'.get? b = some { o with slots := sl }) (free : ∀ b o, b ∉ ch → s.heap.get? b = some o → H b = none → H' b = none)
    (there : ∀ b o, b ∉ ch → s.heap.get? b = some o → ∃ o', h'.get? b = some o')
    (tups : ∀ b xs, H b = some (.tup xs) → H' b = some (.tup xs)) (frzs : ∀ b o u, H b = some (.frz o u) → H' b = some (.frz o u)) (tbls : ∀ b ps, H b = some (.tbl ps) → ∃ more, H' b = some (.tbl (ps ++ more)))
    (ns : ∀ m, s.heap.Ns X.env.locals m → h'.Ns X.env.locals m) (hok : HOk X.prog X.w H' h') (hg : AllBare g') :
    Inv X pins σ H' { s with heap := h', gens := g', drawn := d', toks := t' } := by
  have neL : ∀ b o, X.s₀.heap.get? b = some o → b ≠ X.env.locals := fun b o e => Nat.ne_of_lt (Nat.lt_of_lt_of_le (Heap.lt_size e) I.ok.above)
  have neC : ∀ b o, X.s₀.heap.get? b = some o → b ∉ X.ex → b ∉ ch := fun b o e hx hb => by
    rcases (hch b hb).1 with z | z
    · exact hx z
    · exact absurd (Nat.lt_of_lt_of_le (Heap.lt_size e) z) (Nat.lt_irrefl _)
  have cellK : ∀ x c, X.env.cells.lookup x = some c → ∀ v, s.heap.IsCell c v → h'.IsCell c v := fun x c e v ⟨o, ho, hd⟩ => by
    have nch : c ∉ ch := fun z => (hch c z).2.2.1 x c e rfl
    by_cases hc : c ∈ X.fs
    · obtain ⟨sl, q⟩ := slot c o (I.cne x c e) hc nch ho (I.freeC x c e)
      exact ⟨_, q, hd⟩
    · exact ⟨o, keep c o (I.cne x c e) hc nch ho (I.freeC x c e), hd⟩
  refine ⟨I.ok, I.os, hg, ⟨fun b o e n hb hx => ?_, fun b o e n hb hx => ?_, fun b o e n hx => ?_, fun b o e hx => ?_, fun b xs e => tups b xs (I.base.tups b xs e), fun b o xs e => frzs b o xs (I.base.frzs b o xs e), fun b ps e => ?_⟩, ?_, fun x c e => ?_, ?_, fun x c e => ?_, fun p hp => ?_, hok, I.len⟩
  · exact keep b o (neL b o e) hb (neC b o e hx) (I.base.keep b o e n hb hx) (I.base.free b o e n hx)
  · obtain ⟨sl, e1⟩ := I.base.slot b o e n hb hx
    obtain ⟨sl', e2⟩ := slot b _ (neL b o e) hb (neC b o e hx) e1 (I.base.free b o e n hx)
    exact ⟨sl', e2⟩
  · obtain ⟨o', e1⟩ := I.base.there b o e hx
    exact free b o' (neC b o e hx) e1 (I.base.free b o e n hx)
  · obtain ⟨o', e1⟩ := I.base.there b o e hx
    exact there b o' (neC b o e hx) e1
  · obtain ⟨m1, e1⟩ := I.base.tbls b ps e
    obtain ⟨m2, e2⟩ := tbls b _ e1
    exact ⟨m1 ++ m2, by rw [e2, Array.append_assoc]⟩
  · obtain ⟨m, hn, hl⟩ := I.loc
    refine ⟨m, ns m hn, fun i x v e1 e2 e3 => ?_⟩
    obtain ⟨u, r, l⟩ := hl i x v e1 e2 e3
    refine ⟨u, r, ?_⟩
    rcases l with l | ⟨k, c, e, z⟩
    · exact .inl l
    · exact .inr ⟨k, c, e, cellK x c e _ z⟩
  · obtain ⟨v, z⟩ := I.cell x c e
    exact ⟨v, cellK x c e v z⟩
  · obtain ⟨m, ⟨o, _, _, ho, _⟩, _⟩ := I.loc
    exact free _ o (fun z => (hch _ z).2.1 rfl) ho I.free
  · obtain ⟨v, o, ho, hd⟩ := I.cell x c e
    exact free c o (fun z => (hch c z).2.2.1 x c e rfl) ho (I.freeC x c e)
  · obtain ⟨e, n, ne, nf, d⟩ := I.pin p hp
    have nch : p.1 ∉ ch := fun z => (hch p.1 z).2.2.2 p hp rfl
    exact ⟨keep p.1 p.2 ne nf nch e n, free p.1 p.2 nch e n, ne, nf, d⟩
/-- .. where the frame's own object is kept too -/
theorem Inv.un {t' : Nat} (I : Inv X pins σ H s) (u : Un X.fs [] H H' s.heap h') (hok : HOk X.prog X.w H' h') : Inv X pins σ H' { s with heap := h', toks := t' } := by
  obtain ⟨m, ⟨o, es, ep, ho, r⟩, _⟩ := id I.loc
  obtain ⟨sl, hL⟩ := u.any ho I.free (by simp)
  exact I.step (g' := s.gens) (d' := s.drawn) (ch := []) (fun _ z => nomatch z) (fun b o _ hb _ e n => u.keep b o e n hb (by simp)) (fun b o _ hb _ e n => u.slot b o e n hb (by simp)) (fun b o _ e n => u.free b o e n (by simp)) (fun b o _ e => u.there b o e (by simp)) u.tups u.frzs u.tbls (fun m' hm => by
    obtain ⟨o', es', ep', ho', r'⟩ := hm
    rw [ho] at ho'; cases ho'
    exact ⟨_, es', ep', hL, r'⟩) hok I.bare
/-- behind a call (or a comprehension's block): the slots of this frame may have changed too, the records at ch may have turned -/
theorem Inv.call {g' : Array GenState} {t' : Nat} {d' : Drawn} {ch : List Addr} (I : Inv X pins σ H s) (u : Un (frs X.stack) ch H H' s.heap h') (hok : HOk X.prog X.w H' h') (hg : AllBare g')
    (hch : ∀ b ∈ ch, (b ∈ X.ex ∨ X.s₀.heap.objs.size ≤ b) ∧ b ≠ X.env.locals ∧ (∀ x c, X.env.cells.lookup x = some c → c ≠ b) ∧ ∀ p ∈ X.pn ++ pins, p.1 ≠ b) :
    Inv X pins σ H' { s with heap := h', gens := g', drawn := d', toks := t' } := by
  obtain ⟨m, ⟨o, es, ep, ho, r⟩, _⟩ := id I.loc
  obtain ⟨sl, hL⟩ := u.any ho I.free fun z => (hch _ z).2.1 rfl
  exact I.step (ch := ch) hch (fun b o hL hb hc e n => u.keep b o e n (fun z => (List.mem_cons.mp (I.stkSub b z)).elim hL hb) hc) (fun b o _ _ hc e n => u.any e n hc) (fun b o hc e n => u.free b o e n hc) (fun b o hc e => u.there b o e hc) u.tups u.frzs u.tbls (fun m' hm => by
    obtain ⟨o', es', ep', ho', r'⟩ := hm
    rw [ho] at ho'; cases ho'
    exact ⟨_, es', ep', hL, r'⟩) hok hg
/-- an untracked record of ours (an iterator) has turned -/
theorem Inv.turned {t' : Nat} {it : Addr} (I : Inv X pins σ H s) (k : ∀ b o, b ≠ it → s.heap.get? b = some o → h'.get? b = some o) (hn : H it = none) (hL : it ≠ X.env.locals)
    (h1 : it ∈ X.ex ∨ X.s₀.heap.objs.size ≤ it) (h2 : ∀ x c, X.env.cells.lookup x = some c → c ≠ it) (h3 : ∀ p ∈ X.pn ++ pins, p.1 ≠ it) : Inv X pins σ H { s with heap := h', toks := t' } := by
  have nit : ∀ b u, H b = some u → b ≠ it := fun b u e z => by rw [z, hn] at e; cases e
  refine I.step (g' := s.gens) (d' := s.drawn) (ch := [it]) (fun b hb => ?_) (fun b o _ _ hc e _ => k b o (fun z => hc (by simp [z])) e) (fun b o _ _ hc e _ => ⟨o.slots, k b o (fun z => hc (by simp [z])) e⟩) (fun _ _ _ _ n => n)
    (fun b o hc e => ⟨o, k b o (fun z => hc (by simp [z])) e⟩) (fun _ _ e => e) (fun _ _ _ e => e) (fun b ps e => ⟨#[], by rw [e]; simp⟩) (fun m hm => ?_) (fun b u e => ?_) I.bare
  · have e : b = it := by simpa using hb
    subst e
    exact ⟨h1, hL, h2, h3⟩
  · obtain ⟨o, es, ep, ho, r⟩ := hm
    exact ⟨o, es, ep, k _ o (Ne.symm hL) ho, r⟩
  · refine (I.hok b u e).stay (fun c v hc q => k c v ?_ q) (fun _ q => q) fun _ _ q => q
    rcases hc with z | z
    · rw [z]; exact nit b u e
    · exact nit c _ z
theorem Inv.tok (I : Inv X pins σ H s) (t : Nat) : Inv X pins σ H { s with toks := t } := I.un (h' := s.heap) (t' := t) Un.refl I.hok
/-- all objects kept -/
theorem Inv.kept {t' : Nat} (I : Inv X pins σ H s) (k : ∀ b u, s.heap.get? b = some u → h'.get? b = some u) : Inv X pins σ H { s with heap := h', toks := t' } := I.un (Un.kept k) (I.hok.kept k)
/-- a new object laid and tracked -/
theorem Inv.laid {a : Addr} {o : HO} {t' : Nat} (I : Inv X pins σ H s) (k : ∀ b u, s.heap.get? b = some u → h'.get? b = some u) (hp : s.heap.objs.size ≤ a) (new : ObjOk X.prog X.w (upd H a o) h' a o) :
    Inv X pins σ (upd H a o) { s with heap := h', toks := t' } := I.un (Un.laid k hp (I.hok.fresh hp)) (I.hok.laid k hp new)
/-- an object written -/
theorem Inv.write {x e : Addr} {o : HO} {t' : Nat} (I : Inv X pins σ H s) (mu : Mut (H x)) (he : e = x ∨ H e = some (.own x)) (k : ∀ b u, b ≠ e → s.heap.get? b = some u → h'.get? b = some u) (heo : ∃ u, h'.get? e = some u)
    (new : ObjOk X.prog X.w (upd H x o) h' x o) : Inv X pins σ (upd H x o) { s with heap := h', toks := t' } := I.un (Un.write mu he k heo) (I.hok.write mu he k heo new)
theorem Inv.pins_of {pins' : List (Addr × Obj)} (I : Inv X pins σ H s) (h : ∀ p ∈ pins', s.heap.get? p.1 = some p.2 ∧ H p.1 = none ∧ p.1 ≠ X.env.locals ∧ p.1 ∉ X.fs ∧ ∀ v, p.2.data ≠ .cell v) : Inv X pins' σ H s :=
  ⟨I.ok, I.os, I.bare, I.base, I.loc, I.cell, I.free, I.freeC, fun p hp => (List.mem_append.mp hp).elim (fun z => I.pin p (List.mem_append_left _ z)) (h p), I.hok, I.len⟩

theorem nodup_ix {N : List Str} (hN : N.Nodup) {i j : Nat} {x : Str} (a : N[i]? = some x) (b : N[j]? = some x) : i = j := by
  obtain ⟨h1, e1⟩ := List.getElem?_eq_some_iff.mp a
  obtain ⟨h2, e2⟩ := List.getElem?_eq_some_iff.mp b
  exact (List.getElem_inj hN).mp (e1.trans e2.symm)

/-- a name is stored; what changed -/
theorem store_ok2 {M : Model} {A : Around} {E : Value → Shared → Prop} {i : Nat} {x : Str} {v : V} {u : Value} {Q : Unit → Shared → Prop} (I : Inv X pins σ H s) (hN : X.N.Nodup) (hi : X.N[i]? = some x) (hx : Loc X.env.scope x) (r : RelV v u)
    (h : ∀ s', Inv X pins (σ.set i (some v)) H s' → (∃ a, Heap.SameBut a s.heap s'.heap ∧ (a = X.env.locals ∨ X.env.cells.lookup x = some a)) → Q () s') (hf : X.fn x = true ∨ X.env.scope.names.lookup x = some .local := by first | exact .inl rfl | exact .inr rfl | assumption) : wpAny M A (storeName X.env x u) Q E s := by
  obtain ⟨m, hn, hl⟩ := id I.loc
  have hcls : (X.env.scope.kind == .class || (X.env.scope.kind == .module && X.env.locals != X.env.globals)) = false := by rw [I.ok.kind]; rfl
  have hiσ : i < σ.length := by rw [I.len]; exact (List.getElem?_eq_some_iff.mp hi).1
  have cne := I.cne
  have tracked : ∀ {a : Addr} {h' : Heap}, (∃ o, s.heap.get? a = some o ∧ H a = none) → Heap.SameBut a s.heap h' → HOk X.prog X.w H h' := fun {a h'} ha hs b ob e => by
    obtain ⟨_, _, hfree⟩ := ha
    refine (I.hok b ob e).stay (fun c w' hc q => (hs.2 c ?_).trans q) (fun _ q => q) fun _ _ q => q
    rintro rfl
    rcases hc with rfl | hc
    · rw [hfree] at e; cases e
    · rw [hfree] at hc; cases hc
  rcases hx with hk | hk
  · refine wpAny_storeName_local hk hn (fun h' hn' hs => ?_) hcls
    obtain ⟨oL, _, _, hoL, _⟩ := id hn
    refine h _ ⟨I.ok, I.os, I.bare, ⟨fun b o e n hb hx => ?_, fun b o e n hb hx => ?_, I.base.free, fun b o e hx => ?_, I.base.tups, I.base.frzs, I.base.tbls⟩, ⟨_, hn', fun j y v' e1 e2 e3 => ?_⟩, fun y c e => ?_, I.free, I.freeC, fun p hp => ?_, tracked ⟨oL, hoL, I.free⟩ hs, by simpa using I.len⟩ ⟨_, hs, .inl rfl⟩
    · exact (hs.2 b (Nat.ne_of_lt (Nat.lt_of_lt_of_le (Heap.lt_size e) I.ok.above))).trans (I.base.keep b o e n hb hx)
    · obtain ⟨sl, e1⟩ := I.base.slot b o e n hb hx
      exact ⟨sl, (hs.2 b (Nat.ne_of_lt (Nat.lt_of_lt_of_le (Heap.lt_size e) I.ok.above))).trans e1⟩
    · obtain ⟨o', e1⟩ := I.base.there b o e hx
      exact ⟨o', (hs.2 b (Nat.ne_of_lt (Nat.lt_of_lt_of_le (Heap.lt_size e) I.ok.above))).trans e1⟩
    · by_cases hj : j = i
      · subst hj
        rw [hi] at e1; cases e1
        rw [List.getElem?_set_self hiσ] at e2
        cases e2
        exact ⟨u, r, .inl ⟨hk, by simp⟩⟩
      · rw [List.getElem?_set_ne (Ne.symm hj)] at e2
        obtain ⟨u', r', q⟩ := hl j y v' e1 e2 e3
        refine ⟨u', r', ?_⟩
        rcases q with ⟨k, e⟩ | ⟨k, c, e, z⟩
        · refine .inl ⟨k, ?_⟩
          have : y ≠ x := fun e => hj (nodup_ix hN e1 (e ▸ hi))
          simp [this, e]
        · exact .inr ⟨k, c, e, z.sameBut hs (cne y c e)⟩
    · obtain ⟨w', z⟩ := I.cell y c e
      exact ⟨w', z.sameBut hs (cne y c e)⟩
    · obtain ⟨e, n, ne, nf, d⟩ := I.pin p hp
      exact ⟨(hs.2 p.1 ne).trans e, n, ne, nf, d⟩
  · have hfn : X.fn x = true := by
      rcases hf with z | z
      · exact z
      · rw [z] at hk; cases hk
    obtain ⟨c, hc⟩ := I.ok.has x (.inl hk)
    obtain ⟨w', z⟩ := I.cell x c hc
    refine wpAny_storeName_cell I.ok.kind hk hc z (fun h' hc' hs => ?_)
    obtain ⟨oc, hoc, hocd⟩ := id z
    refine h { s with heap := h' } ⟨I.ok, I.os, I.bare, ⟨fun b o e n hb hx => ?_, fun b o e n hb hx => ?_, I.base.free, fun b o e hx => ?_, I.base.tups, I.base.frzs, I.base.tbls⟩, ⟨m, hn.sameBut hs (Ne.symm (cne x c hc)), fun j y v' e1 e2 e3 => ?_⟩, fun y c' e => ?_, I.free, I.freeC, fun p hp => ?_, tracked ⟨oc, hoc, I.freeC x c hc⟩ hs, by simpa using I.len⟩ ⟨c, hs, .inr hc⟩
    · exact (hs.2 b (Nat.ne_of_lt (Nat.lt_of_lt_of_le (Heap.lt_size e) (I.ok.cab x c hfn hc)))).trans (I.base.keep b o e n hb hx)
    · obtain ⟨sl, e1⟩ := I.base.slot b o e n hb hx
      exact ⟨sl, (hs.2 b (Nat.ne_of_lt (Nat.lt_of_lt_of_le (Heap.lt_size e) (I.ok.cab x c hfn hc)))).trans e1⟩
    · obtain ⟨o', e1⟩ := I.base.there b o e hx
      exact ⟨o', (hs.2 b (Nat.ne_of_lt (Nat.lt_of_lt_of_le (Heap.lt_size e) (I.ok.cab x c hfn hc)))).trans e1⟩
    · by_cases hj : j = i
      · subst hj
        rw [hi] at e1; cases e1
        rw [List.getElem?_set_self hiσ] at e2
        cases e2
        exact ⟨u, r, .inr ⟨.inl hk, c, hc, hc'⟩⟩
      · rw [List.getElem?_set_ne (Ne.symm hj)] at e2
        obtain ⟨u', r', q⟩ := hl j y v' e1 e2 e3
        refine ⟨u', r', ?_⟩
        rcases q with q | ⟨k, c', e, z'⟩
        · exact .inl q
        · refine .inr ⟨k, c', e, z'.sameBut hs ?_⟩
          rintro rfl
          exact hj (nodup_ix hN e1 (I.ok.inj _ _ _ e hc ▸ hi))
    · by_cases hcc : c' = c
      · subst hcc; exact ⟨_, hc'⟩
      · obtain ⟨w2, z2⟩ := I.cell y c' e
        exact ⟨w2, z2.sameBut hs hcc⟩
    · obtain ⟨e, n, ne, nf, d⟩ := I.pin p hp
      refine ⟨(hs.2 p.1 ?_).trans e, n, ne, nf, d⟩
      intro q
      rw [q, hoc] at e
      have q' : oc = p.2 := Option.some.inj e
      exact d w' (by rw [← q']; exact hocd)
theorem store_ok {M : Model} {A : Around} {E : Value → Shared → Prop} {i : Nat} {x : Str} {v : V} {u : Value} {Q : Unit → Shared → Prop} (I : Inv X pins σ H s) (hN : X.N.Nodup) (hi : X.N[i]? = some x) (hx : Loc X.env.scope x) (r : RelV v u)
    (h : ∀ s', Inv X pins (σ.set i (some v)) H s' → Q () s') (hf : X.fn x = true ∨ X.env.scope.names.lookup x = some .local := by first | exact .inl rfl | exact .inr rfl | assumption) : wpAny M A (storeName X.env x u) Q E s :=
  store_ok2 I hN hi hx r (fun s' I' _ => h s' I') hf
/-- behind a call or a block, the state as it is -/
theorem Inv.call' {s' : Shared} {ch : List Addr} (I : Inv X pins σ H s) (ho : s'.os = s.os) (u : Un (frs X.stack) ch H H' s.heap s'.heap) (hok : HOk X.prog X.w H' s'.heap) (hg : AllBare s'.gens)
    (hch : ∀ b ∈ ch, (b ∈ X.ex ∨ X.s₀.heap.objs.size ≤ b) ∧ b ≠ X.env.locals ∧ (∀ x c, X.env.cells.lookup x = some c → c ≠ b) ∧ ∀ p ∈ X.pn ++ pins, p.1 ≠ b) : Inv X pins σ H' s' := by
  obtain ⟨h', g', d', t', o'⟩ := s'
  have e : o' = s.os := ho
  subst e
  exact I.call (g' := g') (t' := t') (d' := d') u hok hg hch
end

/-! ### the judgements -/
/-- an exception: its class, its own dict's address (where it has one), the abstract heap behind it -/
noncomputable abbrev XK := Value → Option Addr → Hp → Prop
noncomputable abbrev St := List (Option V)
noncomputable abbrev VK := V → Hp → Prop
/-- an expression's reading; a test's; an argument list's -/
noncomputable abbrev TE := St → Hp → VK → Prop
noncomputable abbrev TT := St → Hp → (Bool → Hp → Prop) → Prop
noncomputable abbrev TA := St → Hp → (List V → Hp → Prop) → Prop
/-- what is wanted behind a statement -/
structure Ends where
  nx : St → Hp → Prop
  rt : VK
  bk : St → Hp → Prop := fun _ _ => False
  ct : St → Hp → Prop := fun _ _ => False
noncomputable abbrev TS := Ends → St → Hp → Prop

noncomputable def EP (X : Cx) (pins : List (Addr × Obj)) (σ : St) (Q : VK) (u : Value) (s' : Shared) : Prop := ∃ v H', Inv X pins σ H' s' ∧ RelV v u ∧ Q v H'
noncomputable def TP (X : Cx) (pins : List (Addr × Obj)) (σ : St) (Q : Bool → Hp → Prop) (b : Bool) (s' : Shared) : Prop := ∃ H', Inv X pins σ H' s' ∧ Q b H'
noncomputable def AP (X : Cx) (pins : List (Addr × Obj)) (σ : St) (Q : List V → Hp → Prop) (us : List Value) (s' : Shared) : Prop := ∃ vs H', Inv X pins σ H' s' ∧ Vals vs us ∧ Q vs H'
noncomputable def SP (X : Cx) (pins : List (Addr × Obj)) (D : Ends) (f : Flow) (s' : Shared) : Prop :=
  match f with
  | .next => ∃ σ' H', Inv X pins σ' H' s' ∧ D.nx σ' H'
  | .brk => ∃ σ' H', Inv X pins σ' H' s' ∧ D.bk σ' H'
  | .cont => ∃ σ' H', Inv X pins σ' H' s' ∧ D.ct σ' H'
  | .ret u => ∃ v σ' H', Inv X pins σ' H' s' ∧ RelV v u ∧ D.rt v H'

noncomputable def PE (X : Cx) (e : Expr) (t : TE) : Prop :=
  ∀ (pins : List (Addr × Obj)) (s : Shared) (σ : St) (H : Hp) (Q : VK), Inv X pins σ H s → t σ H Q → wpAny (model X.prog X.w) X.A (eval e X.env) (EP X pins σ Q) X.xe s
noncomputable def PT (X : Cx) (e : Expr) (t : TT) : Prop :=
  ∀ (pins : List (Addr × Obj)) (s : Shared) (σ : St) (H : Hp) (Q : Bool → Hp → Prop), Inv X pins σ H s → t σ H Q → wpAny (model X.prog X.w) X.A (isTrue e X.env (eval e X.env)) (TP X pins σ Q) X.xe s
/-- a test whatever its 'whole' is (and, or) -/
noncomputable def PW (X : Cx) (e : Expr) (t : TT) : Prop :=
  ∀ (whole : Sem Value) (pins : List (Addr × Obj)) (s : Shared) (σ : St) (H : Hp) (Q : Bool → Hp → Prop), Inv X pins σ H s → t σ H Q → wpAny (model X.prog X.w) X.A (isTrue e X.env whole) (TP X pins σ Q) X.xe s
theorem PW.pt {X : Cx} {e : Expr} {t : TT} (h : PW X e t) : PT X e t := h _
/-- an argument list (no star), from the left -/
noncomputable def PA (X : Cx) (es : List Expr) (t : TA) : Prop :=
  ∀ (pos : Pos) (pins : List (Addr × Obj)) (s : Shared) (σ : St) (H : Hp) (Q : List V → Hp → Prop), Inv X pins σ H s → t σ H Q → wpAny (model X.prog X.w) X.A (spliced (backTo pos (starEach es X.env))) (AP X pins σ Q) X.xe s
noncomputable def PS (X : Cx) (st : Stmt) (t : TS) : Prop :=
  ∀ (pins : List (Addr × Obj)) (s : Shared) (σ : St) (H : Hp) (D : Ends), Inv X pins σ H s → t D σ H → wpAny (model X.prog X.w) X.A (exec st X.env) (SP X pins D) X.xe s
noncomputable def PSs (X : Cx) (st : List Stmt) (t : TS) : Prop :=
  ∀ (pins : List (Addr × Obj)) (s : Shared) (σ : St) (H : Hp) (D : Ends), Inv X pins σ H s → t D σ H → wpAny (model X.prog X.w) X.A (execs st X.env) (SP X pins D) X.xe s
/-- weaken the end -/
theorem thn {α : Type} {t : Sem α} {Q Q' : α → Shared → Prop} {M : Model} {A : Around} {E : Value → Shared → Prop} {s : Shared} (h : wpAny M A t Q E s) (hQ : ∀ a s, Q a s → Q' a s) : wpAny M A t Q' E s := wpAny_mono h hQ fun _ _ x => x
end L2

namespace L2
open PySem PySem.Spec PyProof.Rows
section
variable {X : Cx}

/-! ### names and constants -/
noncomputable def tVar (i : Nat) : TE := fun σ H Q => ∃ v, σ[i]? = some (some v) ∧ Q v H
noncomputable def tC (v : V) : TE := fun _ H Q => Q v H
theorem pe_var {i : Nat} {x : Str} {pos : Pos} (hN : X.N[i]? = some x) (hv : Vis X.env.scope x) (hd : (x == ("__debug__" : Str)) = false := by decide) (hcd : (x == ("__classdict__" : Str)) = false := by decide) : PE X (.Name x pos) (tVar i) := by
  intro pins s σ H Q I h
  obtain ⟨v, e, h⟩ := h
  obtain ⟨m, hn, hl⟩ := I.loc
  obtain ⟨u, r, l⟩ := hl i x v hN e hv
  have fin : EP X pins σ Q u s := ⟨v, H, I, r, h⟩
  rcases l with ⟨hk, hm⟩ | ⟨hk, c, hc, hcell⟩
  · exact wpAny_Name (wpAny_loadName_local I.ok.kind hk hn hm fin) hd
  · rcases hk with hk | hk
    · exact wpAny_Name (wpAny_loadName_cell I.ok.kind hk hc hcell fin) hd
    · exact wpAny_Name (wpAny_loadName_free I.ok.kind hk hc hcell fin hcd) hd
theorem pe_int {i j pos} : PE X (.Constant (.int i) j pos) (tC (.int i)) := fun _ _ _ H _ I h => wpAny_Constant_int ⟨.int i, H, I.tok _, ⟨_, rfl⟩, h⟩
theorem pe_bl {b j pos} : PE X (.Constant (.bool b) j pos) (tC (.bl b)) := fun _ _ _ H _ I h => Constant_bool ⟨.bl b, H, I, rfl, h⟩
theorem pe_non {j pos} : PE X (.Constant .none j pos) (tC .non) := fun _ _ _ H _ I h => Constant_none ⟨.non, H, I, rfl, h⟩
theorem pe_str {x j pos} : PE X (.Constant (.str x) j pos) (tC (.str x)) := fun _ _ _ H _ I h => Calls.Constant_str ⟨.str x, H, I.tok _, ⟨_, rfl⟩, h⟩

/-- a global name of the def -/
noncomputable def Gl (X : Cx) (x : Str) : Prop := X.env.kindOf x = some .globalImplicit
theorem ld_glob {E : Value → Shared → Prop} {pins : List (Addr × Obj)} {s : Shared} {σ : St} {H : Hp} {x : Str} {u : Value} {pos : Pos} {Q : Value → Shared → Prop} (I : Inv X pins σ H s) (hg : Gl X x) (hm : X.mg x = some u) (h : Q u s)
    (hd : (x == ("__debug__" : Str)) = false := by decide) : wpAny (model X.prog X.w) X.A (eval (.Name x pos) X.env) Q E s :=
  Calls.Name_function_global I.ok.kind hg (Calls.loadGlobal_global (by rw [I.ok.glob]; exact I.mod.glob.keeps I.bk) hm h) hd
theorem ld_blt {E : Value → Shared → Prop} {pins : List (Addr × Obj)} {s : Shared} {σ : St} {H : Hp} {x : Str} {u : Value} {pos : Pos} {Q : Value → Shared → Prop} (I : Inv X pins σ H s) (hg : Gl X x) (hm : X.mg x = none) (hv : bootBuiltins x = some u) (h : Q u s)
    (hn : x ≠ "__name__" := by decide) (hd : (x == ("__debug__" : Str)) = false := by decide) : wpAny (model X.prog X.w) X.A (eval (.Name x pos) X.env) Q E s := by
  obtain ⟨mb, h1, h2⟩ := I.mod.blt
  exact Calls.Name_function_global I.ok.kind hg (Calls.loadGlobal_builtin (by rw [I.ok.glob]; exact I.mod.glob.keeps I.bk) hm (by rw [I.ok.blt]; exact h1.keeps I.bk) ((h2 x hn).trans hv) h) hd
/-- a module's constant, a class, a function, as a value -/
theorem pe_glob {x : Str} {v : V} {u : Value} {pos : Pos} (hg : Gl X x) (hm : X.mg x = some u) (r : RelV v u) (hd : (x == ("__debug__" : Str)) = false := by decide) : PE X (.Name x pos) (tC v) :=
  fun _ _ _ H _ I h => ld_glob I hg hm ⟨v, H, I, r, h⟩ hd
theorem pe_bltn {x : Str} {v : V} {u : Value} {pos : Pos} (hg : Gl X x) (hm : X.mg x = none) (hv : bootBuiltins x = some u) (r : RelV v u) (hn : x ≠ "__name__" := by decide) (hd : (x == ("__debug__" : Str)) = false := by decide) : PE X (.Name x pos) (tC v) :=
  fun _ _ _ H _ I h => ld_blt I hg hm hv ⟨v, H, I, r, h⟩ hn hd

/-! ### arithmetic -/
variable {a b : Expr} {ta tb : TE} {pos : Pos}
/-! ### comparisons -/
noncomputable def PC (X : Cx) (op : CmpOp) (a b : Expr) (t : TE) : Prop :=
  ∀ (pins : List (Addr × Obj)) (s : Shared) (σ : St) (H : Hp) (Q : VK), Inv X pins σ H s → t σ H Q →
    wpAny (model X.prog X.w) X.A (eval a X.env) (fun v s₁ => wpAny (model X.prog X.w) X.A (eval b X.env) (fun u s₂ => wpAny (model X.prog X.w) X.A (compareOp op v u) (EP X pins σ Q) X.xe s₂) X.xe s₁) X.xe s
/-- a comparison as a value, as a test -/
noncomputable def tB (t : TE) : TT := fun σ H Q => t σ H fun x H1 => ∃ c, x = .bl c ∧ Q c H1
theorem pt_cmp {op : CmpOp} {t : TE} (h : PC X op a b t) (h1 : behindInMarks op b = false := by first | exact nobehind _ (by decide) (by decide) | rfl) : PT X (.Compare a [op] [b] pos) (tB t) := by
  intro pins s σ H Q I hw
  refine wpAny_isTrue_Compare1 (thn (h pins s σ H _ I hw) fun v s1 h1 => thn h1 fun u s2 h2 => thn h2 fun c s3 ⟨x, H1, I1, r1, q1⟩ => ?_) h1
  obtain ⟨d, rfl, q⟩ := q1
  cases r1
  exact wpAny_truthy_bool ⟨H1, I1, q⟩
/-- an expression whose value is a bool, as a test -/
theorem pt_val {e : Expr} {t : TE} (h : PE X e t) (he : ∀ whole, isTrue e X.env whole = (do let v ← whole; standAt e.pos; holding [v] (truthy v)) := by intro _; rfl) : PT X e (tB t) := by
  intro pins s σ H Q I hw
  refine isTrue_plain (thn (h pins s σ H _ I hw) fun v s1 ⟨x, H1, I1, r1, q1⟩ => ?_) (he _)
  obtain ⟨d, rfl, q⟩ := q1
  cases r1
  exact wpAny_truthy_bool ⟨H1, I1, q⟩

/-! ### and, or, not -/
variable {tA tB' : TT} {rest : List Expr}
noncomputable def tAnd (t u : TT) : TT := fun σ H Q => t σ H fun c H1 => if c = true then u σ H1 Q else Q false H1
noncomputable def tOr (t u : TT) : TT := fun σ H Q => t σ H fun c H1 => if c = true then Q true H1 else u σ H1 Q
noncomputable def tNot (t : TT) : TT := fun σ H Q => t σ H fun c H1 => Q (!c) H1
theorem pw_and1 (ha : PT X a tA) : PW X (.BoolOp .And [a] pos) tA := by
  intro wh pins s σ H Q I h
  refine isTrue_and (thn (ha pins s σ H Q I h) fun c s1 e => ?_)
  cases c with
  | true => exact isTrue_and_nil e
  | false => exact e
theorem pw_or1 (ha : PT X a tA) : PW X (.BoolOp .Or [a] pos) tA := by
  intro wh pins s σ H Q I h
  refine isTrue_or (thn (ha pins s σ H Q I h) fun c s1 e => ?_)
  cases c with
  | false => exact isTrue_or_nil e
  | true => exact e
theorem pw_and (ha : PT X a tA) (hb : PW X (.BoolOp .And (b :: rest) pos) tB') : PW X (.BoolOp .And (a :: b :: rest) pos) (tAnd tA tB') := by
  intro wh pins s σ H Q I h
  refine isTrue_and (thn (ha pins s σ H _ I h) fun c s1 ⟨H1, I1, q1⟩ => ?_)
  cases c with
  | true => exact hb wh pins s1 σ H1 Q I1 q1
  | false => exact ⟨H1, I1, q1⟩
theorem pw_or (ha : PT X a tA) (hb : PW X (.BoolOp .Or (b :: rest) pos) tB') : PW X (.BoolOp .Or (a :: b :: rest) pos) (tOr tA tB') := by
  intro wh pins s σ H Q I h
  refine isTrue_or (thn (ha pins s σ H _ I h) fun c s1 ⟨H1, I1, q1⟩ => ?_)
  cases c with
  | true => exact ⟨H1, I1, q1⟩
  | false => exact hb wh pins s1 σ H1 Q I1 q1
theorem pt_not (ha : PT X a tA) : PT X (.UnaryOp .Not a pos) (tNot tA) := by
  intro pins s σ H Q I h
  exact isTrue_not (ha pins s σ H (fun c H1 => Q (!c) H1) I h)
/-- .. as values (bools) -/
noncomputable def tAndV (ta tb : TE) : TE := fun σ H Q => ta σ H fun x H1 => ∃ c, x = .bl c ∧ if c = true then tb σ H1 Q else Q (.bl false) H1
noncomputable def tOrV (ta tb : TE) : TE := fun σ H Q => ta σ H fun x H1 => ∃ c, x = .bl c ∧ if c = true then Q (.bl true) H1 else tb σ H1 Q
noncomputable def tNotV (ta : TE) : TE := fun σ H Q => ta σ H fun x H1 => ∃ c, x = .bl c ∧ Q (.bl (!c)) H1
theorem pe_one {op} {t : TE} (h : PE X a t) : PE X (.BoolOp op [a] pos) t := fun pins s σ H Q I hw => BoolOp_one (h pins s σ H Q I hw)
theorem pe_and (ha : PE X a ta) (hb : PE X (.BoolOp .And (b :: rest) pos) tb) : PE X (.BoolOp .And (a :: b :: rest) pos) (tAndV ta tb) := by
  intro pins s σ H Q I h
  refine BoolOp_and (thn (ha pins s σ H _ I h) fun v s1 ⟨x, H1, I1, r1, q1⟩ => ?_)
  obtain ⟨c, rfl, q1⟩ := q1
  cases r1
  refine wpAny_truthy_bool ?_
  cases c with
  | true => exact hb pins s1 σ H1 Q I1 q1
  | false => exact ⟨.bl false, H1, I1, rfl, q1⟩
theorem pe_or (ha : PE X a ta) (hb : PE X (.BoolOp .Or (b :: rest) pos) tb) : PE X (.BoolOp .Or (a :: b :: rest) pos) (tOrV ta tb) := by
  intro pins s σ H Q I h
  refine BoolOp_or (thn (ha pins s σ H _ I h) fun v s1 ⟨x, H1, I1, r1, q1⟩ => ?_)
  obtain ⟨c, rfl, q1⟩ := q1
  cases r1
  refine wpAny_truthy_bool ?_
  cases c with
  | false => exact hb pins s1 σ H1 Q I1 q1
  | true => exact ⟨.bl true, H1, I1, rfl, q1⟩
theorem pe_not (ha : PE X a ta) : PE X (.UnaryOp .Not a pos) (tNotV ta) := by
  intro pins s σ H Q I h
  refine UnaryOp_ (thn (ha pins s σ H _ I h) fun v s1 ⟨x, H1, I1, r1, q1⟩ => ?_)
  obtain ⟨c, rfl, q1⟩ := q1
  cases r1
  exact not_of (wpAny_truthy_bool ⟨.bl (!c), H1, I1, rfl, q1⟩)
end
end L2

namespace L2
open PySem PySem.Spec PyProof.Rows

/-! ### a list, a tuple that is read: tracked, frozen, or an object of the module -/
noncomputable def SqL (K : PySem.W.Frag) (H : Hp) (a : Addr) (xs : List V) : Prop :=
  Rd H a (.lst xs) ∨
    ∃ (o : Obj) (its : Array Value) (n : Nat), K.lookup a = some o ∧ o.cls = .type "list" ∧ o.dict = none ∧ o.data = .seq its n ∧ its.size ≤ sizeLine ∧ Vals xs its.toList
noncomputable def SqT (K : PySem.W.Frag) (H : Hp) (a : Addr) (xs : List V) : Prop :=
  Rd H a (.tup xs) ∨
    ∃ (o : Obj) (its : Array Value) (n : Nat), K.lookup a = some o ∧ o.cls = .type "tuple" ∧ o.data = .seq its n ∧ its.size ≤ sizeLine ∧ Vals xs its.toList
noncomputable def absV : Value → Option V
  | .none => some .non
  | .bool b => some (.bl b)
  | .int i _ => some (.int i)
  | .str x _ => some (.str x)
  | .bytes b _ => some (.byt b)
  | .float b _ => some (.flt b)
  | .ref a => some (.ref a)
  | .type n => some (.ty n)
  | _ => none
theorem RelV.abs {x : V} {u : Value} (r : RelV x u) : absV u = some x := by
  cases x with
  | non => cases r; rfl
  | bl _ => cases r; rfl
  | int _ => obtain ⟨t, rfl⟩ := r; rfl
  | str _ => obtain ⟨t, rfl⟩ := r; rfl
  | byt _ => obtain ⟨t, rfl⟩ := r; rfl
  | flt _ => obtain ⟨t, rfl⟩ := r; rfl
  | ref _ => cases r; rfl
  | ty _ => cases r; rfl
theorem RelV.inj {x y : V} {u : Value} (r : RelV x u) (q : RelV y u) : x = y := Option.some.inj (r.abs.symm.trans q.abs)
theorem Vals.inj : ∀ {xs ys : List V} {us : List Value}, Vals xs us → Vals ys us → xs = ys
  | _, _, _, .nil, .nil => rfl
  | _, _, _, .cons r t, .cons r' t' => by rw [r.inj r', Vals.inj t t']
section
variable {X : Cx} {pins : List (Addr × Obj)} {σ : St} {H : Hp} {s : Shared} {a : Addr} {xs ys : List V}
theorem SqL.of {K : PySem.W.Frag} (h : H a = some (.lst xs)) : SqL K H a xs := .inl (.inl h)
theorem SqT.of {K : PySem.W.Frag} (h : H a = some (.tup xs)) : SqT K H a xs := .inl (.inl h)
theorem Inv.list (I : Inv X pins σ H s) (h : SqL X.K H a xs) : ∃ its : List Value, Vals xs its ∧ PlainL s.heap a its.toArray ∧ xs.length ≤ sizeLine := by
  rcases h with h | ⟨o, its, n, hk, hc, hd, hs, hz, r⟩
  · obtain ⟨z, its, n, r, e⟩ := h.ok I.hok
    exact ⟨its, r, ⟨_, n, e, rfl, rfl, rfl⟩, z⟩
  · refine ⟨its.toList, r, ⟨o, n, I.kIn a o hk, hc, hd, by simpa using hs⟩, ?_⟩
    have e := r.length
    simp only [Array.length_toList] at e
    omega
theorem Inv.tuple (I : Inv X pins σ H s) (h : SqT X.K H a xs) : ∃ its : List Value, Vals xs its ∧ IsTup s.heap a its.toArray ∧ xs.length ≤ sizeLine := by
  rcases h with h | ⟨o, its, n, hk, hc, hs, hz, r⟩
  · obtain ⟨z, its, r, p⟩ := h.ok I.hok
    exact ⟨its, r, p.tup, z⟩
  · refine ⟨its.toList, r, ⟨o, I.kIn a o hk, hc, n, by simpa using hs⟩, ?_⟩
    have e := r.length
    simp only [Array.length_toList] at e
    omega
theorem Inv.list_inj (I : Inv X pins σ H s) (h : SqL X.K H a xs) (h' : SqL X.K H a ys) : xs = ys := by
  obtain ⟨its, r, ⟨o, n, e, _, _, d⟩, _⟩ := I.list h
  obtain ⟨its', r', ⟨o', n', e', _, _, d'⟩, _⟩ := I.list h'
  rw [e] at e'; cases e'
  rw [d] at d'
  injection d' with d1 _
  have : its = its' := by simpa using congrArg Array.toList d1
  subst this
  exact r.inj r'
theorem Inv.tuple_inj (I : Inv X pins σ H s) (h : SqT X.K H a xs) (h' : SqT X.K H a ys) : xs = ys := by
  obtain ⟨its, r, ⟨o, e, _, n, d⟩, _⟩ := I.tuple h
  obtain ⟨its', r', ⟨o', e', _, n', d'⟩, _⟩ := I.tuple h'
  rw [e] at e'; cases e'
  rw [d] at d'
  injection d' with d1 _
  have : its = its' := by simpa using congrArg Array.toList d1
  subst this
  exact r.inj r'
end

/-! ### another wish about exceptions -/
noncomputable abbrev Cx.wish (X : Cx) (E : Value → Shared → Prop) : Cx := { X with xe := E }
/-- no exception leaves -/
noncomputable abbrev Cx.nox (X : Cx) : Cx := X.wish fun _ _ => False
theorem Cx.Ok.wish {X : Cx} (ok : X.Ok) (E : Value → Shared → Prop) : (X.wish E).Ok :=
  ⟨ok.mod, ok.kind, ok.glob, ok.blt, ok.above, ok.inj, ok.has, ok.cab, ok.hd, ok.frames, ok.stk, ok.exf, ok.bs, ok.bsz, ok.noex, ok.exfs, ok.funs, ok.frf⟩
theorem Cx.Ok.unwish {X : Cx} {E : Value → Shared → Prop} (ok : (X.wish E).Ok) : X.Ok :=
  ⟨ok.mod, ok.kind, ok.glob, ok.blt, ok.above, ok.inj, ok.has, ok.cab, ok.hd, ok.frames, ok.stk, ok.exf, ok.bs, ok.bsz, ok.noex, ok.exfs, ok.funs, ok.frf⟩
section
variable {X : Cx} {pins : List (Addr × Obj)} {σ : St} {H : Hp} {s : Shared} {E : Value → Shared → Prop}
theorem Inv.wish (I : Inv X pins σ H s) (E : Value → Shared → Prop) : Inv (X.wish E) pins σ H s := ⟨I.ok.wish E, I.os, I.bare, I.base, I.loc, I.cell, I.free, I.freeC, I.pin, I.hok, I.len⟩
theorem Inv.unwish (I : Inv (X.wish E) pins σ H s) : Inv X pins σ H s := ⟨I.ok.unwish, I.os, I.bare, I.base, I.loc, I.cell, I.free, I.freeC, I.pin, I.hok, I.len⟩
theorem SP.unwish {D : Ends} {f : Flow} {s' : Shared} (h : SP (X.wish E) pins D f s') : SP X pins D f s' := by
  cases f with
  | next => obtain ⟨σ', H', I, q⟩ := h; exact ⟨σ', H', I.unwish, q⟩
  | brk => obtain ⟨σ', H', I, q⟩ := h; exact ⟨σ', H', I.unwish, q⟩
  | cont => obtain ⟨σ', H', I, q⟩ := h; exact ⟨σ', H', I.unwish, q⟩
  | ret u => obtain ⟨v, σ', H', I, r, q⟩ := h; exact ⟨v, σ', H', I.unwish, r, q⟩
theorem PSs.nox {st : List Stmt} {t : TS} (h : PSs X.nox st t) : PSs X st t := fun pins s σ H D I hw =>
  wpAny_mono (h pins s σ H D (I.wish _) hw) (fun _ _ q => q.unwish) fun _ _ z => False.elim z
end

/-! ### blocks and small statements -/
section
variable {X : Cx} {st : Stmt} {rest : List Stmt} {t u : TS} {e : Expr} {te : TE} {pos : Pos}
noncomputable def tNext : TS := fun D σ H => D.nx σ H
noncomputable def tSeq (t u : TS) : TS := fun D σ H => t { D with nx := u D } σ H
theorem pss_nil : PSs X [] tNext := fun _ _ σ H _ I h => wpAny_execs_nil ⟨σ, H, I, h⟩
theorem pss_cons (h1 : PS X st t) (h2 : PSs X rest u) : PSs X (st :: rest) (tSeq t u) := by
  intro pins s σ H D I h
  refine wpAny_execs_cons (thn (h1 pins s σ H { D with nx := u D } I h) fun f s1 q => ?_)
  cases f with
  | next =>
    obtain ⟨σ', H', I', q⟩ := q
    exact h2 pins s1 σ' H' D I' q
  | ret v => exact q
  | brk => exact q
  | cont => exact q
theorem pss_one (h1 : PS X st t) : PSs X [st] t := by
  intro pins s σ H D I h
  refine wpAny_execs_cons (thn (h1 pins s σ H D I h) fun f s1 q => ?_)
  cases f with
  | next => exact wpAny_execs_nil q
  | ret v => exact q
  | brk => exact q
  | cont => exact q
/-- in a def's body nothing is shown -/
theorem Inv.quiet {pins : List (Addr × Obj)} {σ : St} {H : Hp} {s : Shared} (I : Inv X pins σ H s) : interactive X.env = false := by simp [interactive, I.ok.kind]
/-- an expression whose value is dropped -/
noncomputable def tDrop (te : TE) : TS := fun D σ H => te σ H fun _ H1 => D.nx σ H1
theorem ps_expr (he : PE X e te) (hs : swapsWith e none pos.line X.env = pure false := by rfl) : PS X (.Expr e pos) (tDrop te) := by
  intro pins s σ H D I h
  exact wpAny_Expr_any (thn (he pins s σ H _ I h) fun v s1 ⟨x, H1, I1, r1, q1⟩ => ⟨σ, H1, I1, q1⟩) I.quiet hs
noncomputable def tRet (te : TE) : TS := fun D σ H => te σ H D.rt
theorem ps_ret (he : PE X e te) : PS X (.Return (some e) pos) (tRet te) := by
  intro pins s σ H D I h
  exact wpAny_Return_some (thn (he pins s σ H _ I h) fun v s1 ⟨x, H1, I1, r1, q1⟩ => ⟨x, σ, H1, I1, r1, q1⟩)
noncomputable def tIfS (c : TT) (t u : TS) : TS := fun D σ H => c σ H fun b H1 => if b = true then t D σ H1 else u D σ H1
theorem ps_if {c : Expr} {a b : List Stmt} {tc : TT} (hc : PT X c tc) (ha : PSs X a t) (hb : PSs X b u) : PS X (.If c a b pos) (tIfS tc t u) := by
  intro pins s σ H D I h
  refine wpAny_If (thn (hc pins s σ H _ I h) fun d s1 ⟨H1, I1, q1⟩ => ?_)
  cases d with
  | true => exact ha pins s1 σ H1 D I1 q1
  | false => exact hb pins s1 σ H1 D I1 q1
end

/-! ### targets -/
noncomputable abbrev TG := V → St → Hp → (St → Hp → Prop) → Prop
noncomputable abbrev TGs := List V → St → Hp → (St → Hp → Prop) → Prop
noncomputable def PG (X : Cx) (target : Expr) (t : TG) : Prop :=
  ∀ (pins : List (Addr × Obj)) (s : Shared) (σ : St) (H : Hp) (v : V) (u : Value) (Q : St → Hp → Prop), Inv X pins σ H s → RelV v u → t v σ H Q →
    wpAny (model X.prog X.w) X.A (assign target X.env u) (fun _ s' => ∃ σ' H', Inv X pins σ' H' s' ∧ Q σ' H') X.xe s
/-- several targets, one after another -/
noncomputable def PGs (X : Cx) (ts : List Expr) (t : TGs) : Prop :=
  ∀ (pins : List (Addr × Obj)) (s : Shared) (σ : St) (H : Hp) (vs : List V) (us : List Value) (Q : St → Hp → Prop), Inv X pins σ H s → Vals vs us → t vs σ H Q →
    wpAny (model X.prog X.w) X.A (assignInOrder ((assignEach ts X.env).map (·.2)) us) (fun _ s' => ∃ σ' H', Inv X pins σ' H' s' ∧ Q σ' H') X.xe s
/-- o[i] = v, by values -/
noncomputable abbrev TSet := V → V → V → Hp → (Hp → Prop) → Prop
noncomputable def PSet (X : Cx) (t : TSet) : Prop :=
  ∀ (pins : List (Addr × Obj)) (s : Shared) (σ : St) (H : Hp) (o i v : V) (ov iv u : Value) (Q : Hp → Prop), Inv X pins σ H s → RelV o ov → RelV i iv → RelV v u → t o i v H Q →
    wpAny (model X.prog X.w) X.A (setItem ov iv u) (fun _ s' => ∃ H', Inv X pins σ H' s' ∧ Q H') X.xe s
/-- a op= b, by values -/
noncomputable abbrev TIp := V → V → Hp → VK → Prop
noncomputable def PIp (X : Cx) (op : Operator) (t : TIp) : Prop :=
  ∀ (pins : List (Addr × Obj)) (s : Shared) (σ : St) (H : Hp) (x y : V) (v u : Value) (Q : VK), Inv X pins σ H s → RelV x v → RelV y u → t x y H Q →
    wpAny (model X.prog X.w) X.A (inplaceOp op v u) (EP X pins σ Q) X.xe s
section
variable {X : Cx} {pos : Pos}
noncomputable def gName (i : Nat) : TG := fun v σ H Q => Q (σ.set i (some v)) H
theorem pg_name {i : Nat} {x : Str} (hN : X.N.Nodup) (hi : X.N[i]? = some x) (hx : Loc X.env.scope x) (hf : X.fn x = true ∨ X.env.scope.names.lookup x = some .local := by first | exact .inl rfl | exact .inr rfl | assumption) : PG X (.Name x pos) (gName i) := by
  intro pins s σ H v u Q I r h
  exact wpAny_assign_Name (store_ok I hN hi hx r (fun s' I' => ⟨_, H, I', h⟩) hf)
noncomputable def gNil : TGs := fun vs σ H Q => vs = [] ∧ Q σ H
noncomputable def gCons (t : TG) (u : TGs) : TGs := fun vs σ H Q => ∃ v r, vs = v :: r ∧ t v σ H fun σ' H' => u r σ' H' Q
theorem pgs_nil : PGs X [] gNil := by
  intro pins s σ H vs us Q I r h
  obtain ⟨e, h⟩ := h
  subst e
  cases r
  exact assignInOrder_nil ⟨σ, H, I, h⟩
theorem pgs_cons {e : Expr} {es : List Expr} {t : TG} {u : TGs} (h1 : PG X e t) (h2 : PGs X es u)
    (hs : (assignEach (e :: es) X.env).map (·.2) = assign e X.env :: (assignEach es X.env).map (·.2) := by rfl) : PGs X (e :: es) (gCons t u) := by
  intro pins s σ H vs us Q I r h
  obtain ⟨v, vr, e1, h⟩ := h
  subst e1
  cases r with
  | cons r rr =>
    rw [hs]
    refine assignInOrder_cons (thn (h1 pins s σ H _ _ _ I r h) fun _ s1 ⟨σ1, H1, I1, q1⟩ => ?_)
    exact h2 pins s1 σ1 H1 _ _ Q I1 rr q1
/-- (a, b, ..) = a tuple of that length -/
noncomputable def gTup (K : PySem.W.Frag) (n : Nat) (t : TGs) : TG := fun v σ H Q => ∃ a xs, v = .ref a ∧ SqT K H a xs ∧ xs.length = n ∧ t xs σ H Q
theorem pg_tup {es : List Expr} {k : Nat} {t : TGs} {n : Nat} (hc : X.calm = true) (h : PGs X es t)
    (hn : (assignEach es X.env).length = n := by rfl) (hst : (assignEach es X.env).findIdx? (·.1) = none := by rfl) : PG X (.Tuple es k pos) (gTup X.K n t) := by
  intro pins s σ H v u Q I r hw
  obtain ⟨a, xs, e1, hq, hl, hw⟩ := hw
  subst e1
  cases r
  obtain ⟨its, rv, ht, hz⟩ := I.tuple hq
  refine assign_Tuple_tuple (I.ok.hd hc) ht (by simp [hn, ← hl, rv.length]) hst fun h' hx => ?_
  have I1 : Inv X pins σ H { s with heap := h' } := I.kept (t' := s.toks) fun b o e => hx b o (Nat.ne_of_lt (Heap.lt_size e)) e
  exact h pins _ σ H xs _ Q I1 (by simpa using rv) hw
/-- o[i] = .. -/
noncomputable def gSub (to ti : TE) (t : TSet) : TG := fun v σ H Q => to σ H fun o H1 => ti σ H1 fun i H2 => t o i v H2 fun H3 => Q σ H3
theorem pg_sub {o i : Expr} {to ti : TE} {t : TSet} (ho : PE X o to) (hi : PE X i ti) (hs : PSet X t)
    (ha : ∀ v, assign (.Subscript o i pos) X.env v = (do
      let ov ← holding [v] (eval o X.env)
      let iv ← holding [v, ov] (eval i X.env)
      standAt pos
      holding [v, ov, iv] (setItem ov iv v)
      release [v, ov, iv] []) := by intro _; rfl) : PG X (.Subscript o i pos) (gSub to ti t) := by
  intro pins s σ H v u Q I r h
  rw [ha]
  refine wpAny_bind (wpAny_holding (thn (ho pins s σ H _ I h) fun ov s1 ⟨x, H1, I1, r1, q1⟩ => ?_))
  refine wpAny_bind (wpAny_holding (thn (hi pins s1 σ H1 _ I1 q1) fun iv s2 ⟨y, H2, I2, r2, q2⟩ => ?_))
  refine wpAny_bind (wpAny_standAt (wpAny_bind (wpAny_holding (thn (hs pins s2 σ H2 x y v ov iv u _ I2 r1 r2 r q2) fun _ s3 ⟨H3, I3, q3⟩ => ?_))))
  exact wpAny_release ⟨σ, H3, I3, q3⟩
/-- target = value -/
noncomputable def tAsg (te : TE) (g : TG) : TS := fun D σ H => te σ H fun x H1 => g x σ H1 D.nx
theorem ps_asg {tg e : Expr} {te : TE} {g : TG} (he : PE X e te) (hg : PG X tg g) (hs : swapsWithSole [tg] e pos.line X.env = pure false := by rfl) (hw : swappedStores [tg] e X.env = pure none := by rfl)
    (h1 : (assignEach [tg] X.env).map (·.2) = [assign tg X.env] := by rfl) : PS X (.Assign [tg] e pos) (tAsg te g) := by
  intro pins s σ H D I h
  refine wpAny_Assign_stores (thn (he pins s σ H _ I h) fun v s1 ⟨x, H1, I1, r1, q1⟩ => ?_) hs hw
  rw [h1]
  exact thn (hg pins s1 σ H1 x v _ I1 r1 q1) fun _ s2 q => q
/-- name = value -/
theorem ps_set {i : Nat} {x : Str} {e : Expr} {te : TE} {pos' : Pos} (hN : X.N.Nodup) (hi : X.N[i]? = some x) (hx : Loc X.env.scope x) (he : PE X e te) (hs : swapsWith e (some (.Name x pos')) pos.line X.env = pure false := by rfl) (hf : X.fn x = true ∨ X.env.scope.names.lookup x = some .local := by first | exact .inl rfl | exact .inr rfl | assumption) :
    PS X (.Assign [.Name x pos'] e pos) (tAsg te (gName i)) := by
  intro pins s σ H D I h
  refine wpAny_Assign_Name (thn (he pins s σ H _ I h) fun v s1 ⟨y, H1, I1, r1, q1⟩ => ?_) hs
  exact store_ok I1 hN hi hx r1 (fun s2 I2 => ⟨_, H1, I2, q1⟩) hf
/-- a, b = x, y with plain local names: stored from the right; the pair itself is not tracked (the opening rows as in PyProof/Rows/TupAssign.lean:23) -/
noncomputable def tPar (i j : Nat) (ta : TA) : TS := fun D σ H => ta σ H fun vs H1 => ∃ v w, vs = [v, w] ∧ D.nx ((σ.set i (some v)).set j (some w)) H1
theorem ps_par {i j : Nat} {x y : Str} {a b : Expr} {ta : TA} {px py pt : Pos} {kt k2 pt2} (hc : X.calm = true) (hN : X.N.Nodup) (hi : X.N[i]? = some x) (hj : X.N[j]? = some y) (hij : i ≠ j)
    (hx : X.env.scope.names.lookup x = some .local) (hy : X.env.scope.names.lookup y = some .local) (ha : PA X [a, b] ta)
    (hw : swappedStores [.Tuple [.Name x px, .Name y py] kt pt] (.Tuple [a, b] k2 pt2) X.env = pure (some [x, y]))
    (hs : swapsWithSole [.Tuple [.Name x px, .Name y py] kt pt] (.Tuple [a, b] k2 pt2) pos.line X.env = pure false := by rfl) :
    PS X (.Assign [.Tuple [.Name x px, .Name y py] kt pt] (.Tuple [a, b] k2 pt2) pos) (tPar i j ta) := by
  intro pins s σ H D I h
  rw [exec_Assign_arm]
  refine wpAny_bind (wpAny_standAt ?_)
  rw [hs]
  refine wpAny_bind (wpAny_pure ?_)
  rw [if_neg (by decide)]
  refine wpAny_bind (Tuple_ (thn (ha _ pins s σ H _ I h) fun us s1 ⟨vs, H1, I1, r1, q1⟩ => ?_))
  obtain ⟨v, w, e1, q1⟩ := q1
  subst e1
  obtain ⟨u1, u2, rfl, rv, rw'⟩ : ∃ u1 u2, us = [u1, u2] ∧ RelV v u1 ∧ RelV w u2 := by
    cases r1 with
    | cons p q =>
      cases q with
      | cons p' q' =>
        cases q'
        exact ⟨_, _, rfl, p, p'⟩
  refine wpAny_newObj_type ?_ (by show 2 ≤ sizeLine; decide)
  have I2 : Inv X pins σ H1 { s1 with heap := s1.heap.push { cls := .type "tuple", data := .seq [u1, u2].toArray } } := I1.kept (t' := s1.toks) fun b o e => Heap.get?_push_of_some _ e
  rw [hw]
  refine wpAny_bind (wpAny_pure ?_)
  show wpAny (model X.prog X.w) X.A (do rule "assign.swapped-stores"; let items ← unpackItems (.ref s1.heap.objs.size) 2 none; assignInOrder [fun v => bindName X.env y v, fun v => bindName X.env x v] items.reverse; pure Flow.next) _ _ _
  refine wpAny_bind (wpAny_rule (wpAny_bind (unpackItems_tuple (items := #[u1, u2]) (I.ok.hd hc) (IsTup.new s1.heap _) fun h' hx' => ?_)))
  have I3 := I2.kept (h' := h') (t' := s1.toks) fun b o e => hx' b o (Nat.ne_of_lt (Heap.lt_size e)) e
  show wpAny _ _ (assignInOrder [fun v => bindName X.env y v, fun v => bindName X.env x v] [u2, u1] >>= fun _ => pure Flow.next) _ _ _
  refine wpAny_bind (assignInOrder_cons (wpAny_bindName (store_ok I3 hN hj (.inl hy) rw' (fun s2 I4 => ?_) (.inr hy))))
  refine assignInOrder_cons (wpAny_bindName (store_ok I4 hN hi (.inl hx) rv (fun s3 I5 => assignInOrder_nil (wpAny_pure ?_)) (.inr hx)))
  rw [List.set_comm _ _ (Ne.symm hij)] at I5
  exact ⟨_, H1, I5, q1⟩
/-- o[i] op= e -/
noncomputable def tAugS (to ti te : TE) (tget : V → V → Hp → VK → Prop) (tip : TIp) (tset : TSet) : TS := fun D σ H => to σ H fun o H1 => ti σ H1 fun i H2 => tget o i H2 fun x H3 => te σ H3 fun y H4 => tip x y H4 fun z H5 => tset o i z H5 fun H6 => D.nx σ H6
/-- o[i], by values -/
noncomputable def PGet (X : Cx) (t : V → V → Hp → VK → Prop) : Prop :=
  ∀ (pins : List (Addr × Obj)) (s : Shared) (σ : St) (H : Hp) (o i : V) (ov iv : Value) (Q : VK), Inv X pins σ H s → RelV o ov → RelV i iv → t o i H Q →
    wpAny (model X.prog X.w) X.A (getItem ov iv) (EP X pins σ Q) X.xe s
theorem ps_augS {o i e : Expr} {to ti te : TE} {tget : V → V → Hp → VK → Prop} {tip : TIp} {tset : TSet} {op : Operator} {tpos : Pos} (ho : PE X o to) (hi : PE X i ti) (hg : PGet X tget) (he : PE X e te) (hp : PIp X op tip) (hs : PSet X tset)
    (ha : ∀ ov iv new, augStore i ov iv new = (do holding [new, ov, iv] (setItem ov iv new); release [new, ov, iv] []; pure .next) := by intros; rfl) : PS X (.AugAssign (.Subscript o i tpos) op e pos) (tAugS to ti te tget tip tset) := by
  intro pins s σ H D I h
  refine wpAny_AugAssign_SubscriptAny (thn (ho pins s σ H _ I h) fun ov s1 ⟨x1, H1, I1, r1, q1⟩ => ?_) ha
  refine thn (hi pins s1 σ H1 _ I1 q1) fun iv s2 ⟨x2, H2, I2, r2, q2⟩ => ?_
  refine thn (hg pins s2 σ H2 x1 x2 ov iv _ I2 r1 r2 q2) fun old s3 ⟨x3, H3, I3, r3, q3⟩ => ?_
  refine thn (he pins s3 σ H3 _ I3 q3) fun v s4 ⟨x4, H4, I4, r4, q4⟩ => ?_
  refine thn (hp pins s4 σ H4 x3 x4 old v _ I4 r3 r4 q4) fun new s5 ⟨x5, H5, I5, r5, q5⟩ => ?_
  exact thn (hs pins s5 σ H5 x1 x2 x5 ov iv new _ I5 r1 r2 r5 q5) fun _ s6 ⟨H6, I6, q6⟩ => ⟨σ, H6, I6, q6⟩
/-- ints -/
noncomputable def ipI (f : Int → Int → Int) : TIp := fun x y H Q => ∃ i j, x = .int i ∧ y = .int j ∧ Q (.int (f i j)) H
theorem ip_add : PIp X .Add (ipI fun i j => i + j) := by
  intro pins s σ H x y v u Q I r1 r2 h
  obtain ⟨i, j, e1, e2, q⟩ := h
  subst e1; subst e2
  obtain ⟨t, rfl⟩ := r1
  obtain ⟨t', rfl⟩ := r2
  exact iadd_int ⟨.int _, H, I.tok _, ⟨_, rfl⟩, q⟩
theorem ip_sub : PIp X .Sub (ipI fun i j => i - j) := by
  intro pins s σ H x y v u Q I r1 r2 h
  obtain ⟨i, j, e1, e2, q⟩ := h
  subst e1; subst e2
  obtain ⟨t, rfl⟩ := r1
  obtain ⟨t', rfl⟩ := r2
  exact isub_int ⟨.int _, H, I.tok _, ⟨_, rfl⟩, q⟩
end

/-! ### while -/
section
variable {X : Cx} {pos : Pos}
/-- the invariant W with its measure -/
noncomputable def tWhile (c : TT) (tb : TS) : TS := fun D σ H => ∃ W : Nat → St → Hp → Prop, (∃ m, W m σ H) ∧ ∀ m σ H, W m σ H →
  c σ H fun b H1 => if b = true then ∃ N : St → Hp → Prop, (∀ σ' H', N σ' H' → ∃ m', m' < m ∧ W m' σ' H') ∧ tb { D with nx := N, ct := N, bk := D.nx } σ H1 else D.nx σ H1
theorem ps_while {c : Expr} {body : List Stmt} {tc : TT} {tb : TS} (hp : PassesOwn (model X.prog X.w) X.A X.env X.xe) (hc : PT X c tc) (hb : PSs X body tb) : PS X (.While c body [] pos) (tWhile tc tb) := by
  intro pins s σ H D I h
  obtain ⟨W, ⟨m0, w0⟩, turn⟩ := h
  refine wpAny_While (codeAny_whileLoop (fun n s' => ∃ σ' H', Inv X pins σ' H' s' ∧ W n σ' H') ?_ m0 ⟨σ, H, I, w0⟩)
  rintro n s1 ⟨σ1, H1, I1, w1⟩
  refine wpAny_passesOwn hp (thn (hc pins s1 σ1 H1 _ I1 (turn n σ1 H1 w1)) fun b s2 ⟨H2, I2, q2⟩ => ?_)
  cases b with
  | true =>
    obtain ⟨N, hN, q2⟩ := q2
    rw [if_pos rfl]
    refine wpAny_passesOwn hp (thn (hb pins s2 σ1 H2 _ I2 q2) fun f s3 q3 => ?_)
    cases f with
    | next =>
      obtain ⟨σ3, H3, I3, n3⟩ := q3
      obtain ⟨m', hm, w3⟩ := hN σ3 H3 n3
      exact ⟨m', hm, σ3, H3, I3, w3⟩
    | cont =>
      obtain ⟨σ3, H3, I3, n3⟩ := q3
      obtain ⟨m', hm, w3⟩ := hN σ3 H3 n3
      exact ⟨m', hm, σ3, H3, I3, w3⟩
    | brk => exact q3
    | ret v => exact q3
  | false =>
    rw [if_neg Bool.false_ne_true]
    exact wpAny_execs_nil ⟨σ1, H2, I2, q2⟩
end

/-! ### what a loop or a comprehension walks -/
/-- at turn i: it yields x (the heap may grow), or it stops -/
structure It where
  go : Nat → Hp → Prop
  yld : Nat → Hp → V → Hp → Prop
  stop : Nat → Hp → Prop
/-- the iterator's own objects may turn: they are not the frame's, not pinned, younger than the entry (or a comprehension's own) -/
noncomputable def FpOk (X : Cx) (pins : List (Addr × Obj)) (H : Hp) (b : Addr) : Prop :=
  H b = none ∧ b ≠ X.env.locals ∧ b ∉ X.fs ∧ (b ∈ X.ex ∨ X.s₀.heap.objs.size ≤ b) ∧ (∀ x c, X.env.cells.lookup x = some c → c ≠ b) ∧ ∀ p ∈ X.pn ++ pins, p.1 ≠ b
theorem Inv.fpOk {X : Cx} {pins : List (Addr × Obj)} {σ : St} {H H' : Hp} {s : Shared} {b : Addr} (I : Inv X pins σ H s) (hb : s.heap.objs.size ≤ b) (hn : H' b = none) : FpOk X pins H' b := by
  refine ⟨hn, Nat.ne_of_gt (Nat.lt_of_lt_of_le I.lt hb), I.nofs hb, .inr (Nat.le_trans I.sz hb), fun x c e z => ?_, fun p hp z => ?_⟩
  · obtain ⟨v, q⟩ := I.cell x c e
    exact absurd (Nat.lt_of_lt_of_le q.lt (by rw [z]; exact hb)) (Nat.lt_irrefl _)
  · exact absurd (Nat.lt_of_lt_of_le (Heap.lt_size (I.pin p hp).1) (by rw [z]; exact hb)) (Nat.lt_irrefl _)
structure Turn (P : Program) (w : World) (K : PySem.W.Frag) (tg : Expr) (J : It) (fp : List Addr) (it : Addr) (tn : Nat → Heap → Prop) : Prop where
  mem : it ∈ fp
  obj : ∀ i h, tn i h → ∀ b ∈ fp, ∃ o, h.get? b = some o ∧ ∀ v, o.data ≠ .cell v
  keep : ∀ i h h', tn i h → (∀ b ∈ fp, ∀ o, h.get? b = some o → h'.get? b = some o) → tn i h'
  item : ∀ (X : Cx), X.prog = P → X.w = w → X.K = K → X.calm = true → ∀ (i : Nat) (pins : List (Addr × Obj)) (s : Shared) (σ : St) (H : Hp) (E : Value → Shared → Prop), Inv X pins σ H s → (∀ b ∈ fp, FpOk X pins H b) → tn i s.heap → J.go i H →
    wpAny (model P w) X.A (pyNext (.ref it)) (fun r s1 => ∃ u, r = some u ∧
      wpAny (model P w) X.A (letOwnedTupleGo tg (.ref it) u) (fun _ s2 => ∃ x H', Inv X pins σ H' s2 ∧ RelV x u ∧ J.yld i H x H' ∧ tn (i + 1) s2.heap ∧ ∀ b ∈ fp, H' b = none) E s1) E s
  done : ∀ (X : Cx), X.prog = P → X.w = w → X.K = K → X.calm = true → ∀ (i : Nat) (pins : List (Addr × Obj)) (s : Shared) (σ : St) (H : Hp) (E : Value → Shared → Prop), Inv X pins σ H s → (∀ b ∈ fp, FpOk X pins H b) → tn i s.heap → J.stop i H →
    wpAny (model P w) X.A (pyNext (.ref it)) (fun r s1 => r = none ∧ Inv X pins σ H s1) E s
  self : ∀ (A : Around) (i : Nat) (s : Shared) (Q : Value → Shared → Prop) (E : Value → Shared → Prop), tn i s.heap → Q (.ref it) s → wpAny (model P w) A (pyIter (.ref it)) Q E s
noncomputable abbrev TI := St → Hp → (It → Hp → Prop) → Prop
/-- an iterator has come -/
noncomputable def PIE (X : Cx) (pins : List (Addr × Obj)) (σ : St) (tg : Expr) (R : It → Hp → Prop) (itv : Value) (s2 : Shared) : Prop :=
  ∃ (it : Addr) (fp : List Addr) (tn : Nat → Heap → Prop) (J : It) (H' : Hp), itv = .ref it ∧ Inv X pins σ H' s2 ∧ Turn X.prog X.w X.K tg J fp it tn ∧ tn 0 s2.heap ∧ (∀ b ∈ fp, FpOk X pins H' b) ∧ R J H'
noncomputable def PI (X : Cx) (tg iter : Expr) (wi : TI) : Prop :=
  ∀ (pins : List (Addr × Obj)) (s : Shared) (σ : St) (H : Hp) (R : It → Hp → Prop), Inv X pins σ H s → wi σ H R →
    wpAny (model X.prog X.w) X.A (eval iter X.env) (fun v s1 => wpAny (model X.prog X.w) X.A (pyIter v) (PIE X pins σ tg R) X.xe s1) X.xe s

/-- the step ahead of the store is nothing for an iterator that keeps no tuple -/
theorem go_of {M : Model} {A : Around} {E : Value → Shared → Prop} {s : Shared} {tg : Expr} {it : Addr} {u : Value} {o : Obj} {n : String} {vs : Array Value} {Q : Unit → Shared → Prop} (ho : s.heap.get? it = some o) (hc : o.cls = .type n) (hd : o.data = .fields vs)
    (hn : ["enumerate", "zip", "dict_itemiterator", "dict_reverseitemiterator", "odict_iterator", "itertools.zip_longest", "itertools.pairwise"].contains n = false) (hQ : Q () s) : wpAny M A (letOwnedTupleGo tg (.ref it) u) Q E s := by
  unfold letOwnedTupleGo
  cases tg <;> first
    | exact wpAny_pure hQ
    | (cases u <;> first
        | exact wpAny_pure hQ
        | (refine wpAny_bind (wpAny_load ho ?_)
           rw [hc, hd]
           show wpAny M A (if (["enumerate", "zip", "dict_itemiterator", "dict_reverseitemiterator", "odict_iterator", "itertools.zip_longest", "itertools.pairwise"].contains n && vs[0]? == some (rawInt _)) = true then _ else _) Q E s
           rw [if_neg (by intro h; rw [hn, Bool.false_and] at h; cases h)]
           exact wpAny_pure hQ))

/-- the list at a, as it stands at each turn (a loop may append to it) -/
noncomputable def Itl (K : PySem.W.Frag) (a : Addr) : It :=
  ⟨fun i H => ∃ xs x, SqL K H a xs ∧ xs[i]? = some x, fun i H x H' => H' = H ∧ ∀ xs, SqL K H a xs → xs[i]? = some x, fun i H => ∃ xs, SqL K H a xs ∧ xs.length ≤ i⟩
noncomputable def Itt (K : PySem.W.Frag) (a : Addr) : It :=
  ⟨fun i H => ∃ xs x, SqT K H a xs ∧ xs[i]? = some x, fun i H x H' => H' = H ∧ ∀ xs, SqT K H a xs → xs[i]? = some x, fun i H => ∃ xs, SqT K H a xs ∧ xs.length ≤ i⟩
/-- lo, lo + 1, .. (n of them) -/
noncomputable def Itr (lo : Int) (n : Nat) : It := ⟨fun i _ => i < n, fun i H x H' => H' = H ∧ x = .int (lo + i), fun i _ => n ≤ i⟩
theorem turn_list {P : Program} {w : World} {K : PySem.W.Frag} {tg : Expr} (a it : Addr) : Turn P w K tg (Itl K a) [it] it (fun i h => h.IsListIter it a i) where
  mem := by simp
  obj := fun i h st b hb => by
    have e : b = it := by simpa using hb
    subst e
    obtain ⟨o, e, c, d⟩ := st
    exact ⟨o, e, fun v z => by rw [d] at z; cases z⟩
  keep := fun i h h' st k => st.at fun o e => k it (by simp) o e
  item := by
    intro X hP hw hK hc i pins s σ H E I hf st hg
    subst hP hw hK
    obtain ⟨xs, x, hq, hx⟩ := hg
    obtain ⟨its, rv, p, hz⟩ := I.list hq
    obtain ⟨u, hu, ru⟩ := rv.get hx
    obtain ⟨f0, f1, f2, f3, f4, f5⟩ := hf it (by simp)
    refine wpAny_pyNext_list_item st p.isList (x := u) (by simpa using hu) fun h' st' sb => ?_
    have I1 : Inv X pins σ H { s with heap := h' } := I.turned (t' := s.toks) (fun b o hb e => (sb.2 b hb).trans e) f0 f1 f3 f4 f5
    obtain ⟨o, e, c, d⟩ := id st'
    exact ⟨u, rfl, go_of (s := { s with heap := h' }) e c d (by decide) ⟨x, H, I1, ru, ⟨rfl, fun ys hy => by rw [I.list_inj hy hq]; exact hx⟩, st', fun b hb => (hf b hb).1⟩⟩
  done := by
    intro X hP hw hK hc i pins s σ H E I hf st hg
    subst hP hw hK
    obtain ⟨xs, hq, hx⟩ := hg
    obtain ⟨its, rv, p, hz⟩ := I.list hq
    obtain ⟨f0, f1, f2, f3, f4, f5⟩ := hf it (by simp)
    have hl := rv.length
    exact wpAny_pyNext_list_end (I.ok.hd hc) st p.isList (by simp; omega) fun h' eb => ⟨rfl, I.turned (t' := s.toks) (fun b o hb e => eb b o hb e) f0 f1 f3 f4 f5⟩
  self := fun _ _ _ _ _ st h => wpAny_pyIter_listiter st h
theorem turn_tuple {P : Program} {w : World} {K : PySem.W.Frag} {tg : Expr} (a it : Addr) : Turn P w K tg (Itt K a) [it] it (fun i h => h.IsTupleIter it a i) where
  mem := by simp
  obj := fun i h st b hb => by
    have e : b = it := by simpa using hb
    subst e
    obtain ⟨o, e, c, d⟩ := st
    exact ⟨o, e, fun v z => by rw [d] at z; cases z⟩
  keep := fun i h h' st k => st.at fun o e => k it (by simp) o e
  item := by
    intro X hP hw hK hc i pins s σ H E I hf st hg
    subst hP hw hK
    obtain ⟨xs, x, hq, hx⟩ := hg
    obtain ⟨its, rv, p, hz⟩ := I.tuple hq
    obtain ⟨u, hu, ru⟩ := rv.get hx
    obtain ⟨f0, f1, f2, f3, f4, f5⟩ := hf it (by simp)
    refine wpAny_pyNext_tuple_item st (show s.heap.IsTuple a its.toArray from p) (x := u) (by simpa using hu) fun h' st' sb => ?_
    have I1 : Inv X pins σ H { s with heap := h' } := I.turned (t' := s.toks) (fun b o hb e => (sb.2 b hb).trans e) f0 f1 f3 f4 f5
    obtain ⟨o, e, c, d⟩ := id st'
    exact ⟨u, rfl, go_of (s := { s with heap := h' }) e c d (by decide) ⟨x, H, I1, ru, ⟨rfl, fun ys hy => by rw [I.tuple_inj hy hq]; exact hx⟩, st', fun b hb => (hf b hb).1⟩⟩
  done := by
    intro X hP hw hK hc i pins s σ H E I hf st hg
    subst hP hw hK
    obtain ⟨xs, hq, hx⟩ := hg
    obtain ⟨its, rv, p, hz⟩ := I.tuple hq
    obtain ⟨f0, f1, f2, f3, f4, f5⟩ := hf it (by simp)
    have hl := rv.length
    exact wpAny_pyNext_tuple_end (I.ok.hd hc) st (show s.heap.IsTuple a its.toArray from p) (by simp; omega) fun h' eb => ⟨rfl, I.turned (t' := s.toks) (fun b o hb e => eb b o hb e) f0 f1 f3 f4 f5⟩
  self := fun _ _ _ _ _ st h => wpAny_pyIter_tupleiter st h
theorem turn_range {P : Program} {w : World} {K : PySem.W.Frag} {tg : Expr} (it : Addr) (lo : Int) (n : Nat) : Turn P w K tg (Itr lo n) [it] it (fun i h => IsRangeIter h it (lo + (i : Nat) * 1) ((n : Int) - (i : Nat)) 1) where
  mem := by simp
  obj := fun i h st b hb => by
    have e : b = it := by simpa using hb
    subst e
    exact ⟨_, st, fun v z => by
      have z' : Data.fields _ = Data.cell v := z
      cases z'⟩
  keep := fun i h h' st k => k it (by simp) _ st
  item := by
    intro X hP hw hK hc i pins s σ H E I hf st hg
    subst hP hw hK
    obtain ⟨f0, f1, f2, f3, f4, f5⟩ := hf it (by simp)
    have W := Walks.range (prog := X.prog) (w := X.w) (I.ok.hd hc) it lo 1 n
    refine W.item i s _ _ hg st fun v h' tk hv st' kk => ?_
    obtain ⟨t, rfl⟩ := hv
    have I1 : Inv X pins σ H { s with heap := h', toks := tk } := I.turned (fun b o hb e => kk b o (by simpa using hb) e) f0 f1 f3 f4 f5
    refine ⟨_, rfl, go_of (s := { s with heap := h', toks := tk }) (n := "range_iterator") st' rfl rfl (by decide) ⟨.int (lo + i), H, I1, ⟨t, ?_⟩, ⟨rfl, rfl⟩, st', fun b hb => (hf b hb).1⟩⟩
    rw [Int.mul_one]
  done := by
    intro X hP hw hK hc i pins s σ H E I hf st hg
    subst hP hw hK
    obtain ⟨f0, f1, f2, f3, f4, f5⟩ := hf it (by simp)
    exact wpAny_pyNext_range_end (I.ok.hd hc) st (by have : n ≤ i := hg; omega) fun h' eb => ⟨rfl, I.turned (t' := s.toks) (fun b o hb e => eb b o hb e) f0 f1 f3 f4 f5⟩
  self := fun _ _ _ _ _ st h => wpAny_pyIter_rangeiter st h
end L2

namespace L2
open PySem PySem.Spec PyProof.Rows
section
variable {X : Cx} {tg : Expr}
noncomputable def iList (K : PySem.W.Frag) (tl : TE) : TI := fun σ H R => tl σ H fun x H1 => ∃ a, x = .ref a ∧ (∃ xs, SqL K H1 a xs) ∧ R (Itl K a) H1
noncomputable def iTup (K : PySem.W.Frag) (tl : TE) : TI := fun σ H R => tl σ H fun x H1 => ∃ a, x = .ref a ∧ (∃ xs, SqT K H1 a xs) ∧ R (Itt K a) H1
theorem pi_list {l : Expr} {tl : TE} (hl : PE X l tl) : PI X tg l (iList X.K tl) := by
  intro pins s σ H R I h
  refine thn (hl pins s σ H _ I h) fun v s1 ⟨x, H1, I1, r1, q1⟩ => ?_
  obtain ⟨a, e, ⟨xs, hq⟩, q⟩ := q1
  subst e
  cases r1
  obtain ⟨its, rv, p, hz⟩ := I1.list hq
  refine wpAny_pyIter_list p.isList ?_
  refine ⟨s1.heap.objs.size, [s1.heap.objs.size], _, _, H1, rfl, I1.kept (t' := s1.toks) fun b o e => Heap.get?_push_of_some _ e, turn_list a _, ⟨_, Heap.get?_push_size _ rfl, rfl, rfl⟩, fun b hb => ?_, q⟩
  have e : b = s1.heap.objs.size := by simpa using hb
  subst e
  exact I1.fpOk (Nat.le_refl _) (I1.hok.fresh (Nat.le_refl _))
theorem pi_tup {l : Expr} {tl : TE} (hl : PE X l tl) : PI X tg l (iTup X.K tl) := by
  intro pins s σ H R I h
  refine thn (hl pins s σ H _ I h) fun v s1 ⟨x, H1, I1, r1, q1⟩ => ?_
  obtain ⟨a, e, ⟨xs, hq⟩, q⟩ := q1
  subst e
  cases r1
  obtain ⟨its, rv, p, hz⟩ := I1.tuple hq
  refine wpAny_pyIter_tuple (show s1.heap.IsTuple a its.toArray from p) ?_
  refine ⟨s1.heap.objs.size, [s1.heap.objs.size], _, _, H1, rfl, I1.kept (t' := s1.toks) fun b o e => Heap.get?_push_of_some _ e, turn_tuple a _, ⟨_, Heap.get?_push_size _ rfl, rfl, rfl⟩, fun b hb => ?_, q⟩
  have e : b = s1.heap.objs.size := by simpa using hb
  subst e
  exact I1.fpOk (Nat.le_refl _) (I1.hok.fresh (Nat.le_refl _))
/-- a range object just made, walked -/
theorem range_it {pins : List (Addr × Obj)} {σ : St} {H : Hp} {s : Shared} {R : It → Hp → Prop} {E : Value → Shared → Prop} {lo hi : Int} {t u v : Tok} {tk : Nat} (I : Inv X pins σ H s) (h1 : -(2 ^ 62) ≤ lo) (h2 : lo < 2 ^ 62) (h3 : -(2 ^ 62) ≤ hi) (h4 : hi < 2 ^ 62)
    (q : R (Itr lo (hi - lo).toNat) H) : wpAny (model X.prog X.w) X.A (pyIter (.ref s.heap.objs.size)) (PIE X pins σ tg R) E { s with heap := s.heap.push { cls := .type "range", data := .fields #[.int lo t, .int hi u, .int 1 v] }, toks := tk } := by
  refine wpAny_pyIter_range (IsRange.new ..) (small_one h1 h2 h3 h4) ?_
  have I1 : Inv X pins σ H { s with heap := s.heap.push { cls := .type "range", data := .fields #[.int lo t, .int hi u, .int 1 v] }, toks := tk } := I.kept fun b o e => Heap.get?_push_of_some _ e
  refine ⟨(s.heap.push { cls := .type "range", data := .fields #[.int lo t, .int hi u, .int 1 v] }).objs.size, [(s.heap.push { cls := .type "range", data := .fields #[.int lo t, .int hi u, .int 1 v] }).objs.size], _, _, H, rfl,
    I1.kept (t' := tk) fun b o e => Heap.get?_push_of_some _ e, turn_range _ lo (hi - lo).toNat, ?_, fun b hb => ?_, q⟩
  · have e1 : lo + ((0 : Nat) : Int) * 1 = lo := by simp
    have e2 : (((hi - lo).toNat : Nat) : Int) - ((0 : Nat) : Int) = Builtin.Range.rangeSize lo hi 1 := by rw [rangeSize_one]; split <;> omega
    show IsRangeIter _ _ (lo + ((0 : Nat) : Int) * 1) ((((hi - lo).toNat : Nat) : Int) - ((0 : Nat) : Int)) 1
    rw [e1, e2]
    exact Heap.get?_push_size _ rfl
  · have e : b = (s.heap.push { cls := .type "range", data := .fields #[.int lo t, .int hi u, .int 1 v] }).objs.size := by simpa using hb
    subst e
    exact I1.fpOk (Nat.le_refl _) (I1.hok.fresh (Nat.le_refl _))
noncomputable def iRng1 (ta : TA) : TI := fun σ H R => ta σ H fun vs H1 => ∃ j : Int, vs = [.int j] ∧ -(2 ^ 62) ≤ j ∧ j < 2 ^ 62 ∧ R (Itr 0 j.toNat) H1
theorem pi_range1 {a : Expr} {ta : TA} {p pos : Pos} (hg : Gl X "range") (hm : X.mg "range" = none) (ha : PA X [a] ta) (hs : starEach [a] X.env = [(false, eval a X.env)] := by rfl) : PI X tg (.Call (.Name "range" p) [a] [] pos) (iRng1 ta) := by
  intro pins s σ H R I h
  refine Call_ (ld_blt I hg hm boot_range (PyProof.Rows.callWith_type1 (thn (ha pos pins s σ H _ I h) fun us s1 ⟨vs, H1, I1, r1, q1⟩ => ?_) hs rfl))
  obtain ⟨j, e, q1, q2, q⟩ := q1
  subst e
  cases r1 with
  | cons r rr =>
    cases rr
    obtain ⟨t, rfl⟩ := r
    exact call_range_1 (range_it I1 (by omega) (by omega) q1 q2 (by simpa using q))
/-! ### for -/
/-- W: the invariant by the turn and a measure; N: what the body is to reach -/
noncomputable def tFor (wi : TI) (g : TG) (tb : TS) : TS := fun D σ H => wi σ H fun J H1 => ∃ W : Nat → Nat → St → Hp → Prop, (∃ m, W 0 m σ H1) ∧ ∀ i m σ H, W i m σ H →
  (J.stop i H ∧ D.nx σ H) ∨ (J.go i H ∧ ∃ N : St → Hp → Prop, (∀ σ' H', N σ' H' → ∃ m', m' < m ∧ W (i + 1) m' σ' H') ∧ ∀ x H', J.yld i H x H' → g x σ H' fun σ2 H2 => tb { D with nx := N, ct := N, bk := D.nx } σ2 H2)
/-- the records at fp as they stand -/
noncomputable def pinsAt (fp : List Addr) (h : Heap) : List (Addr × Obj) := fp.filterMap fun b => (h.get? b).map fun o => (b, o)
theorem mem_pinsAt {fp : List Addr} {h : Heap} {b : Addr} {o : Obj} (hb : b ∈ fp) (e : h.get? b = some o) : (b, o) ∈ pinsAt fp h := List.mem_filterMap.mpr ⟨b, hb, by rw [e]; rfl⟩
theorem of_pinsAt {fp : List Addr} {h : Heap} {p : Addr × Obj} (hp : p ∈ pinsAt fp h) : p.1 ∈ fp ∧ h.get? p.1 = some p.2 := by
  obtain ⟨b, hb, e⟩ := List.mem_filterMap.mp hp
  cases q : h.get? b with
  | none => rw [q] at e; cases e
  | some o =>
    rw [q] at e
    have e' : (b, o) = p := Option.some.inj e
    subst e'
    exact ⟨hb, q⟩
theorem Inv.pinned {pins : List (Addr × Obj)} {σ : St} {H : Hp} {s : Shared} {fp : List Addr} (I : Inv X pins σ H s) (hf : ∀ b ∈ fp, FpOk X pins H b) (ho : ∀ b ∈ fp, ∃ o, s.heap.get? b = some o ∧ ∀ v, o.data ≠ .cell v) : Inv X (pins ++ pinsAt fp s.heap) σ H s :=
  I.pins_of fun p hp => (List.mem_append.mp hp).elim (fun z => I.pin p (List.mem_append_right _ z)) fun z => by
    obtain ⟨hb, e⟩ := of_pinsAt z
    obtain ⟨f0, f1, f2, _⟩ := hf p.1 hb
    obtain ⟨o, e', d⟩ := ho p.1 hb
    rw [e] at e'; cases e'
    exact ⟨e, f0, f1, f2, d⟩
theorem Inv.unpinned {pins pl : List (Addr × Obj)} {σ : St} {H : Hp} {s : Shared} (I : Inv X (pins ++ pl) σ H s) : Inv X pins σ H s := I.pins_of fun p hp => I.pin p (List.mem_append_right _ (List.mem_append_left _ hp))
theorem ps_for {iter : Expr} {body : List Stmt} {wi : TI} {g : TG} {tb : TS} {pos : Pos} (hp : PassesOwn (model X.prog X.w) X.A X.env X.xe) (hc : X.calm = true) (hi : PI X tg iter wi) (hg : PG X tg g) (hb : PSs X body tb)
    (hs : ∀ x, foldedSetIterable iter X.env x = pure x := by intro _; rfl) : PS X (.For tg iter body [] pos) (tFor wi g tb) := by
  intro pins s σ H D I h
  refine wpAny_For (thn (hi pins s σ H _ I h) fun v s1 h1 => thn h1 fun itv s2 h2 => ?_) hs
  obtain ⟨it, fp, tn, J, H2, e, I2, T, st2, f2, W, ⟨m0, w0⟩, turn⟩ := h2
  subst e
  -- what stays true of the iterator's objects through the loop
  have stat : ∀ {H' : Hp}, (∀ b ∈ fp, H' b = none) → ∀ b ∈ fp, FpOk X pins H' b := fun hn b hb => ⟨hn b hb, (f2 b hb).2⟩
  refine codeAny_forLoop_any (fun n s' => ∃ i σ' H', Inv X pins σ' H' s' ∧ tn i s'.heap ∧ (∀ b ∈ fp, H' b = none) ∧ W i n σ' H') ?_ m0 ⟨0, σ, H2, I2, st2, fun b hb => (f2 b hb).1, w0⟩
  rintro n s3 ⟨i, σ3, H3, I3, st3, fr3, w3⟩
  rcases turn i n σ3 H3 w3 with ⟨stop, qn⟩ | ⟨go, N, hN, step⟩
  · refine wpAny_passesOwn hp (thn (T.done X rfl rfl rfl hc i pins s3 σ3 H3 X.xe I3 (stat fr3) st3 stop) fun r s4 ⟨hr, I4⟩ => ?_)
    subst hr
    exact wpAny_execs_nil ⟨σ3, H3, I4, qn⟩
  · refine wpAny_passesOwn hp (thn (T.item X rfl rfl rfl hc i pins s3 σ3 H3 X.xe I3 (stat fr3) st3 go) fun r s4 ⟨u, hr, h4⟩ => ?_)
    subst hr
    refine wpAny_passesOwn hp (thn h4 fun _ s5 ⟨x, H5, I5, r5, y5, st5, fr5⟩ => ?_)
    have I5' := I5.pinned (stat fr5) (T.obj _ _ st5)
    refine wpAny_passesOwn hp (thn (hg _ s5 σ3 H5 x u _ I5' r5 (step x H5 y5)) fun _ s6 ⟨σ6, H6, I6, q6⟩ => ?_)
    refine wpAny_passesOwn hp (thn (hb _ s6 σ6 H6 _ I6 q6) fun f s7 q7 => ?_)
    have again : ∀ {σ7 : St} {H7 : Hp}, Inv X (pins ++ pinsAt fp s5.heap) σ7 H7 s7 → N σ7 H7 → ∃ m, m < n ∧ ∃ i σ' H', Inv X pins σ' H' s7 ∧ tn i s7.heap ∧ (∀ b ∈ fp, H' b = none) ∧ W i m σ' H' := fun {σ7 H7} I7 n7 => by
      obtain ⟨m', hm, w7⟩ := hN σ7 H7 n7
      refine ⟨m', hm, i + 1, σ7, H7, I7.unpinned, T.keep _ _ _ st5 fun b hb o e => (I7.pin (b, o) (List.mem_append_right _ (List.mem_append_right _ (mem_pinsAt hb e)))).1, fun b hb => ?_, w7⟩
      obtain ⟨o, e, d⟩ := T.obj _ _ st5 b hb
      exact (I7.pin (b, o) (List.mem_append_right _ (List.mem_append_right _ (mem_pinsAt hb e)))).2.1
    cases f with
    | next => obtain ⟨σ7, H7, I7, n7⟩ := q7; exact again I7 n7
    | cont => obtain ⟨σ7, H7, I7, n7⟩ := q7; exact again I7 n7
    | brk => obtain ⟨σ7, H7, I7, q7⟩ := q7; exact ⟨σ7, H7, I7.unpinned, q7⟩
    | ret v => obtain ⟨x7, σ7, H7, I7, r7, q7⟩ := q7; exact ⟨x7, σ7, H7, I7.unpinned, r7, q7⟩
end

/-! ### the forms one uses -/
end L2

namespace L2
open PySem PySem.Spec PyProof.Rows

noncomputable abbrev R2 := V → V → Hp → VK → Prop
/-- a two-place operation on values: f is binaryOp op, inplaceOp op or compareOp op -/
noncomputable def OpR (X : Cx) (f : Value → Value → Sem Value) (r : R2) : Prop :=
  ∀ (pins : List (Addr × Obj)) (s : Shared) (σ : St) (H : Hp) (x y : V) (v u : Value) (Q : VK), Inv X pins σ H s → RelV x v → RelV y u → r x y H Q →
    wpAny (model X.prog X.w) X.A (f v u) (EP X pins σ Q) X.xe s
/-- a one-place operation -/
noncomputable def UnR (X : Cx) (f : Value → Sem Value) (r : V → Hp → VK → Prop) : Prop :=
  ∀ (pins : List (Addr × Obj)) (s : Shared) (σ : St) (H : Hp) (x : V) (v : Value) (Q : VK), Inv X pins σ H s → RelV x v → r x H Q →
    wpAny (model X.prog X.w) X.A (f v) (EP X pins σ Q) X.xe s
/-- a call of a value that is known (a builtin, a type) with values -/
noncomputable def CallR (X : Cx) (f : Value) (r : List V → Hp → VK → Prop) : Prop :=
  ∀ (pins : List (Addr × Obj)) (s : Shared) (σ : St) (H : Hp) (xs : List V) (us : List Value) (Q : VK), Inv X pins σ H s → Vals xs us → r xs H Q →
    wpAny (model X.prog X.w) X.A (call f us) (EP X pins σ Q) X.xe s
noncomputable def tOp (r : R2) (ta tb : TE) : TE := fun σ H Q => ta σ H fun x H1 => tb σ H1 fun y H2 => r x y H2 Q
noncomputable def tUn (r : V → Hp → VK → Prop) (ta : TE) : TE := fun σ H Q => ta σ H fun x H1 => r x H1 Q
/-- ints in, under C, and a value out -/
noncomputable def rI (C : Int → Int → Prop) (g : Int → Int → V) : R2 := fun x y H Q => ∃ i j, x = .int i ∧ y = .int j ∧ C i j ∧ Q (g i j) H
noncomputable def rI0 (g : Int → Int → V) : R2 := fun x y H Q => ∃ i j, x = .int i ∧ y = .int j ∧ Q (g i j) H
noncomputable def rU (g : Int → V) : V → Hp → VK → Prop := fun x H Q => ∃ i, x = .int i ∧ Q (g i) H

section
variable {X : Cx} {a b c : Expr} {ta tb tc : TE} {pos : Pos}

theorem binT (ha : PE X a ta) (hb : PE X b tb) {pins : List (Addr × Obj)} {s : Shared} {σ : St} {H : Hp} {R : V → V → Hp → Prop} (I : Inv X pins σ H s)
    (h : ta σ H fun x H1 => tb σ H1 fun y H2 => R x y H2) {Q : Value → Shared → Prop} {f : Value → Value → Sem Value}
    (hf : ∀ v u s2 x y H2, Inv X pins σ H2 s2 → RelV x v → RelV y u → R x y H2 → wpAny (model X.prog X.w) X.A (f v u) Q X.xe s2) :
    wpAny (model X.prog X.w) X.A (eval a X.env) (fun v s₁ => wpAny (model X.prog X.w) X.A (eval b X.env) (fun u s₂ => wpAny (model X.prog X.w) X.A (f v u) Q X.xe s₂) X.xe s₁) X.xe s := by
  refine thn (ha pins s σ H _ I h) fun v s1 ⟨x, H1, I1, r1, q1⟩ => ?_
  refine thn (hb pins s1 σ H1 _ I1 q1) fun u s2 ⟨y, H2, I2, r2, q2⟩ => ?_
  exact hf v u s2 x y H2 I2 r1 r2 q2

theorem pe_op {op : Operator} {r : R2} (ho : OpR X (binaryOp op) r) (ha : PE X a ta) (hb : PE X b tb) : PE X (.BinOp a op b pos) (tOp r ta tb) := by
  intro pins s σ H Q I h
  exact wpAny_BinOp (binT ha hb I h fun v u s2 x y H2 I2 rx ry q => ho pins s2 σ H2 x y v u Q I2 rx ry q)
theorem pe_un {op : UnaryOp} {r : V → Hp → VK → Prop} (ho : UnR X (unaryOp op) r) (ha : PE X a ta) : PE X (.UnaryOp op a pos) (tUn r ta) := by
  intro pins s σ H Q I h
  exact UnaryOp_ (thn (ha pins s σ H _ I h) fun v s1 ⟨x, H1, I1, r1, q1⟩ => ho pins s1 σ H1 x v Q I1 r1 q1)
/-! ### ints -/
theorem opI {f : Value → Value → Sem Value} {C : Int → Int → Prop} {g : Int → Int → Int}
    (rule : ∀ (i j : Int) (t u : Tok) (s : Shared) (Q : Value → Shared → Prop) (E : Value → Shared → Prop), C i j → Q (.int (g i j) s.toks) { s with toks := s.toks + 1 } → wpAny (model X.prog X.w) X.A (f (.int i t) (.int j u)) Q E s) :
    OpR X f (rI C fun i j => .int (g i j)) := by
  intro pins s σ H x y v u Q I rx ry h
  obtain ⟨i, j, rfl, rfl, hc, q⟩ := h
  obtain ⟨t, rfl⟩ := rx
  obtain ⟨t', rfl⟩ := ry
  exact rule i j t t' s _ _ hc ⟨.int (g i j), H, I.tok _, ⟨_, rfl⟩, q⟩
theorem opI0 {f : Value → Value → Sem Value} {g : Int → Int → Int}
    (rule : ∀ (i j : Int) (t u : Tok) (s : Shared) (Q : Value → Shared → Prop) (E : Value → Shared → Prop), Q (.int (g i j) s.toks) { s with toks := s.toks + 1 } → wpAny (model X.prog X.w) X.A (f (.int i t) (.int j u)) Q E s) :
    OpR X f (rI0 fun i j => .int (g i j)) := by
  intro pins s σ H x y v u Q I rx ry h
  obtain ⟨i, j, rfl, rfl, q⟩ := h
  obtain ⟨t, rfl⟩ := rx
  obtain ⟨t', rfl⟩ := ry
  exact rule i j t t' s _ _ ⟨.int (g i j), H, I.tok _, ⟨_, rfl⟩, q⟩
theorem opB0 {f : Value → Value → Sem Value} {g : Int → Int → Bool}
    (rule : ∀ (i j : Int) (t u : Tok) (s : Shared) (Q : Value → Shared → Prop) (E : Value → Shared → Prop), Q (.bool (g i j)) s → wpAny (model X.prog X.w) X.A (f (.int i t) (.int j u)) Q E s) :
    OpR X f (rI0 fun i j => .bl (g i j)) := by
  intro pins s σ H x y v u Q I rx ry h
  obtain ⟨i, j, rfl, rfl, q⟩ := h
  obtain ⟨t, rfl⟩ := rx
  obtain ⟨t', rfl⟩ := ry
  exact rule i j t t' s _ _ ⟨.bl (g i j), H, I, rfl, q⟩

noncomputable def CDiv (i j : Int) : Prop := 0 < j ∧ j < 1073741824
noncomputable def CPow (i j : Int) : Prop := 0 ≤ j ∧ j ≤ 1000000 ∧ i.natAbs < 2 ^ 64
noncomputable def CMul (i j : Int) : Prop := (-(2 ^ 64) < i ∧ i < 2 ^ 64) ∨ (-(2 ^ 64) < j ∧ j < 2 ^ 64)
theorem CMul.ok {i j : Int} (h : CMul i j) : IntMulOk i j := by
  rcases h with ⟨h1, h2⟩ | ⟨h1, h2⟩
  · exact .of_left (intBits_le_64 h1 h2)
  · exact .of_right (intBits_le_64 h1 h2)
theorem op_add : OpR X (binaryOp .Add) (rI0 fun i j => .int (i + j)) := opI0 fun _ _ _ _ _ _ _ q => add_int q
theorem op_mul : OpR X (binaryOp .Mult) (rI CMul fun i j => .int (i * j)) := opI fun _ _ _ _ _ _ _ hc q => mul_int q hc.ok
/-- // by a positive divisor -/
theorem op_fdiv : OpR X (binaryOp .FloorDiv) (rI CDiv fun i j => .int (i / j)) := opI fun i j _ _ _ _ _ hc q => by
  have h1 : (0 : Int) < j := hc.1
  have h2 : j < 1073741824 := hc.2
  exact floordiv_int (by omega) (by rw [Int.fdiv_eq_ediv_of_nonneg i (by omega)]; exact q) (.inl (PyProof.noPylong_small (by omega)))
/-- % by a positive divisor of any size -/
theorem op_mod : OpR X (binaryOp .Mod) (rI (fun _ j => 0 < j) fun i j => .int (i % j)) := opI fun i j _ _ _ _ _ hc q => by
  have h1 : (0 : Int) < j := hc
  exact mod_int' (by omega) (by rw [Int.fmod_eq_emod_of_nonneg i (by omega)]; exact q)
theorem op_pow : OpR X (binaryOp .Pow) (rI CPow fun i j => .int (i ^ j.toNat)) := opI fun _ _ _ _ _ _ _ hc q => pow_int_small hc.1 hc.2.1 hc.2.2 q
theorem unI {f : Value → Sem Value} {g : Int → Int}
    (rule : ∀ (i : Int) (t : Tok) (s : Shared) (Q : Value → Shared → Prop) (E : Value → Shared → Prop), Q (.int (g i) s.toks) { s with toks := s.toks + 1 } → wpAny (model X.prog X.w) X.A (f (.int i t)) Q E s) :
    UnR X f (rU fun i => .int (g i)) := by
  intro pins s σ H x v Q I rx h
  obtain ⟨i, rfl, q⟩ := h
  obtain ⟨t, rfl⟩ := rx
  exact rule i t s _ _ ⟨.int (g i), H, I.tok _, ⟨_, rfl⟩, q⟩
theorem un_neg : UnR X (unaryOp .USub) (rU fun i => .int (-i)) := unI fun _ _ _ _ _ q => neg_int q
/-! ### bools among ints: n += (a < b) -/
end

/-! ### comparisons -/
/-- the scalars that == tells apart as data does -/
noncomputable def scal : V → V → Bool
  | .non, .non => true | .non, .int _ => true | .int _, .non => true | .non, .bl _ => true | .bl _, .non => true | .non, .str _ => true | .str _, .non => true
  | .int _, .int _ => true | .bl _, .bl _ => true | .str _, .str _ => true | .byt _, .byt _ => true
  | .int _, .str _ => true | .str _, .int _ => true | .bl _, .str _ => true | .str _, .bl _ => true
  | _, _ => false
noncomputable def rEq : R2 := fun x y H Q => scal x y = true ∧ Q (.bl (decide (x = y))) H
noncomputable def rNe : R2 := fun x y H Q => scal x y = true ∧ Q (.bl (!decide (x = y))) H

theorem dec_int {i j : Int} : decide (V.int i = V.int j) = (i == j) := by
  rw [Bool.eq_iff_iff]
  simp
theorem dec_bl {i j : Bool} : decide (V.bl i = V.bl j) = (i == j) := by
  rw [Bool.eq_iff_iff]
  simp
theorem dec_str {i j : Str} : decide (V.str i = V.str j) = (i == j) := by
  rw [Bool.eq_iff_iff]
  simp
theorem dec_byt {i j : Array UInt8} : decide (V.byt i = V.byt j) = (i.toList == j.toList) := by
  rw [Bool.eq_iff_iff]
  cases i
  cases j
  simp

section
variable {X : Cx} {a b c : Expr} {ta tb tc : TE} {pos : Pos}
theorem fin_bl {pins : List (Addr × Obj)} {σ : St} {H : Hp} {s : Shared} {Q : VK} {k k' : Bool} (I : Inv X pins σ H s) (q : Q (.bl k) H) (e : k = k') : EP X pins σ Q (.bool k') s := by
  subst e
  exact ⟨.bl k, H, I, rfl, q⟩
theorem op_eq : OpR X (compareOp .Eq) rEq := by
  intro pins s σ H x y v u Q I rx ry h
  obtain ⟨hs, q⟩ := h
  cases x with
  | non =>
    cases rx
    cases y with
    | non => cases ry; exact PySem.EqNone.eq_none_none (fin_bl I q (by simp))
    | bl j => cases ry; exact PySem.EqNone.eq_none_bool (fin_bl I q (by simp))
    | int j => obtain ⟨t', rfl⟩ := ry; exact PySem.EqNone.eq_none_int (fin_bl I q (by simp))
    | str j => obtain ⟨t', rfl⟩ := ry; exact PySem.EqNone.eq_none_str (fin_bl I q (by simp))
    | _ => exact absurd (show false = true from hs) Bool.false_ne_true
  | bl i =>
    cases rx
    cases y with
    | non => cases ry; exact PySem.EqNone.eq_bool_none (fin_bl I q (by simp))
    | bl j => cases ry; exact eq_bool (fin_bl I q dec_bl)
    | str j => obtain ⟨t', rfl⟩ := ry; exact PySem.EqMixed.eq_bool_str (fin_bl I q (by simp))
    | _ => exact absurd (show false = true from hs) Bool.false_ne_true
  | int i =>
    obtain ⟨t, rfl⟩ := rx
    cases y with
    | non => cases ry; exact PySem.EqNone.eq_int_none (fin_bl I q (by simp))
    | int j => obtain ⟨t', rfl⟩ := ry; exact eq_int (fin_bl I q dec_int)
    | str j => obtain ⟨t', rfl⟩ := ry; exact PySem.EqMixed.eq_int_str (fin_bl I q (by simp))
    | _ => exact absurd (show false = true from hs) Bool.false_ne_true
  | str i =>
    obtain ⟨t, rfl⟩ := rx
    cases y with
    | non => cases ry; exact PySem.EqNone.eq_str_none (fin_bl I q (by simp))
    | bl j => cases ry; exact PySem.EqMixed.eq_str_bool (fin_bl I q (by simp))
    | int j => obtain ⟨t', rfl⟩ := ry; exact PySem.EqMixed.eq_str_int (fin_bl I q (by simp))
    | str j => obtain ⟨t', rfl⟩ := ry; exact eq_str (fin_bl I q dec_str)
    | _ => exact absurd (show false = true from hs) Bool.false_ne_true
  | byt i =>
    obtain ⟨t, rfl⟩ := rx
    cases y with
    | byt j => obtain ⟨t', rfl⟩ := ry; exact PySem.W.eq_bytes (fin_bl I q dec_byt)
    | _ => exact absurd (show false = true from hs) Bool.false_ne_true
  | _ => cases y <;> exact absurd (show false = true from hs) Bool.false_ne_true
theorem op_ne : OpR X (compareOp .NotEq) rNe := by
  intro pins s σ H x y v u Q I rx ry h
  obtain ⟨hs, q⟩ := h
  cases x with
  | non =>
    cases rx
    cases y with
    | non => cases ry; exact PySem.EqNone.ne_none_none (fin_bl I q (by simp))
    | bl j => cases ry; exact PySem.EqNone.ne_none_bool (fin_bl I q (by simp))
    | int j => obtain ⟨t', rfl⟩ := ry; exact PySem.EqNone.ne_none_int (fin_bl I q (by simp))
    | str j => obtain ⟨t', rfl⟩ := ry; exact PySem.EqNone.ne_none_str (fin_bl I q (by simp))
    | _ => exact absurd (show false = true from hs) Bool.false_ne_true
  | bl i =>
    cases rx
    cases y with
    | non => cases ry; exact PySem.EqNone.ne_bool_none (fin_bl I q (by simp))
    | bl j => cases ry; exact ne_bool (fin_bl I q (congrArg not dec_bl))
    | str j => obtain ⟨t', rfl⟩ := ry; exact PySem.EqMixed.ne_bool_str (fin_bl I q (by simp))
    | _ => exact absurd (show false = true from hs) Bool.false_ne_true
  | int i =>
    obtain ⟨t, rfl⟩ := rx
    cases y with
    | non => cases ry; exact PySem.EqNone.ne_int_none (fin_bl I q (by simp))
    | int j => obtain ⟨t', rfl⟩ := ry; exact ne_int (fin_bl I q (congrArg not dec_int))
    | str j => obtain ⟨t', rfl⟩ := ry; exact PySem.EqMixed.ne_int_str (fin_bl I q (by simp))
    | _ => exact absurd (show false = true from hs) Bool.false_ne_true
  | str i =>
    obtain ⟨t, rfl⟩ := rx
    cases y with
    | non => cases ry; exact PySem.EqNone.ne_str_none (fin_bl I q (by simp))
    | bl j => cases ry; exact PySem.EqMixed.ne_str_bool (fin_bl I q (by simp))
    | int j => obtain ⟨t', rfl⟩ := ry; exact PySem.EqMixed.ne_str_int (fin_bl I q (by simp))
    | str j => obtain ⟨t', rfl⟩ := ry; exact ne_str (fin_bl I q (congrArg not dec_str))
    | _ => exact absurd (show false = true from hs) Bool.false_ne_true
  | byt i =>
    obtain ⟨t, rfl⟩ := rx
    cases y with
    | byt j => obtain ⟨t', rfl⟩ := ry; exact PySem.W.ne_bytes (fin_bl I q (congrArg not dec_byt))
    | _ => exact absurd (show false = true from hs) Bool.false_ne_true
  | _ => cases y <;> exact absurd (show false = true from hs) Bool.false_ne_true

theorem op_lt : OpR X (compareOp .Lt) (rI0 fun i j => .bl (decide (i < j))) := opB0 fun _ _ _ _ _ _ _ q => lt_int q
theorem op_gt : OpR X (compareOp .Gt) (rI0 fun i j => .bl (decide (j < i))) := opB0 fun _ _ _ _ _ _ _ q => gt_int q
theorem op_ge : OpR X (compareOp .GtE) (rI0 fun i j => .bl (decide (j ≤ i))) := opB0 fun _ _ _ _ _ _ _ q => ge_int q
/-- is None, is not None: the right side a value none -/
theorem op_isN : OpR X (compareOp .Is) (fun x y H Q => y = .non ∧ Q (.bl (decide (x = .non))) H) := by
  intro pins s σ H x y v u Q I rx ry h
  obtain ⟨rfl, q⟩ := h
  cases ry
  refine is_none_gen (fin_bl I q ?_)
  cases x <;> first
    | (cases rx; rfl)
    | (obtain ⟨t, rfl⟩ := rx; rfl)
theorem nomark (b : Expr) {op : CmpOp} (h : op ≠ .In := by decide) (h2 : op ≠ .NotIn := by decide) : behindInMarks op b = false := by
  have e1 : (op == CmpOp.In) = false := by cases op <;> first | rfl | exact absurd rfl h
  have e2 : (op == CmpOp.NotIn) = false := by cases op <;> first | rfl | exact absurd rfl h2
  cases b <;> simp [behindInMarks, e1, e2]
/-- a comparison as a value; hm: nomark b, or (for in, not in) by with_unfolding_all rfl -/
theorem pe_cmpR {op : CmpOp} {r : R2} (ho : OpR X (compareOp op) r) (ha : PE X a ta) (hb : PE X b tb) (hm : behindInMarks op b = false) : PE X (.Compare a [op] [b] pos) (tOp r ta tb) := by
  intro pins s σ H Q I h
  exact wpAny_Compare1 (binT ha hb I h fun v u s2 x y H2 I2 rx ry q => ho pins s2 σ H2 x y v u Q I2 rx ry q) hm
/-- a reading of a value as a test -/
noncomputable def tTest (t : TE) : TT := fun σ H Q => t σ H fun x H' => ∃ k, x = .bl k ∧ Q k H'
theorem pt_cmpR {op : CmpOp} {r : R2} (ho : OpR X (compareOp op) r) (ha : PE X a ta) (hb : PE X b tb) (hm : behindInMarks op b = false) : PT X (.Compare a [op] [b] pos) (tTest (tOp r ta tb)) := by
  intro pins s σ H Q I h
  refine wpAny_isTrue_Compare1 (thn (ha pins s σ H _ I h) fun v s1 ⟨x, H1, I1, r1, q1⟩ => thn (hb pins s1 σ H1 _ I1 q1) fun u s2 ⟨y, H2, I2, r2, q2⟩ =>
    thn (ho pins s2 σ H2 x y v u _ I2 r1 r2 q2) fun c s3 ⟨z, H3, I3, r3, k, e, q3⟩ => ?_) hm
  subst e
  cases r3
  exact wpAny_truthy_bool ⟨H3, I3, q3⟩
/-- a op1 b op2 c -/
noncomputable def tChain (r r' : R2) (ta tb tc : TE) : TE := fun σ H Q => ta σ H fun x H1 => tb σ H1 fun y H2 => r x y H2 fun z H3 => ∃ k, z = .bl k ∧
  (if k = true then tc σ H3 fun w' H4 => r' y w' H4 Q else Q (.bl false) H3)
theorem pe_chain {op op' : CmpOp} {r r' : R2} (ho : OpR X (compareOp op) r) (ho' : OpR X (compareOp op') r') (ha : PE X a ta) (hb : PE X b tb) (hc : PE X c tc)
    (hm : lastMarks [op, op'] [b, c] = false := by with_unfolding_all rfl) : PE X (.Compare a [op, op'] [b, c] pos) (tChain r r' ta tb tc) := by
  intro pins s σ H Q I h
  refine Compare_chain (thn (ha pins s σ H _ I h) fun v s1 ⟨x, H1, I1, r1, q1⟩ => chain_link (thn (hb pins s1 σ H1 _ I1 q1) fun u s2 ⟨y, H2, I2, r2, q2⟩ =>
    thn (ho pins s2 σ H2 x y v u _ I2 r1 r2 q2) fun d s3 ⟨z, H3, I3, r3, k, e, q3⟩ => ?_)) hm
  subst e
  cases r3
  refine wpAny_truthy_bool ?_
  cases k with
  | false => exact ite_ff ⟨.bl false, H3, I3, rfl, q3⟩
  | true => exact ite_tt (chain_last (thn (hc pins s3 σ H3 _ I3 q3) fun w' s4 ⟨z', H4, I4, r4, q4⟩ => ho' pins s4 σ H4 y z' u w' Q I4 r2 r4 q4))
/-! ### truth -/
theorem line63 : (sizeLine : Nat) < 2 ^ 63 := by rw [sizeLine_eq]; decide
/-! ### strs and bytes -/
/-! ### scalar builtins, by CallR -/
theorem vals1 {x : V} {us : List Value} (r : Vals [x] us) : ∃ u, us = [u] ∧ RelV x u := by
  cases r with
  | cons r1 r2 => cases r2; exact ⟨_, rfl, r1⟩
theorem vals2 {x y : V} {us : List Value} (r : Vals [x, y] us) : ∃ u w', us = [u, w'] ∧ RelV x u ∧ RelV y w' := by
  cases r with
  | cons r1 r2 =>
    cases r2 with
    | cons r3 r4 => cases r4; exact ⟨_, _, rfl, r1, r3⟩
theorem call_abs : CallR X (.builtin "abs") (fun xs H Q => ∃ i, xs = [.int i] ∧ Q (.int (if i < 0 then -i else i)) H) := by
  intro pins s σ H xs us Q I r h
  obtain ⟨i, rfl, q⟩ := h
  obtain ⟨u, rfl, t, rfl⟩ := vals1 r
  exact call_abs_int fun u tk => ⟨.int (if i < 0 then -i else i), H, I.tok _, ⟨_, rfl⟩, q⟩
theorem call_int1 : CallR X (.type "int") (fun xs H Q => (∃ i, xs = [.int i] ∧ Q (.int i) H) ∨ ∃ k, xs = [.bl k] ∧ Q (.int (if k then 1 else 0)) H) := by
  intro pins s σ H xs us Q I r h
  rcases h with ⟨i, rfl, q⟩ | ⟨k, rfl, q⟩
  · obtain ⟨u, rfl, t, rfl⟩ := vals1 r
    exact call_int_int ⟨.int i, H, I, ⟨_, rfl⟩, q⟩
  · obtain ⟨u, rfl, r1⟩ := vals1 r
    cases r1
    exact call_int_bool ⟨.int (if k then 1 else 0), H, I.tok _, ⟨_, rfl⟩, q⟩
end
end L2

namespace L2
open PySem PySem.Spec PyProof.Rows

/-! ### an instance, its attributes a map -/
structure ObjM (h : Heap) (x dx C : Addr) (mA : Str → Option Value) : Prop where
  obj : h.get? x = some (PySem.W.instObj C dx)
  ns : h.Ns1 dx mA
  ne : dx ≠ x

theorem lookIn_ns {h : Heap} {dx : Addr} {mA : Str → Option Value} (n : h.Ns1 dx mA) : ∃ od, h.get? dx = some od ∧ ∀ name, PySem.W.lookIn name od = some (mA name) := by
  obtain ⟨o, es, ep, ho, hd, hk, _, hm⟩ := n
  refine ⟨o, ho, fun name => ?_⟩
  have e := hm name
  unfold nsFind findBy at e
  rw [← Array.find?_toList] at e
  unfold PySem.W.lookIn
  rw [hd]
  dsimp only
  split
  · rename_i y q
    rw [q] at e
    exact congrArg some e
  · rename_i q
    rw [q] at e
    have a : es.toList.any (·.refKey) = false := by
      rw [List.any_eq_false]
      intro y hy
      obtain ⟨z, t, hkey⟩ := hk y (Array.mem_toList_iff.mp hy)
      simp [DictEntry.refKey, hkey]
    have a' : ¬ es.toList.any (·.refKey) = true := by rw [a]; exact Bool.false_ne_true
    rw [if_neg a']
    exact congrArg some e

theorem ObjM.look {h : Heap} {x dx C : Addr} {mA : Str → Option Value} (I : ObjM h x dx C mA) : ∃ od, PySem.W.InstAt h x (PySem.W.instObj C dx) C (some od) ∧ ∀ name, PySem.W.lookIn name od = some (mA name) :=
  let ⟨od, ho, hl⟩ := lookIn_ns I.ns
  ⟨od, ⟨I.obj, rfl, rfl, ho⟩, hl⟩

section
variable {prog : Program} {w : World} {A : Around} {E : Value → Shared → Prop} {s : Shared} {K : PySem.W.Frag} {x dx C f : Addr} {mA : Str → Option Value} {name : Str} {v : Value}

theorem get_map {expr : Bool} {Q : Value → Shared → Prop} (X : K.In s.heap) (I : ObjM s.heap x dx C mA) (hg : PySem.W.plainGet K C name = true) (hh : PySem.W.hasDictIn K C = true)
    (ha : PySem.W.findIn K (.ref C) name = some none) (hv : mA name = some v) (hv' : PySem.W.handedIn v = true) (h : Q v { s with toks := s.toks + 1 }) :
    wpAny (model prog w) A (getAttr (.ref x) name expr) Q E s := by
  obtain ⟨od, J, hl⟩ := I.look
  exact PySem.W.get_value X J (PySem.W.plainGet_of hg).1 (PySem.W.findObj_own hh ha rfl (by rw [hl, hv])) hv' h

theorem get_meth {pl : Sem Bool} {Q : Value × List Value → Shared → Prop} (X : K.In s.heap) (I : ObjM s.heap x dx C mA) (hg : PySem.W.plainGet K C name = true)
    (hf : PySem.W.findIn K (.ref C) name = some (some (.ref f))) (ht : PySem.W.isFn K (.ref f) = true) (hv : mA name = none) (h : Q (.ref f, [.ref x]) s) :
    wpAny (model prog w) A (getMethod (.ref x) name pl) Q E s := by
  obtain ⟨od, J, hl⟩ := I.look
  exact PySem.W.method_fn X J (PySem.W.plainGet_of hg).1 (PySem.W.plainGet_of hg).2 hf (beq_iff_eq.mp ht) (by show (PySem.W.lookIn name od).map (·.isSome) = some false; rw [hl, hv]; rfl) h

theorem set_map {ns : List Str} {Q : Unit → Shared → Prop} (X : K.In s.heap) (I : ObjM s.heap x dx C mA)
    (hs : PySem.W.findIn K (.ref C) "__setattr__" = some (some (.builtin "object.__setattr__"))) (hp : PySem.W.plainOver K C = true) (ht : PySem.W.takerIn K C name = some none) (hh : PySem.W.hasDictIn K C = true)
    (hw : PySem.Within mA ns) (hsz : ns.length ≤ sizeLine)
    (h : ∀ h', ObjM h' x dx C (fun y => if y = name then some v else mA y) → Heap.SameBut dx s.heap h' → Q () { s with heap := h', toks := s.toks + 2 }) :
    wpAny (model prog w) A (setAttr (.ref x) name v) Q E s := by
  obtain ⟨od, J, hl⟩ := I.look
  refine PySem.W.set_plain X J hs (PySem.W.osa_open (s := { s with toks := s.toks + 1 }) (r := none) X J hp ht fun b => ?_)
  obtain ⟨cd, hc, hd'⟩ := PySem.W.any_some hh
  have hx : s.heap.get? x = some ⟨.ref C, some dx, .plain, #[]⟩ := I.obj
  refine wpAny_bind (wpAny_pure (wpAny_bind (wpAny_bind (wpAny_loadPart hx (wpAny_bind (PySem.W.Looks.here (s := { s with toks := s.toks + 1 }) (PySem.W.looks_clsIn X hc) ?_))))))
  rw [hd']
  refine wpAny_pure (a := some dx) (wpAny_bind (wpAny_pure (wpAny_bind ?_)))
  refine wpAny_nsSet1 (s := { s with toks := s.toks + 1 }) I.ns fun h' hn2 hs2 => ?_
  obtain ⟨oD, esD, epD, hoD, hdD, hcD⟩ := hn2.count (PySem.Within.cons name v hw)
  refine wpAny_bind (wpAny_lookBehind hoD (by rw [hdD]; exact pastItsLine_dict (Nat.le_trans hcD (by rw [List.length_cons]; omega))) ?_)
  exact wpAny_pure (h _ ⟨(hs2.2 _ (Ne.symm I.ne)).trans I.obj, hn2, I.ne⟩ hs2)

/-- C(..): the dict at the heap's end, the instance behind it; then its __init__ -/
theorem make_map {R : Result → Shared → Prop} {vs : List Value} {kw : List (Str × Value)} (X : K.In s.heap) (hm : PySem.W.makesIn K C = true)
    (hi : PySem.W.findIn K (.ref C) "__init__" = some (some (.ref f))) (hf : PySem.W.typeIn K (.ref f) = some (.type "function"))
    (h : codeAny (model prog w) (A.under (.builtin "type.__call__" ⟨.ref C :: vs, kw⟩)) (.call (.ref f) ⟨.ref (s.heap.objs.size + 1) :: vs, kw⟩) (PySem.W.InitBack (s.heap.objs.size + 1) R)
      { s with heap := (s.heap.push PySem.W.emptyDict).push (PySem.W.instObj C s.heap.objs.size) }) :
    codeAny (model prog w) A (.call (.ref C) ⟨vs, kw⟩) R s := by
  obtain ⟨hh, g, d, t, os⟩ := s
  exact PySem.W.make_core (PySem.W.makes_of X hm) (PySem.W.looks_findIn X hi) (fun self => PySem.W.bind_fn X self hf) (.inl rfl) h
end

/-! ### the attributes as a list of pairs -/
noncomputable def putF (f : Str) (v : V) : List (Str × V) → List (Str × V)
  | [] => [(f, v)]
  | (g, x) :: r => if g = f then (g, v) :: r else (g, x) :: putF f v r
theorem lookup_putF (f g : Str) (v : V) : ∀ fs : List (Str × V), (putF f v fs).lookup g = if g = f then some v else fs.lookup g
  | [] => by
    show List.lookup g [(f, v)] = _
    by_cases h : g = f
    · have hb : (g == f) = true := beq_iff_eq.mpr h
      simp only [List.lookup, hb, if_pos h]
    · have hb : (g == f) = false := beq_eq_false_iff_ne.mpr h
      simp only [List.lookup, hb, if_neg h]
  | (k, x) :: r => by
    have ih := lookup_putF f g v r
    rw [show putF f v ((k, x) :: r) = (if k = f then (k, v) :: r else (k, x) :: putF f v r) from rfl]
    by_cases hk : k = f
    · rw [if_pos hk]
      by_cases h : g = k
      · have hb : (g == k) = true := beq_iff_eq.mpr h
        simp only [List.lookup, hb, if_pos (h.trans hk)]
      · have hb : (g == k) = false := beq_eq_false_iff_ne.mpr h
        simp only [List.lookup, hb, if_neg (fun e : g = f => h (e.trans hk.symm))]
    · rw [if_neg hk]
      by_cases h : g = k
      · have hb : (g == k) = true := beq_iff_eq.mpr h
        simp only [List.lookup, hb, if_neg (fun e : g = f => hk (h.symm.trans e))]
      · have hb : (g == k) = false := beq_eq_false_iff_ne.mpr h
        simp only [List.lookup, hb]
        exact ih
theorem keys_putF (f : Str) (v : V) : ∀ fs : List (Str × V), f ∈ (putF f v fs).map (·.1) ∧ ∀ g, g ∈ fs.map (·.1) → g ∈ (putF f v fs).map (·.1)
  | [] => ⟨by simp [putF], fun g h => by simp at h⟩
  | (k, x) :: r => by
    obtain ⟨i1, i2⟩ := keys_putF f v r
    rw [show putF f v ((k, x) :: r) = (if k = f then (k, v) :: r else (k, x) :: putF f v r) from rfl]
    by_cases hk : k = f
    · rw [if_pos hk]
      subst hk
      exact ⟨by simp, fun g h => by simpa using h⟩
    · rw [if_neg hk]
      refine ⟨?_, fun g h => ?_⟩
      · rw [List.map_cons]
        exact List.mem_cons_of_mem _ i1
      · rw [List.map_cons] at h ⊢
        rcases List.mem_cons.mp h with e | e
        · exact List.mem_cons.mpr (.inl e)
        · exact List.mem_cons_of_mem _ (i2 g e)
theorem length_putF (f : Str) (v : V) : ∀ fs : List (Str × V), (putF f v fs).length ≤ fs.length + 1
  | [] => by simp [putF]
  | (k, x) :: r => by
    have ih := length_putF f v r
    rw [show putF f v ((k, x) :: r) = (if k = f then (k, v) :: r else (k, x) :: putF f v r) from rfl]
    by_cases hk : k = f
    · rw [if_pos hk, List.length_cons, List.length_cons]; omega
    · rw [if_neg hk, List.length_cons, List.length_cons]; omega

theorem RelO.some_of {v : V} {o : Option Value} (r : RelO (some v) o) : ∃ u, o = some u ∧ RelV v u := by
  cases o with
  | none => exact (show False from r).elim
  | some u => exact ⟨u, rfl, r⟩
theorem RelO.none_of {o : Option Value} (r : RelO none o) : o = none := by
  cases o with
  | none => rfl
  | some u => exact (show False from r).elim
theorem handed_of {v : V} {u : Value} (r : RelV v u) : PySem.W.handedIn u = true := by
  cases v with
  | non => cases (show u = Value.none from r); rfl
  | bl b => cases (show u = Value.bool b from r); rfl
  | int i => obtain ⟨t, e⟩ := (show ∃ t, u = Value.int i t from r); cases e; rfl
  | str x => obtain ⟨t, e⟩ := (show ∃ t, u = Value.str x t from r); cases e; rfl
  | byt b => obtain ⟨t, e⟩ := (show ∃ t, u = Value.bytes b t from r); cases e; rfl
  | flt b => obtain ⟨t, e⟩ := (show ∃ t, u = Value.float b t from r); cases e; rfl
  | ref a => cases (show u = Value.ref a from r); rfl
  | ty n => cases (show u = Value.type n from r); rfl

section
variable {P : Program} {w : World} {H H' : Hp} {h h' : Heap} {a C dx : Addr} {fs fs' : List (Str × V)}
theorem ins_get (hok : HOk P w H h) (e : H a = some (.ins C dx fs)) : ∃ mA, ObjM h a dx C mA ∧ (∀ f, RelO (fs.lookup f) (mA f)) ∧ PySem.Within mA (fs.map (·.1)) ∧ fs.length ≤ 1000 ∧ H dx = some (.own a) := by
  obtain ⟨d, z, ne, ob, mA, n, r, q⟩ := (show ObjOk P w H h a (.ins C dx fs) from hok a _ e)
  exact ⟨mA, ⟨ob, n, ne⟩, r, q, z, d⟩
end

/-! ### what of the text a class must have -/
structure Cls (K : PySem.W.Frag) (C : Addr) : Prop where
  pg : PySem.W.plainGet K C Str.empty = true
  hd : PySem.W.hasDictIn K C = true
  po : PySem.W.plainOver K C = true
  sa : PySem.W.findIn K (.ref C) "__setattr__" = some (some (.builtin "object.__setattr__"))
theorem Cls.get {K : PySem.W.Frag} {C : Addr} (c : Cls K C) (f : Str) : PySem.W.plainGet K C f = true := c.pg
/-- no class of it has the name -/
noncomputable def NoAttr (K : PySem.W.Frag) (C : Addr) (f : Str) : Prop := PySem.W.findIn K (.ref C) f = some none
theorem NoAttr.taker {K : PySem.W.Frag} {C : Addr} {f : Str} (n : NoAttr K C f) : PySem.W.takerIn K C f = some none := by
  unfold PySem.W.takerIn
  rw [show PySem.W.findIn K (.ref C) f = some none from n]
  rfl
/-- a method: a plain def of the class or of one above it -/
structure Meth (K : PySem.W.Frag) (C : Addr) (m : Str) (f : Addr) : Prop where
  at_ : PySem.W.findIn K (.ref C) m = some (some (.ref f))
  fn : PySem.W.isFn K (.ref f) = true
  kp : PySem.W.keepIn K (.ref f) = true

section
variable {X : Cx} {pins : List (Addr × Obj)} {σ : St} {H : Hp} {s : Shared} {a C dx : Addr} {fs : List (Str × V)} {f : Str} {v : V} {A : Around} {E : Value → Shared → Prop}

theorem getattr_ok {b : Bool} {Q : Value → Shared → Prop} (I : Inv X pins σ H s) (e : H a = some (.ins C dx fs)) (c : Cls X.K C) (n : NoAttr X.K C f) (l : fs.lookup f = some v)
    (h : ∀ u s', Inv X pins σ H s' → RelV v u → Q u s') : wpAny (model X.prog X.w) A (getAttr (.ref a) f b) Q E s := by
  obtain ⟨mA, O, r, _, _, _⟩ := ins_get I.hok e
  obtain ⟨u, hu, ru⟩ := RelO.some_of (v := v) (o := mA f) (by rw [← l]; exact r f)
  exact get_map I.kIn O (c.get f) c.hd n hu (handed_of ru) (h u _ (I.tok _) ru)

theorem getmeth_ok {m : Str} {g : Addr} {pl : Sem Bool} {Q : Value × List Value → Shared → Prop} (I : Inv X pins σ H s) (e : H a = some (.ins C dx fs)) (c : Cls X.K C) (k : Meth X.K C m g) (l : fs.lookup m = none)
    (h : Q (.ref g, [.ref a]) s) : wpAny (model X.prog X.w) A (getMethod (.ref a) m pl) Q E s := by
  obtain ⟨mA, O, r, _, _, _⟩ := ins_get I.hok e
  have hn : mA m = none := RelO.none_of (by rw [← l]; exact r m)
  exact get_meth I.kIn O (c.get m) k.at_ k.fn hn h

theorem setattr_ok {y : V} {u : Value} {Q : Unit → Shared → Prop} (I : Inv X pins σ H s) (e : H a = some (.ins C dx fs)) (c : Cls X.K C) (n : NoAttr X.K C f) (hl : fs.length < 1000) (ry : RelV y u)
    (h : ∀ s', Inv X pins σ (upd H a (.ins C dx (putF f y fs))) s' → Q () s') : wpAny (model X.prog X.w) A (setAttr (.ref a) f u) Q E s := by
  obtain ⟨mA, O, r, wi, _, ho⟩ := ins_get I.hok e
  have hz : (fs.map (·.1)).length ≤ sizeLine := by rw [List.length_map, sizeLine_eq]; omega
  refine set_map I.kIn O c.sa c.po n.taker c.hd wi hz fun h' O' sb => h _ ?_
  have hd : ∃ o, h'.get? dx = some o := let ⟨o, _, _, e', _⟩ := O'.ns; ⟨o, e'⟩
  refine I.write (x := a) (e := dx) (by rw [e]; exact True.intro) (.inr ho) (fun b q hb z => (sb.2 b hb).trans z) hd ?_
  refine ⟨by rw [upd_ne O.ne]; exact ho, ?_, O.ne, O'.obj, _, O'.ns, fun g => ?_, fun g hg => ?_⟩
  · have := length_putF f y fs; omega
  · show RelO ((putF f y fs).lookup g) (if g = f then some u else mA g)
    rw [lookup_putF]
    by_cases q : g = f
    · rw [if_pos q, if_pos q]; exact ry
    · rw [if_neg q, if_neg q]; exact r g
  · by_cases q : g = f
    · rw [q]; exact (keys_putF f y fs).1
    · refine (keys_putF f y fs).2 g (wi g fun z => hg ?_)
      show (if g = f then some u else mA g) = none
      rw [if_neg q]; exact z

/-- a new instance, tracked, without attributes -/
theorem Inv.made (I : Inv X pins σ H s) : Inv X pins σ (upd (upd H s.heap.objs.size (.own (s.heap.objs.size + 1))) (s.heap.objs.size + 1) (.ins C s.heap.objs.size []))
    { s with heap := (s.heap.push PySem.W.emptyDict).push (PySem.W.instObj C s.heap.objs.size) } := by
  have e1 : (s.heap.push PySem.W.emptyDict).get? s.heap.objs.size = some PySem.W.emptyDict := Heap.get?_push_size s.heap rfl
  have e2 : ((s.heap.push PySem.W.emptyDict).push (PySem.W.instObj C s.heap.objs.size)).get? (s.heap.objs.size + 1) = some (PySem.W.instObj C s.heap.objs.size) := by
    have := Heap.get?_push_size (s.heap.push PySem.W.emptyDict) (o := PySem.W.instObj C s.heap.objs.size) rfl
    rwa [Heap.size_push] at this
  have e3 : (s.heap.push PySem.W.emptyDict).Ns s.heap.objs.size (fun _ => none) := ⟨PySem.W.emptyDict, #[], _, e1, rfl, (fun e he => absurd he (by simp)), fun _ => rfl⟩
  have I1 := I.laid (a := s.heap.objs.size) (o := .own (s.heap.objs.size + 1)) (h' := s.heap.push PySem.W.emptyDict) (t' := s.toks) (fun b u q => Heap.get?_push_of_some _ q) (Nat.le_refl _) ⟨_, e1⟩
  refine I1.laid (a := s.heap.objs.size + 1) (o := .ins C s.heap.objs.size []) (t' := s.toks) (fun b u q => Heap.get?_push_of_some _ q) (Nat.le_of_eq (Heap.size_push _ _)) ?_
  have ne : s.heap.objs.size ≠ s.heap.objs.size + 1 := Nat.ne_of_lt (Nat.lt_succ_self _)
  refine ⟨by rw [upd_ne ne, upd_same], Nat.zero_le _, ne, e2, fun _ => none, (Heap.Ns1.of_empty e3).at fun o q => Heap.get?_push_of_some _ q, fun _ => True.intro, fun y hy => absurd rfl hy⟩

/-- e.f where nothing but the object is asked: through attributeBase (super) and the last hold -/
theorem attr_of {prog : Program} {w : World} {env : Env} {e : Expr} {f : Str} {pos : Pos} {s : Shared} {Q : Value → Shared → Prop} (hb : attributeBase e f env (eval e env) = eval e env)
    (h : wpAny (model prog w) A (eval e env) (fun o s₁ => wpAny (model prog w) A (getAttr o f true) Q E s₁) E s) : wpAny (model prog w) A (eval (.Attribute e f pos) env) Q E s :=
  Attribute_any_ h (by rw [arm_eval_Attribute, hb])
end

/-! ### readings and rules -/
/-- e.f, an attribute of the instance -/
noncomputable def tFld (K : PySem.W.Frag) (ta : TE) (f : Str) : TE := fun σ H Q => ta σ H fun x H1 => ∃ a C dx fs v, x = .ref a ∧ H1 a = some (.ins C dx fs) ∧ Cls K C ∧ NoAttr K C f ∧ fs.lookup f = some v ∧ Q v H1
/-- e.f = value -/
noncomputable def sFld (K : PySem.W.Frag) (ta tv : TE) (f : Str) : TS := fun D σ H => tv σ H fun y H1 => ta σ H1 fun x H2 => ∃ a C dx fs, x = .ref a ∧ H2 a = some (.ins C dx fs) ∧ Cls K C ∧ NoAttr K C f ∧ fs.length < 1000 ∧
  D.nx σ (upd H2 a (.ins C dx (putF f y fs)))
/-- an augmented operator on two values -/
noncomputable def InOp (X : Cx) (op : Operator) (rd : V → V → Hp → VK → Prop) : Prop :=
  ∀ (pins : List (Addr × Obj)) (s : Shared) (σ : St) (H : Hp) (x y : V) (u v : Value) (Q : VK), Inv X pins σ H s → RelV x u → RelV y v → rd x y H Q → wpAny (model X.prog X.w) X.A (inplaceOp op u v) (EP X pins σ Q) X.xe s
/-- e.f op= value -/
noncomputable def sFldAug (K : PySem.W.Frag) (ta tv : TE) (rd : V → V → Hp → VK → Prop) (f : Str) : TS := fun D σ H => ta σ H fun x H1 => ∃ a C dx fs v, x = .ref a ∧ H1 a = some (.ins C dx fs) ∧ Cls K C ∧ NoAttr K C f ∧ fs.lookup f = some v ∧
  tv σ H1 fun y H2 => rd v y H2 fun z H3 => ∃ dx' fs', H3 a = some (.ins C dx' fs') ∧ fs'.length < 1000 ∧ D.nx σ (upd H3 a (.ins C dx' (putF f z fs')))

section
variable {X : Cx} {o e value : Expr} {f : Str} {pos pos' tpos : Pos} {ta tv : TE}
theorem pe_fld (he : PE X e ta) (hb : attributeBase e f X.env (eval e X.env) = eval e X.env) : PE X (.Attribute e f pos) (tFld X.K ta f) := by
  intro pins s σ H Q I h
  refine attr_of hb (thn (he pins s σ H _ I h) fun u s1 ⟨x, H1, I1, rx, a, C, dx, fs, v, ex, ea, c, n, l, q⟩ => ?_)
  subst ex
  obtain rfl : u = Value.ref a := rx
  exact getattr_ok I1 ea c n l fun u' s2 I2 ru => ⟨v, H1, I2, ru, q⟩
theorem ps_fld (ha : PE X o ta) (hv : PE X value tv) (hs : swapsWith value (some (.Attribute o f pos')) pos.line X.env = pure false) : PS X (.Assign [.Attribute o f pos'] value pos) (sFld X.K ta tv f) := by
  intro pins s σ H D I h
  refine plainObj_wpAny_Assign_Attribute (thn (hv pins s σ H _ I h) fun u s1 ⟨y, H1, I1, ry, q⟩ => thn (ha pins s1 σ H1 _ I1 q) fun ov s2 ⟨x, H2, I2, rx, a, C, dx, fs, ex, ea, c, n, l, q2⟩ => ?_) hs
  subst ex
  obtain rfl : ov = Value.ref a := rx
  exact setattr_ok I2 ea c n l ry fun s3 I3 => ⟨σ, _, I3, q2⟩
theorem ps_fldaug {op : Operator} {rd : V → V → Hp → VK → Prop} (ha : PE X o ta) (hv : PE X value tv) (hop : InOp X op rd) : PS X (.AugAssign (.Attribute o f tpos) op value pos) (sFldAug X.K ta tv rd f) := by
  intro pins s σ H D I h
  refine wpAny_AugAssign_AttributeAny (thn (ha pins s σ H _ I h) fun ov s1 ⟨x, H1, I1, rx, a, C, dx, fs, v, ex, ea, c, n, l, q⟩ => ?_)
  subst ex
  obtain rfl : ov = Value.ref a := rx
  refine getattr_ok I1 ea c n l fun u s2 I2 ru => thn (hv pins s2 σ H1 _ I2 q) fun w3 s3 ⟨y, H2, I3, ry, q3⟩ => thn (hop pins s3 σ H2 v y u w3 _ I3 ru ry q3) fun w4 s4 ⟨z, H3, I4, rz, dx', fs', ea', l', q4⟩ => ?_
  exact setattr_ok I4 ea' c n l' rz fun s5 I5 => ⟨σ, _, I5, q4⟩
noncomputable def rAdd : V → V → Hp → VK → Prop := fun x y H Q => ∃ i j, x = .int i ∧ y = .int j ∧ Q (.int (i + j)) H
theorem in_add : InOp X .Add rAdd := by
  rintro pins s σ H x y u v Q I rx ry ⟨i, j, rfl, rfl, q⟩
  obtain ⟨t, rfl⟩ := (show ∃ t, u = Value.int i t from rx)
  obtain ⟨t', rfl⟩ := (show ∃ t', v = Value.int j t' from ry)
  exact PyProof.Rows.iadd_int ⟨.int (i + j), H, I.tok _, ⟨_, rfl⟩, q⟩
end

/-! ### isinstance -/
section
variable {X : Cx} {pins : List (Addr × Obj)} {σ : St} {H : Hp} {s : Shared} {A : Around} {E : Value → Shared → Prop} {Q : Value → Shared → Prop} {c : Value} {b : Bool}
/-- the type of a value, as the fragment's deciders take it; for an instance its class -/
inductive TyOf (K : PySem.W.Frag) (H : Hp) : V → Value → Prop where
  | non : TyOf K H .non (.type "NoneType")
  | bl (x : Bool) : TyOf K H (.bl x) (.type "bool")
  | int (i : Int) : TyOf K H (.int i) (.type "int")
  | str (x : Str) : TyOf K H (.str x) (.type "str")
  | flt (x : UInt64) : TyOf K H (.flt x) (.type "float")
  | lst {a : Addr} {xs : List V} (e : H a = some (.lst xs)) : TyOf K H (.ref a) (.type "list")
  | frz {a : Addr} {o : Obj} {xs : List V} (e : H a = some (.frz o (.lst xs))) : TyOf K H (.ref a) (.type "list")
  | tup {a : Addr} {xs : List V} (e : H a = some (.tup xs)) : TyOf K H (.ref a) (.type "tuple")
  | dK {a : Addr} {kvs : List (Key × V)} (e : H a = some (.dK kvs)) : TyOf K H (.ref a) (.type "dict")
  | dT {a : Addr} {kvs : List (List Key × V)} (e : H a = some (.dT kvs)) : TyOf K H (.ref a) (.type "dict")
  | ins {a C dx : Addr} {fs : List (Str × V)} (e : H a = some (.ins C dx fs)) (cl : Cls K C) (ha : PySem.W.findIn K (.ref C) "__class__" = some (some (.builtin "object.__class__")))
      (hn : PySem.W.specialIn K (.builtin "object.__class__") "__get__" = some (some (.builtin "getset_descriptor.__get__"))) (htk : PySem.W.takesIn K (.builtin "object.__class__") = some true)
      (hm : PySem.W.mroIn K C (.type "object") = some true) : TyOf K H (.ref a) (.ref C)
/-- isinstance(x, c) for one class c, a built-in or an own one: kitOne's answer -/
theorem isinst_ok {x : V} {u t : Value} (I : Inv X pins σ H s) (rx : RelV x u) (ty : TyOf X.K H x t) (e : PySem.W.kitOne X.K t c = some b) (h : ∀ tk, Q (.bool b) { s with toks := tk }) :
    wpAny (model X.prog X.w) A (call (.builtin "isinstance") [u, c]) Q E s := by
  cases ty with
  | non => cases (show u = Value.none from rx); exact PySem.W.kia_one PySem.W.kitx_none I.kIn True.intro e (fun z => nomatch z) h
  | bl y => cases (show u = Value.bool y from rx); exact PySem.W.kia_one PySem.W.kitx_bool I.kIn True.intro e (fun z => nomatch z) h
  | int i => obtain ⟨t, q⟩ := (show ∃ t, u = Value.int i t from rx); cases q; exact PySem.W.kia_one PySem.W.kitx_int I.kIn True.intro e (fun z => nomatch z) h
  | str y => obtain ⟨t, q⟩ := (show ∃ t, u = Value.str y t from rx); cases q; exact PySem.W.kia_one PySem.W.kitx_str I.kIn True.intro e (fun z => nomatch z) h
  | flt y => obtain ⟨t, q⟩ := (show ∃ t, u = Value.float y t from rx); cases q; exact PySem.W.kia_one PySem.W.kitx_float I.kIn True.intro e (fun z => nomatch z) h
  | @lst a xs ea =>
    cases (show u = Value.ref a from rx)
    obtain ⟨_, _, n, _, h1⟩ := (show ObjOk X.prog X.w H s.heap a (.lst xs) from I.hok a _ ea)
    exact PySem.W.kia_one PySem.W.kitx_list I.kIn ⟨_, h1, rfl⟩ e (fun z => nomatch z) h
  | @frz a ob xs ea =>
    cases (show u = Value.ref a from rx)
    obtain ⟨_, _, _, n, _, h1⟩ := (show ObjOk X.prog X.w H s.heap a (.frz ob (.lst xs)) from I.hok a _ ea)
    exact PySem.W.kia_one PySem.W.kitx_list I.kIn ⟨_, h1, rfl⟩ e (fun z => nomatch z) h
  | @tup a xs ea =>
    cases (show u = Value.ref a from rx)
    obtain ⟨_, _, _, p⟩ := (show ObjOk X.prog X.w H s.heap a (.tup xs) from I.hok a _ ea)
    obtain ⟨o, h1, h2, _⟩ := p
    exact PySem.W.kia_one PySem.W.kitx_tuple I.kIn ⟨o, h1, h2⟩ e (fun z => nomatch z) h
  | @dK a kvs ea =>
    cases (show u = Value.ref a from rx)
    obtain ⟨_, _, vs, _, p⟩ := (show ObjOk X.prog X.w H s.heap a (.dK kvs) from I.hok a _ ea)
    obtain ⟨o, es, ep, h1, h2, _⟩ := p
    exact PySem.W.kia_one PySem.W.kitx_dict I.kIn ⟨o, h1, h2.1⟩ e (fun z => nomatch z) h
  | @dT a kvs ea =>
    cases (show u = Value.ref a from rx)
    obtain ⟨_, _, xs, _, o, es, ep, h1, h2, _⟩ := (show ObjOk X.prog X.w H s.heap a (.dT kvs) from I.hok a _ ea)
    exact PySem.W.kia_one PySem.W.kitx_dict I.kIn ⟨o, h1, h2.1⟩ e (fun z => nomatch z) h
  | @ins a C dx fs ea cl ha hn htk hm =>
    cases (show u = Value.ref a from rx)
    obtain ⟨mA, O, _⟩ := ins_get I.hok ea
    obtain ⟨od, J, _⟩ := O.look
    exact PySem.W.kia_one (PySem.W.kitx_own (cl.get _) cl.hd ha hn htk hm) I.kIn J e (fun z => nomatch z) h
end
end L2

namespace L2
open PySem PySem.Spec PyProof.Rows

/-! ### room -/
structure Room (k : Nat) (A : Around) : Prop where
  hd : A.handled = none
  dp : A.depth + 3 * k + 5 < recursionLimit
  un : A.units + 16 * k + 200 < cLine
  gd : A.guards = some []
theorem Room.mono {j k : Nat} {A : Around} (r : Room k A) (h : j ≤ k) : Room j A := ⟨r.hd, by have := r.dp; omega, by have := r.un; omega, r.gd⟩
theorem Room.deeper {k : Nat} {A : Around} (r : Room (k + 1) A) (env : Env) : Room k (A.deeper env) :=
  ⟨r.hd, by have := r.dp; show A.depth + 1 + 3 * k + 5 < _; omega, by have := r.un; show A.units + 3 + 16 * k + 200 < _; omega, r.gd⟩
theorem Room.in1 {k : Nat} {A : Around} (r : Room (k + 1) A) : Room k A.in1 :=
  ⟨r.hd, by have := r.dp; show A.depth + 3 * k + 5 < _; omega, by have := r.un; show A.units + 1 + 16 * k + 200 < _; omega, r.gd⟩
theorem make_depth {A : Around} {C : Addr} {us : List Value} {kw : List (Str × Value)} : (A.under (.builtin "type.__call__" ⟨.ref C :: us, kw⟩)).depth = A.depth + 1 := by
  first | rfl | simp [Around.under, Code.weight, Code.isCreation, Code.isGuard, Code.isCaller, Code.frames, Code.isFrame, guardIds]
theorem make_units {A : Around} {C : Addr} {us : List Value} {kw : List (Str × Value)} : (A.under (.builtin "type.__call__" ⟨.ref C :: us, kw⟩)).units = A.units + 1 := by
  first | rfl | simp [Around.under, Code.cUnits, Code.frames, Code.isFrame]
theorem Room.make {k : Nat} {A : Around} (r : Room (k + 1) A) (C : Addr) (us : List Value) (kw : List (Str × Value)) : Room k (A.under (.builtin "type.__call__" ⟨.ref C :: us, kw⟩)) :=
  ⟨r.hd, by have := r.dp; rw [make_depth]; omega, by have := r.un; rw [make_units]; omega, by have := r.gd; simp [Around.under, Code.guards, Code.isGuard, guardIds, pushGuards, this]⟩
theorem Room.depth {k : Nat} {A : Around} (r : Room k A) : A.depth < recursionLimit := by have := r.dp; omega
theorem Room.units {k : Nat} {A : Around} (r : Room k A) : A.units + 64 < cLine := by have := r.un; omega
theorem Room.units0 {k : Nat} {A : Around} (r : Room k A) : A.units < cLine := by have := r.un; omega

/-! ### argument lists and displays -/
noncomputable def tNil : TA := fun _ H Q => Q [] H
noncomputable def tCons (ta : TE) (tr : TA) : TA := fun σ H Q => ta σ H fun x H1 => tr σ H1 fun xs H2 => Q (x :: xs) H2
section
variable {X : Cx} {e : Expr} {es : List Expr} {te : TE} {t : TA} {pos : Pos}
theorem pa_nil : PA X [] tNil := fun _ _ _ _ H Q I h => Calls.spliced_nil ⟨[], H, I, .nil, h⟩
theorem pa_cons (ha : PE X e te) (hr : PA X es t) (hs : starEach (e :: es) X.env = (false, eval e X.env) :: starEach es X.env := by rfl) : PA X (e :: es) (tCons te t) := by
  intro pos pins s σ H Q I h
  rw [hs]
  show wpAny _ _ (spliced ((false, eval e X.env) :: backTo pos (starEach es X.env))) _ _ s
  refine Calls.spliced_cons (thn (ha pins s σ H _ I h) fun u s1 ⟨x, H1, I1, r1, q1⟩ => ?_)
  exact thn (hr pos pins s1 σ H1 _ I1 q1) fun us s2 ⟨xs, H2, I2, r2, q2⟩ => ⟨x :: xs, H2, I2, .cons r1 r2, q2⟩

/-- a tuple, a list of written items -/
noncomputable def tTup (t : TA) : TE := fun σ H Q => t σ H fun xs H1 => xs.length ≤ sizeLine ∧ ∀ p, H1 p = none → Q (.ref p) (upd H1 p (.tup xs))
noncomputable def tLst (t : TA) : TE := fun σ H Q => t σ H fun xs H1 => xs.length ≤ sizeLine ∧ ∀ p, H1 p = none → Q (.ref p) (upd H1 p (.lst xs))
theorem pe_tup {x1} (h : PA X es t) : PE X (.Tuple es x1 pos) (tTup t) := by
  intro pins s σ H Q I hq
  refine wpAny_Tuple_spliced (thn (h pos pins s σ H _ I hq) fun us s1 ⟨xs, H1, I1, r, z, q⟩ => ⟨by rw [← r.length]; exact z, ?_⟩)
  have hf : H1 s1.heap.objs.size = none := I1.hok.fresh (Nat.le_refl _)
  refine ⟨.ref s1.heap.objs.size, upd H1 s1.heap.objs.size (.tup xs), I1.laid (t' := s1.toks) (fun b u e => Heap.get?_push_of_some _ e) (Nat.le_refl _) ?_, rfl, q _ hf⟩
  exact ⟨z, us, r, ⟨_, Heap.get?_push_size _ rfl, rfl, _, rfl, rfl⟩⟩
theorem pe_lst (h : PA X es t) : PE X (.List es pos) (tLst t) := by
  intro pins s σ H Q I hq
  refine wpAny_List_spliced (thn (h pos pins s σ H _ I hq) fun us s1 ⟨xs, H1, I1, r, z, q⟩ => ⟨by rw [← r.length]; exact z, ?_⟩)
  have hf : H1 s1.heap.objs.size = none := I1.hok.fresh (Nat.le_refl _)
  refine ⟨.ref s1.heap.objs.size, upd H1 s1.heap.objs.size (.lst xs), I1.laid (t' := s1.toks) (fun b u e => Heap.get?_push_of_some _ e) (Nat.le_refl _) ?_, rfl, q _ hf⟩
  exact ⟨z, us, 0, r, Heap.get?_push_size _ rfl⟩
end

/-! ### what a def promises -/
/-- a def's promise: the bound arguments in the parameters' order, the heap, the wanted end, the wanted exception -/
noncomputable abbrev Sp := List V → Hp → VK → XK → Prop
/-- how an exception lies behind a call (file 08 gives it): the callers' frames, abstract heap and state ahead of the call, the wish, the exception, the state -/
noncomputable abbrev CXT := List Env → Hp → Shared → XK → Value → Shared → Prop

/-- the state at a call -/
structure Env0 (P : Program) (w : World) (K : PySem.W.Frag) (mg : Str → Option Value) (base : Heap) (A : Around) (outer : List Env) (s : Shared) (H : Hp) : Prop where
  frames : A.frames = some outer
  mod : Mod K mg base
  bs : ∀ b o, base.get? b = some o → s.heap.get? b = some o ∧ H b = none
  bsz : base.objs.size ≤ s.heap.objs.size
  funs : s.heap.FunFrames base outer
  frf : ∀ b ∈ frs outer, H b = none
  hok : HOk P w H s.heap
  bare : AllBare s.gens
/-- a call's end -/
noncomputable def CE (outer : List Env) (P : Program) (w : World) (H : Hp) (s : Shared) (Q : VK) (u : Value) (s' : Shared) : Prop :=
  ∃ v H', s'.os = s.os ∧ AllBare s'.gens ∧ Un (frs outer) [] H H' s.heap s'.heap ∧ HOk P w H' s'.heap ∧ RelV v u ∧ Q v H'
noncomputable def CR (CX : CXT) (outer : List Env) (P : Program) (w : World) (H : Hp) (s : Shared) (Q : VK) (E : XK) (r : Result) (s' : Shared) : Prop :=
  match r with
  | .ok (.ret u) => CE outer P w H s Q u s'
  | .ok _ => False
  | .error e => CX outer H s E e s'
structure FnOk (P : Program) (w : World) (K : PySem.W.Frag) (mg : Str → Option Value) (base : Heap) (CX : CXT) (k : Nat) (f : Addr) (fd : FuncData) (ps : List Str) (sp : Sp) : Prop where
  len : ∀ vs H Q E, sp vs H Q E → vs.length = ps.length
  run : ∀ (A : Around) (outer : List Env) (s : Shared) (H : Hp) (args : Args) (us : List Value) (vs : List V) (Q : VK) (E : XK), Room k A → Env0 P w K mg base A outer s H → BindsTo s fd args (ps.zip us) → Vals vs us → sp vs H Q E →
    codeAny (model P w) A (.call (.ref f) args) (CR CX outer P w H s Q E) s
/-- a weaker promise -/
theorem FnOk.imp {P : Program} {w : World} {K : PySem.W.Frag} {mg : Str → Option Value} {base : Heap} {CX : CXT} {k : Nat} {f : Addr} {fd : FuncData} {ps : List Str} {sp sp' : Sp} (F : FnOk P w K mg base CX k f fd ps sp)
    (h : ∀ vs H Q E, sp' vs H Q E → sp vs H Q E) : FnOk P w K mg base CX k f fd ps sp' :=
  ⟨fun vs H Q E q => F.len vs H Q E (h _ _ _ _ q), fun A outer s H args us vs Q E hr he hb hv hs => F.run A outer s H args us vs Q E hr he hb hv (h _ _ _ _ hs)⟩

theorem Env0.make {P : Program} {w : World} {K : PySem.W.Frag} {mg : Str → Option Value} {base : Heap} {A : Around} {outer : List Env} {s : Shared} {H : Hp} (e : Env0 P w K mg base A outer s H) (C : Addr) (us : List Value) (kw : List (Str × Value)) :
    Env0 P w K mg base (A.under (.builtin "type.__call__" ⟨.ref C :: us, kw⟩)) outer s H := ⟨by first | exact e.frames | (simpa [Around.under, Code.envs, Code.isFrame, pushEnvs] using e.frames), e.mod, e.bs, e.bsz, e.funs, e.frf, e.hok, e.bare⟩
theorem Env0.in1 {P : Program} {w : World} {K : PySem.W.Frag} {mg : Str → Option Value} {base : Heap} {A : Around} {outer : List Env} {s : Shared} {H : Hp} (e : Env0 P w K mg base A outer s H) :
    Env0 P w K mg base A.in1 outer s H := ⟨e.frames, e.mod, e.bs, e.bsz, e.funs, e.frf, e.hok, e.bare⟩

section
variable {X : Cx} {pins : List (Addr × Obj)} {σ : St} {H : Hp} {s s' : Shared}
/-- from a body: what a callee wants -/
theorem Inv.env0 (I : Inv X pins σ H s) : Env0 X.prog X.w X.K X.mg X.base X.A X.stack s H :=
  ⟨I.ok.frames, I.ok.mod, I.bs, Nat.le_trans I.ok.bsz I.sz, I.stack, I.stkFree, I.hok, I.bare⟩
/-- behind a call -/
theorem Inv.after {Q : VK} {u : Value} (I : Inv X pins σ H s) (h : CE X.stack X.prog X.w H s Q u s') : EP X pins σ Q u s' := by
  obtain ⟨v, H', os, bare, un, hok, r, q⟩ := h
  obtain ⟨hh, g, d, t, os'⟩ := s'
  obtain rfl : os' = s.os := os
  exact ⟨v, H', I.call (h' := hh) (g' := g) (d' := d) (t' := t) (ch := []) un hok bare (fun b z => absurd z (by simp)), r, q⟩
end

/-! ### calls -/
/-- f(..): the written arguments, then the defaults dvs; E: what is wanted of an exception -/
noncomputable def tCall (sp : Sp) (dvs : List V) (E : XK) (t : TA) : TE := fun σ H Q => t σ H fun vs H1 => sp (vs ++ dvs) H1 Q E
/-- o.m(..) of an instance of the class at C -/
noncomputable def tMeth (C : Addr) (m : Str) (sp : Sp) (dvs : List V) (E : XK) (ta : TE) (t : TA) : TE := fun σ H Q => ta σ H fun x H1 => ∃ a dx fs, x = .ref a ∧ H1 a = some (.ins C dx fs) ∧ fs.lookup m = none ∧
  t σ H1 fun vs H2 => sp (x :: (vs ++ dvs)) H2 Q E
/-- C(..): a new instance and its dict, then __init__ -/
noncomputable def tMake (C : Addr) (sp : Sp) (dvs : List V) (E : XK) (t : TA) : TE := fun σ H Q => t σ H fun vs H1 => ∀ x dx, H1 x = none → H1 dx = none → dx ≠ x →
  sp (.ref x :: (vs ++ dvs)) (upd (upd H1 dx (.own x)) x (.ins C dx [])) (fun v H2 => v = .non ∧ Q (.ref x) H2) E

/-- how the parameters are bound: us the positional arguments, kw the keywords' values by name, ds the defaults that fill up -/
noncomputable def Binds (K : PySem.W.Frag) (fd : FuncData) (ps : List Str) (ds : List Value) : Prop :=
  ∀ (s : Shared) (us : List Value), K.In s.heap → (us ++ ds).length = ps.length → BindsTo s fd ⟨us, []⟩ (ps.zip (us ++ ds))
/-- every parameter is given -/
theorem Binds.all {K : PySem.W.Frag} {fd : FuncData} {ps : List Str} (h : ∀ us : List Value, us.length = ps.length → bindArgs fd ⟨us, []⟩ = pure (ps.zip us)) : Binds K fd ps [] := fun s us _ hl => by
  rw [List.append_nil] at hl ⊢
  exact .of_eq (h us hl)

/-- an exception of a callee reaches what this body wants of exceptions -/
noncomputable def Passes (CX : CXT) (X : Cx) (E : XK) : Prop := ∀ (pins : List (Addr × Obj)) (σ : St) (H : Hp) (s : Shared) (e : Value) (s' : Shared), Inv X pins σ H s → CX X.stack H s E e s' → X.xe e s'

section
variable {X : Cx} {CX : CXT} {k : Nat} {f C : Addr} {fd : FuncData} {ps : List Str} {sp : Sp} {dvs : List V} {ds : List Value} {E : XK} {x m : Str} {p pos apos : Pos} {e o : Expr} {es : List Expr} {ta : TE} {t : TA}

/-- the callee runs -/
theorem run_fn {pins : List (Addr × Obj)} {σ : St} {H : Hp} {s : Shared} {Q : VK} {us : List Value} {vs : List V} (F : FnOk X.prog X.w X.K X.mg X.base CX k f fd ps sp) (hr : Room k X.A) (hb : Binds X.K fd ps ds) (hd : Vals dvs ds) (hx : Passes CX X E)
    (I : Inv X pins σ H s) (r : Vals vs us) (h : sp (vs ++ dvs) H Q E) : wpAny (model X.prog X.w) X.A (call (.ref f) us) (EP X pins σ Q) X.xe s := by
  have r2 : Vals (vs ++ dvs) (us ++ ds) := r.append hd
  have hl : (us ++ ds).length = ps.length := by rw [← r2.length]; exact F.len _ _ _ _ h
  refine wpAny_call (codeAny_mono (F.run X.A X.stack s H ⟨us, []⟩ (us ++ ds) (vs ++ dvs) Q E hr I.env0 (hb s us I.kIn hl) r2 h) fun r s' hq => ?_)
  cases r with
  | error e => exact hx pins σ H s e s' I hq
  | ok fl =>
    cases fl with
    | ret u => exact I.after hq
    | next => exact False.elim hq
    | brk => exact False.elim hq
    | cont => exact False.elim hq

theorem pe_call (F : FnOk X.prog X.w X.K X.mg X.base CX k f fd ps sp) (hr : Room k X.A) (hg : Gl X x) (hm : X.mg x = some (.ref f)) (hk : PySem.W.keepIn X.K (.ref f) = true) (hb : Binds X.K fd ps ds) (hd : Vals dvs ds) (hx : Passes CX X E)
    (ha : PA X (e :: es) t) (hdb : (x == ("__debug__" : Str)) = false := by decide) (he : starEach (e :: es) X.env = (false, eval e X.env) :: starEach es X.env := by rfl) (hpl : (backTo pos (starEach es X.env)).any (·.1) = false := by rfl) :
    PE X (.Call (.Name x p) (e :: es) [] pos) (tCall sp dvs E t) := by
  intro pins s σ H Q I h
  refine wpAny_Call_Name_kw (ld_glob I hg hm ?_ hdb)
  refine PySem.W.callWith_K (h₀ := X.base) I.ok.mod.kin hk (thn (ha pos pins s σ H _ I h) fun us s1 ⟨vs, H1, I1, r, q⟩ => ⟨I1.kIn, ?_⟩) he hpl
  exact run_fn F hr hb hd hx I1 r q
/-- o.m(e, ..) -/
theorem pe_meth {pl : Sem Bool} (he : PE X o ta) (c : Cls X.K C) (hm : Meth X.K C m f) (F : FnOk X.prog X.w X.K X.mg X.base CX k f fd ps sp) (hr : Room k X.A) (hb : Binds X.K fd ps ds) (hd : Vals dvs ds) (hx : Passes CX X E) (ha : PA X (e :: es) t)
    (hst : starEach (e :: es) X.env = (false, eval e X.env) :: starEach es X.env := by rfl) (hpl : (backTo pos (starEach es X.env)).any (·.1) = false := by rfl)
    (ht : eval (.Call (.Attribute o m apos) (e :: es) [] pos) X.env = (do
      let ov ← eval o X.env
      standAt apos.atName
      let (f, first) ← holding [ov] (getMethod ov m pl)
      callWith pos f first (backTo pos (starEach (e :: es) X.env)) (backToKw pos (keywordEach [] X.env))) := by rfl) :
    PE X (.Call (.Attribute o m apos) (e :: es) [] pos) (tMeth C m sp dvs E ta t) := by
  intro pins s σ H Q I h
  refine PySem.W.methodCall_KW (pl := pl) (thn (he pins s σ H _ I h) fun u s1 ⟨x, H1, I1, rx, a, dx, fs, ex, ea, l, q⟩ => ?_) ht
  subst ex
  obtain rfl : u = Value.ref a := rx
  refine getmeth_ok I1 ea c hm l ?_
  refine PySem.W.callWith_K (first := [.ref a]) (h₀ := X.base) I.ok.mod.kin hm.kp (thn (ha pos pins s1 σ H1 _ I1 q) fun us s2 ⟨vs, H2, I2, r, q2⟩ => ⟨I2.kIn, ?_⟩) hst hpl
  exact run_fn (us := .ref a :: us) (vs := .ref a :: vs) F hr hb hd hx I2 (.cons rfl r) q2
/-- o.m() -/
theorem pe_meth0 {pl : Sem Bool} (he : PE X o ta) (c : Cls X.K C) (hm : Meth X.K C m f) (F : FnOk X.prog X.w X.K X.mg X.base CX k f fd ps sp) (hr : Room k X.A) (hb : Binds X.K fd ps ds) (hd : Vals dvs ds) (hx : Passes CX X E)
    (ht : eval (.Call (.Attribute o m apos) [] [] pos) X.env = (do
      let ov ← eval o X.env
      standAt apos.atName
      let (f, first) ← holding [ov] (getMethod ov m pl)
      callWith pos f first (backTo pos (starEach [] X.env)) (backToKw pos (keywordEach [] X.env))) := by rfl) :
    PE X (.Call (.Attribute o m apos) [] [] pos) (tMeth C m sp dvs E ta tNil) := by
  intro pins s σ H Q I h
  refine PySem.W.methodCall_KW (pl := pl) (thn (he pins s σ H _ I h) fun u s1 ⟨x, H1, I1, rx, a, dx, fs, ex, ea, l, q⟩ => ?_) ht
  subst ex
  obtain rfl : u = Value.ref a := rx
  refine getmeth_ok I1 ea c hm l ?_
  exact PySem.W.callWith_K0 (first := [.ref a]) I1.kIn hm.kp (run_fn (us := [.ref a]) (vs := [.ref a]) F hr hb hd hx I1 (.cons rfl .nil) q)

/-- what a class must have to be made -/
structure Mk (K : PySem.W.Frag) (C f : Addr) : Prop where
  makes : PySem.W.makesIn K C = true
  init : PySem.W.findIn K (.ref C) "__init__" = some (some (.ref f))
  fn : PySem.W.isFn K (.ref f) = true
  kp : PySem.W.keepIn K (.ref C) = true

theorem run_make {pins : List (Addr × Obj)} {σ : St} {H : Hp} {s : Shared} {Q : VK} {us : List Value} {vs : List V} (M : Mk X.K C f) (F : FnOk X.prog X.w X.K X.mg X.base CX k f fd ps sp) (hr : Room (k + 1) X.A) (hb : Binds X.K fd ps ds) (hd : Vals dvs ds)
    (hx : Passes CX X E) (I : Inv X pins σ H s) (r : Vals vs us)
    (h : ∀ x dx, H x = none → H dx = none → dx ≠ x → sp (.ref x :: (vs ++ dvs)) (upd (upd H dx (.own x)) x (.ins C dx [])) (fun v H2 => v = .non ∧ Q (.ref x) H2) E) :
    wpAny (model X.prog X.w) X.A (call (.ref C) us) (EP X pins σ Q) X.xe s := by
  have hq := h (s.heap.objs.size + 1) s.heap.objs.size (I.hok.fresh (Nat.le_succ _)) (I.hok.fresh (Nat.le_refl _)) (Nat.ne_of_lt (Nat.lt_succ_self _))
  have I2 := Inv.made (C := C) I
  have r2 : Vals (V.ref (s.heap.objs.size + 1) :: (vs ++ dvs)) (Value.ref (s.heap.objs.size + 1) :: (us ++ ds)) := .cons rfl (r.append hd)
  have hl : (Value.ref (s.heap.objs.size + 1) :: us ++ ds).length = ps.length := by
    have e := r2.length
    rw [F.len _ _ _ _ hq] at e
    exact e.symm
  refine wpAny_call (make_map (f := f) I.kIn M.makes M.init (beq_iff_eq.mp M.fn) (codeAny_mono (F.run _ X.stack _ _ ⟨Value.ref (s.heap.objs.size + 1) :: us, []⟩ (Value.ref (s.heap.objs.size + 1) :: (us ++ ds)) _ _ E (hr.make C us [])
    (I2.env0.make C us []) (hb _ (Value.ref (s.heap.objs.size + 1) :: us) I2.kIn hl) r2 hq) fun r s' hq' => ?_))
  cases r with
  | error e => exact hx pins σ _ _ e s' I2 hq'
  | ok fl =>
    cases fl with
    | ret u =>
      obtain ⟨v, H', I3, rv, ev, q3⟩ := I2.after hq'
      subst ev
      exact ⟨rv, ⟨V.ref (s.heap.objs.size + 1), H', I3, rfl, q3⟩⟩
    | next => exact False.elim hq'
    | brk => exact False.elim hq'
    | cont => exact False.elim hq'
theorem pe_make (M : Mk X.K C f) (F : FnOk X.prog X.w X.K X.mg X.base CX k f fd ps sp) (hr : Room (k + 1) X.A) (hg : Gl X x) (hm : X.mg x = some (.ref C)) (hb : Binds X.K fd ps ds) (hd : Vals dvs ds) (hx : Passes CX X E)
    (ha : PA X (e :: es) t) (hdb : (x == ("__debug__" : Str)) = false := by decide) (he : starEach (e :: es) X.env = (false, eval e X.env) :: starEach es X.env := by rfl) (hpl : (backTo pos (starEach es X.env)).any (·.1) = false := by rfl) :
    PE X (.Call (.Name x p) (e :: es) [] pos) (tMake C sp dvs E t) := by
  intro pins s σ H Q I h
  refine wpAny_Call_Name_kw (ld_glob I hg hm ?_ hdb)
  refine PySem.W.callWith_K (h₀ := X.base) I.ok.mod.kin M.kp (thn (ha pos pins s σ H _ I h) fun us s1 ⟨vs, H1, I1, r, q⟩ => ⟨I1.kIn, ?_⟩) he hpl
  exact run_make M F hr hb hd hx I1 r q
end

/-! ### keywords -/

/-! ### a def's body keeps its promise -/
/-- names: the parameters first -/
structure FnScope (N P : List Str) (sc : Scope) : Prop where
  kind : sc.kind = .function
  co : sc.isCoroutine = false
  gen : sc.isGenerator = false
  nd : N.Nodup
  pre : N.take P.length = P
  par : ∀ x ∈ P, sc.names.lookup x = some .local ∨ sc.names.lookup x = some .cell
  nofree : ∀ y ∈ sc.names, y.2 ≠ .free

theorem bindL_out {kindOf : Str → Option NameKind} {x : Str} : ∀ {binds : List (Str × Value)} {m : Str → Option Value}, (∀ v, (x, v) ∉ binds) → bindL kindOf binds m x = m x
  | [], _, _ => rfl
  | (n, v) :: r, m, h => by
    unfold bindL
    rw [bindL_out fun w hw => h w (List.mem_cons_of_mem _ hw)]
    split
    · have : x ≠ n := by rintro rfl; exact h v List.mem_cons_self
      simp [this]
    · rfl
theorem bindC_out {kindOf : Str → Option NameKind} {x : Str} : ∀ {binds : List (Str × Value)} {m : Str → Option Value}, (∀ v, (x, v) ∉ binds) → bindC kindOf binds m x = m x
  | [], _, _ => rfl
  | (n, v) :: r, m, h => by
    unfold bindC
    rw [bindC_out fun w hw => h w (List.mem_cons_of_mem _ hw)]
    split
    · rfl
    · have : x ≠ n := by rintro rfl; exact h v List.mem_cons_self
      simp [this]
theorem bindL_get {kindOf : Str → Option NameKind} {x : Str} {v : Value} : ∀ {P : List Str} {vs : List Value} {i : Nat} {m : Str → Option Value}, P.Nodup → P[i]? = some x → vs[i]? = some v → kindOf x = some .local →
    bindL kindOf (P.zip vs) m x = some v
  | [], _, _, _, _, h, _, _ => by simp at h
  | _ :: _, [], _, _, _, _, h, _ => by simp at h
  | p :: P, w :: vs, 0, m, nd, h1, h2, hk => by
    simp at h1 h2; subst h1; subst h2
    show bindL kindOf ((p, w) :: P.zip vs) m p = _
    unfold bindL
    rw [bindL_out fun v hv => (List.nodup_cons.mp nd).1 (List.of_mem_zip hv).1, if_pos hk]
    simp
  | p :: P, w :: vs, i + 1, m, nd, h1, h2, hk => by
    show bindL kindOf ((p, w) :: P.zip vs) m x = _
    unfold bindL
    exact bindL_get (i := i) (List.nodup_cons.mp nd).2 (by simpa using h1) (by simpa using h2) hk
theorem bindC_get {kindOf : Str → Option NameKind} {x : Str} {v : Value} : ∀ {P : List Str} {vs : List Value} {i : Nat} {m : Str → Option Value}, P.Nodup → P[i]? = some x → vs[i]? = some v → kindOf x ≠ some .local →
    bindC kindOf (P.zip vs) m x = some v
  | [], _, _, _, _, h, _, _ => by simp at h
  | _ :: _, [], _, _, _, _, h, _ => by simp at h
  | p :: P, w :: vs, 0, m, nd, h1, h2, hk => by
    simp at h1 h2; subst h1; subst h2
    show bindC kindOf ((p, w) :: P.zip vs) m p = _
    unfold bindC
    rw [bindC_out fun v hv => (List.nodup_cons.mp nd).1 (List.of_mem_zip hv).1, if_neg hk]
    simp
  | p :: P, w :: vs, i + 1, m, nd, h1, h2, hk => by
    show bindC kindOf ((p, w) :: P.zip vs) m x = _
    unfold bindC
    exact bindC_get (i := i) (List.nodup_cons.mp nd).2 (by simpa using h1) (by simpa using h2) hk

/-- the names' values at the entry -/
noncomputable def start (N : List Str) (vs : List V) : St := vs.map some ++ List.replicate (N.length - vs.length) none

/-- the context of a def's body, at its entry; an exception leaves the frame, then lies as CX says -/
noncomputable def cxOf (CX : CXT) (P : Program) (w : World) (K : PySem.W.Frag) (mg : Str → Option Value) (base : Heap) (N : List Str) (qual : Str) (scope : Scope) (f : Addr) (cd : Value) (A : Around) (outer : List Env) (s : Shared) (H : Hp) (E : XK) : Cx where
  prog := P
  w := w
  K := K
  mg := mg
  base := base
  A := A.deeper (envOfC qual scope s.heap.objs.size f cd)
  N := N
  s₀ := s
  H₀ := H
  env := envOfC qual scope s.heap.objs.size f cd
  outer := outer
  stack := envOfC qual scope s.heap.objs.size f cd :: outer
  ex := []
  calm := true
  fn := fun _ => true
  pn := []
  xe := fun e s' => wpAny (model P w) (A.deeper (envOfC qual scope s.heap.objs.size f cd)) (leaving (envOfC qual scope s.heap.objs.size f cd) e) (fun _ s'' => CX outer H s E e s'') (fun e' s'' => CX outer H s E e' s'') s'

theorem cell_has {sc : Scope} {n : Nat} {x : Str} (h : sc.names.lookup x = some .cell) : ∃ c, (cellsFrom n sc.names []).lookup x = some c := by
  have q := PySem.W.cellsFrom_some sc.names n [] (.inl h)
  exact Option.isSome_iff_exists.mp q

theorem inv_start {CX : CXT} {P : Program} {w : World} {K : PySem.W.Frag} {mg : Str → Option Value} {base : Heap} {N ps : List Str} {qual : Str} {scope : Scope} {f : Addr} {cd : Value} {A : Around} {outer : List Env} {s s1 : Shared} {H : Hp} {E : XK} {us : List Value} {vs : List V}
    (S : FnScope N ps scope) (hd : A.handled = none) (e0 : Env0 P w K mg base A outer s H) (hl : vs.length = ps.length) (r : Vals vs us)
    (x : InCallC s s.heap.objs.size (bindL (envOfC qual scope s.heap.objs.size f cd).kindOf (ps.zip us) fun _ => none) (cellsFrom (s.heap.objs.size + 1) scope.names []) (bindC (envOfC qual scope s.heap.objs.size f cd).kindOf (ps.zip us) fun _ => none) s1) :
    Inv (cxOf CX P w K mg base N qual scope f cd A outer s H E) [] (start N vs) H s1 := by
  have hpl : ps.length ≤ N.length := by have := congrArg List.length S.pre; rw [List.length_take] at this; omega
  obtain ⟨h1, tk, rfl, hk⟩ := x.done
  have noA : ∀ b : Addr, b ∉ (cxOf CX P w K mg base N qual scope f cd A outer s H E).ex := fun b z => absurd (show b ∈ ([] : List Addr) from z) (by simp)
  refine ⟨⟨e0.mod, S.kind, rfl, rfl, Nat.le_refl _, fun y z c h1 h2 => ?_, fun y hy => ?_, fun y c _ h => ?_, fun _ => hd, Around.frames_deeper e0.frames, .inr ⟨rfl, rfl⟩, fun b z => absurd z (noA b), e0.bs, e0.bsz, fun b _ _ => noA b, fun b z => absurd z (noA b), e0.funs, e0.frf⟩,
    rfl, e0.bare, Un.kept hk, ⟨_, x.toInCall.ns, fun i y v h1 h2 h3 => ?_⟩, fun y c h => ⟨_, x.cell y c h⟩, e0.hok.fresh (Nat.le_refl _), fun y c h => ?_, fun p hp => absurd (show p ∈ ([] : List (Addr × Obj)) from hp) (by simp), e0.hok.kept hk, ?_⟩
  · exact name_of_addr x.apart (PySem.mem_of_lookup h1) (PySem.mem_of_lookup h2)
  · have hy : scope.names.lookup y = some .cell ∨ scope.names.lookup y = some .free := hy
    rcases hy with hy | hy
    · exact cell_has hy
    · exact absurd rfl (S.nofree _ (PySem.mem_of_lookup hy))
  · exact Nat.le_of_lt (x.above y c (PySem.mem_of_lookup h))
  · have hi : i < vs.length := by
      unfold start at h2
      by_cases hi : i < vs.length
      · exact hi
      · rw [List.getElem?_append_right (by simpa using hi)] at h2
        rw [List.getElem?_replicate] at h2
        split at h2 <;> cases h2
    have ha : vs[i]? = some v := by
      unfold start at h2
      rw [List.getElem?_append_left (by simpa using hi), List.getElem?_map] at h2
      cases e : vs[i]? with
      | none => rw [e] at h2; cases h2
      | some a => rw [e] at h2; cases h2; rfl
    obtain ⟨u, hu, rv⟩ := r.get ha
    have hp : ps[i]? = some y := by
      rw [← S.pre, List.getElem?_take_of_lt (by omega)]; exact h1
    have ndP : ps.Nodup := by rw [← S.pre]; exact S.nd.sublist (List.take_sublist _ _)
    refine ⟨u, rv, ?_⟩
    rcases S.par y (List.mem_of_getElem? hp) with k | k
    · exact .inl ⟨k, bindL_get ndP hp hu k⟩
    · obtain ⟨c, e⟩ := cell_has (n := s.heap.objs.size + 1) k
      refine .inr ⟨.inl k, c, e, ?_⟩
      have q := x.cell y c e
      rw [bindC_get ndP hp hu (by show scope.names.lookup y ≠ _; rw [k]; decide)] at q
      exact q
  · exact e0.hok.fresh (Nat.le_of_lt (x.above y c (PySem.mem_of_lookup h)))
  · unfold start
    show _ = N.length
    rw [List.length_append, List.length_map, List.length_replicate]
    omega

/-- THE RULE: a def (or a method) of the text, by its body. The body's reading t is chosen for each entry; it is run at the parameters' values -/
theorem fn_of {CX : CXT} {P : Program} {w : World} {K : PySem.W.Frag} {mg : Str → Option Value} {base : Heap} {k : Nat} {f : Addr} {name qual : Str} {params : Arguments} {body : List Stmt} {scope : Scope} {dV kV doc pm cdv ct oc : Value} {an od : Option Addr}
    {osl : Array (Option Value)} {N ps : List Str} {sp : Sp} (lk : K.lookup f = some ⟨oc, od, .func (PySem.W.fnOf name qual params body scope dV kV doc pm an cdv ct), osl⟩) (hcd : PySem.W.codeIn K cdv qual = true) (S : FnScope N ps scope)
    (len : ∀ vs H Q E, sp vs H Q E → vs.length = ps.length)
    (hbody : ∀ (A : Around) (outer : List Env) (s : Shared) (H : Hp) (vs : List V) (Q : VK) (E : XK), Room k (A.deeper (envOfC qual scope s.heap.objs.size f cdv)) → sp vs H Q E →
      ∃ t, PSs (cxOf CX P w K mg base N qual scope f cdv A outer s H E) body t ∧ t { nx := fun _ H' => Q .non H', rt := Q } (start N vs) H) :
    FnOk P w K mg base CX (k + 1) f (PySem.W.fnOf name qual params body scope dV kV doc pm an cdv ct) ps sp := by
  refine ⟨len, fun A outer s H args us vs Q E hr e0 hb r hsp => ?_⟩
  have hl := len _ _ _ _ hsp
  have KX : K.In s.heap := e0.mod.kin.keeps fun b o e => (e0.bs b o e).1
  have lim : s.heap.NoLimit := e0.mod.nolimit.keeps fun b o e => (e0.bs b o e).1
  have hkind : ∀ y ∈ ps.zip us, scope.names.lookup y.1 = some .local ∨ (scope.names.lookup y.1 = some .cell ∧ ((cellsFrom (s.heap.objs.size + 1) scope.names []).lookup y.1).isSome = true) := fun ⟨n, v⟩ hy => by
    rcases S.par n (List.of_mem_zip hy).1 with q | q
    · exact .inl q
    · exact .inr ⟨q, PySem.W.cellsFrom_some _ _ _ (.inl q)⟩
  refine codeAny_call_function hr.depth (KX _ _ lk) rfl S.co S.gen rfl (PySem.W.codeRec_of KX hcd) (hb _ _ _ _ ?_)
  refine wpAny_newFunctionEnv_cells S.kind hkind fun env he s1 x => ?_
  subst he
  refine ⟨lim.keeps x.toInCall.keep, codeAny_func ?_⟩
  obtain ⟨t, ht, hq⟩ := hbody A outer s H vs Q E (hr.deeper _) hsp
  have I : Inv (cxOf CX P w K mg base N qual scope f cdv A outer s H E) [] (start N vs) H s1 := inv_start S hr.hd e0 hl r x
  refine wpAny_mono (ht [] s1 (start N vs) H _ I hq) (fun fl s' hs => ?_) fun e s' hs => hs
  have fin : ∀ {σ' : St} {H' : Hp} {v : V} {u : Value}, Inv (cxOf CX P w K mg base N qual scope f cdv A outer s H E) [] σ' H' s' → RelV v u → Q v H' → CE outer P w H s Q u s' :=
    fun {σ' H' v u} J rv q => ⟨v, H', J.os, J.bare, J.base, J.hok, rv, q⟩
  cases fl with
  | ret u =>
    obtain ⟨v, σ', H', J, rv, q⟩ := hs
    exact fin J rv q
  | next =>
    obtain ⟨σ', H', J, q⟩ := hs
    exact fin (v := V.non) (u := Value.none) J rfl q
  | brk =>
    obtain ⟨_, _, _, q⟩ := hs
    exact False.elim q
  | cont =>
    obtain ⟨_, _, _, q⟩ := hs
    exact False.elim q
end L2

namespace L2
open PySem PySem.Spec PyProof.Rows
section
variable {X : Cx} {x : Str} {p pos : Pos} {e : Expr} {es : List Expr} {t : TA} {id T : String} {r : List V → Hp → VK → Prop}

noncomputable def tCB (r : List V → Hp → VK → Prop) (t : TA) : TE := fun σ H Q => t σ H fun vs H1 => r vs H1 Q
/-- f(e, ..), f a built-in function -/
theorem pe_callB (hc : CallR X (.builtin id) r) (hg : Gl X x) (hm : X.mg x = none) (hv : bootBuiltins x = some (.builtin id)) (ha : PA X (e :: es) t) (hn : x ≠ "__name__" := by decide) (hdb : (x == ("__debug__" : Str)) = false := by decide)
    (he : starEach (e :: es) X.env = (false, eval e X.env) :: starEach es X.env := by rfl) (hpl : (backTo pos (starEach es X.env)).any (·.1) = false := by rfl) : PE X (.Call (.Name x p) (e :: es) [] pos) (tCB r t) := by
  intro pins s σ H Q I h
  refine wpAny_Call_Name_kw (ld_blt I hg hm hv ?_ hn hdb)
  exact PyProof.Rows.callWith_builtin1 (thn (ha pos pins s σ H _ I h) fun us s1 ⟨vs, H1, I1, r1, q1⟩ => hc pins s1 σ H1 vs us Q I1 r1 q1) he hpl
/-- T(e, ..), T a built-in type -/
theorem pe_callTy (hc : CallR X (.type T) r) (hg : Gl X x) (hm : X.mg x = none) (hv : bootBuiltins x = some (.type T)) (ha : PA X (e :: es) t) (hn : x ≠ "__name__" := by decide) (hdb : (x == ("__debug__" : Str)) = false := by decide)
    (he : starEach (e :: es) X.env = (false, eval e X.env) :: starEach es X.env := by rfl) (hpl : (backTo pos (starEach es X.env)).any (·.1) = false := by rfl) : PE X (.Call (.Name x p) (e :: es) [] pos) (tCB r t) := by
  intro pins s σ H Q I h
  refine wpAny_Call_Name_kw (ld_blt I hg hm hv ?_ hn hdb)
  exact PyProof.Rows.callWith_type1 (thn (ha pos pins s σ H _ I h) fun us s1 ⟨vs, H1, I1, r1, q1⟩ => hc pins s1 σ H1 vs us Q I1 r1 q1) he hpl
end
end L2

namespace HT
open PySem PyProof.Rows


section
variable {prog : Program} {w : World} {A : Around} {E : Value → Shared → Prop} {s : Shared}

/-! ### t[a:b], not the whole -/
/-- a slice's bound as a place among n (d where it is left out) -/
noncomputable def sIx (n d : Nat) : Option Int → Nat
  | none => d
  | some v => if v < 0 then (v + (n : Int)).toNat else min v.toNat n
end
end HT

namespace L2
open PySem PySem.Spec PyProof.Rows

/-! ### the parts of a slice -/
noncomputable abbrev TO := St → Hp → (Option Int → Hp → Prop) → Prop
/-- a slice's part (left out, or an int) -/
noncomputable def PO (X : Cx) (e : Option Expr) (t : TO) : Prop :=
  ∀ (pins : List (Addr × Obj)) (s : Shared) (σ : St) (H : Hp) (Q : Option Int → Hp → Prop), Inv X pins σ H s → t σ H Q →
    wpAny (model X.prog X.w) X.A (evalPart e X.env) (fun u s' => ∃ o H', Inv X pins σ H' s' ∧ IsPart u o ∧ Q o H') X.xe s
noncomputable def tNoPart : TO := fun _ H Q => Q none H
noncomputable def tPart (t : TE) : TO := fun σ H Q => t σ H fun x H1 => ∃ i, x = .int i ∧ Q (some i) H1

theorem intsAre_of {ns : List Int} : ∀ {us : List Value}, Vals (ns.map V.int) us → IntsAre us ns := by
  induction ns with
  | nil => intro us r; rw [List.map_nil] at r; cases r; exact .nil
  | cons n ns ih =>
    intro us r
    rw [List.map_cons] at r
    cases r with
    | cons r1 r2 =>
      obtain ⟨t, e⟩ := r1
      subst e
      exact .cons n t (ih r2)

section
variable {X : Cx} {e : Expr} {te : TE} {lo hi : Option Expr} {tl th : TO} {pos p2 : Pos}

theorem po_none : PO X none tNoPart := by
  intro pins s σ H Q I h
  rw [evalPart_none]
  exact wpAny_pure ⟨none, H, I, .none, h⟩
theorem po_some (h : PE X e te) : PO X (some e) (tPart te) := by
  intro pins s σ H Q I hw
  rw [evalPart_some]
  refine thn (h pins s σ H _ I hw) fun u s1 ⟨x, H1, I1, r1, q1⟩ => ?_
  obtain ⟨i, rfl, q⟩ := q1
  obtain ⟨t, rfl⟩ := r1
  exact ⟨some i, H1, I1, .int i t, q⟩

/-- what a slice of a value is, by values: the slice object stands at sl -/
noncomputable def SlR (X : Cx) (r : V → Option Int → Option Int → Hp → VK → Prop) : Prop :=
  ∀ (pins : List (Addr × Obj)) (s : Shared) (σ : St) (H : Hp) (x : V) (v vl vu : Value) (lo hi : Option Int) (sl : Addr) (Q : VK), Inv X pins σ H s → RelV x v → s.heap.IsSliceOf sl vl vu .none → IsPart vl lo → IsPart vu hi → r x lo hi H Q →
    ∃ T id, typeLookup (.type T) "__getitem__" = pure (some (.builtin id)) ∧ s.TypeIs v T ∧ wpAny (model X.prog X.w) X.A (getItem v (.ref sl)) (EP X pins σ Q) X.xe s
noncomputable def tSl (r : V → Option Int → Option Int → Hp → VK → Prop) (te : TE) (tl th : TO) : TE := fun σ H Q => te σ H fun x H1 => tl σ H1 fun l H2 => th σ H2 fun u H3 => r x l u H3 Q
/-- a[lo:hi], any a -/
theorem pe_slice {r : V → Option Int → Option Int → Hp → VK → Prop} (hr : SlR X r) (he : PE X e te) (hl : PO X lo tl) (hu : PO X hi th) : PE X (.Subscript e (.Slice lo hi none p2) pos) (tSl r te tl th) := by
  intro pins s σ H Q I h
  refine Subscript_ (thn (he pins s σ H _ I h) fun v s1 ⟨x, H1, I1, r1, q1⟩ => ?_)
  refine wpAny_Slice (thn (hl pins s1 σ H1 _ I1 q1) fun vl s2 ⟨l, H2, I2, pl, q2⟩ => thn (hu pins s2 σ H2 _ I2 q2) fun vu s3 ⟨u, H3, I3, pu, q3⟩ => ?_)
  rw [evalPart_none]
  refine wpAny_pure ?_
  have I4 : Inv X pins σ H3 { s3 with heap := s3.heap.push { cls := .type "slice", data := .fields #[vl, vu, .none] } } := I3.kept (t' := s3.toks) fun b ob q => Heap.get?_push_of_some _ q
  obtain ⟨T, id, hT, ht, hg⟩ := hr pins { s3 with heap := s3.heap.push { cls := .type "slice", data := .fields #[vl, vu, .none] } } σ H3 x v vl vu l u s3.heap.objs.size Q I4 r1 (Heap.IsSliceOf.new ..) pl pu q3
  show wpAny (model X.prog X.w) X.A (subscriptTail e (.Slice lo hi none p2) v (.ref s3.heap.objs.size)) (EP X pins σ Q) X.xe { s3 with heap := s3.heap.push { cls := .type "slice", data := .fields #[vl, vu, .none] } }
  exact tail_any (ops := [.ref s3.heap.objs.size, v]) ht hT hg (by with_unfolding_all rfl)

/-- the items of xs[lo:hi] -/
noncomputable def cutV (xs : List V) (lo hi : Option Int) : List V := (xs.drop (HT.sIx xs.length 0 lo)).take (HT.sIx xs.length xs.length hi - HT.sIx xs.length 0 lo)
theorem cutV_length (xs : List V) (lo hi : Option Int) : (cutV xs lo hi).length ≤ xs.length := by
  unfold cutV
  rw [List.length_take, List.length_drop]
  omega
/-! ### t < u, t + u -/
end
end L2

namespace L2
open PySem PySem.Spec PyProof.Rows

/-! ### places -/
/-- the place that an index of any sign means -/
noncomputable def ixN (n : Nat) (i : Int) : Option Nat := if 0 ≤ i then (if i < n then some i.toNat else none) else if -(n : Int) ≤ i then some (i + n).toNat else none
noncomputable def atI {α : Type} (xs : List α) (i : Int) : Option α := (ixN xs.length i).bind fun j => xs[j]?
theorem ixN_seq {n : Nat} {i : Int} {j : Nat} (h : ixN n i = some j) : seqIndex? i n = some j ∧ j < n ∧ -(n : Int) ≤ i ∧ i < n := by
  unfold ixN at h
  by_cases h0 : 0 ≤ i
  · rw [if_pos h0] at h
    by_cases h1 : i < n
    · rw [if_pos h1] at h
      have e : i.toNat = j := Option.some.inj h
      exact ⟨by rw [seqIndex_of h0 h1, e], by omega, by omega, h1⟩
    · rw [if_neg h1] at h; cases h
  · rw [if_neg h0] at h
    by_cases h1 : -(n : Int) ≤ i
    · rw [if_pos h1] at h
      have e : (i + n).toNat = j := Option.some.inj h
      exact ⟨by rw [seqIndex_neg (by omega) h1, e], by omega, h1, by omega⟩
    · rw [if_neg h1] at h; cases h
theorem atI_get {α : Type} {xs : List α} {i : Int} {v : α} (h : atI xs i = some v) : ∃ j, seqIndex? i xs.length = some j ∧ xs[j]? = some v ∧ j < xs.length ∧ -(xs.length : Int) ≤ i ∧ i < xs.length := by
  unfold atI at h
  cases e : ixN xs.length i with
  | none => rw [e] at h; cases h
  | some j =>
    rw [e] at h
    obtain ⟨h1, h2, h3, h4⟩ := ixN_seq e
    exact ⟨j, h1, h, h2, h3, h4⟩
theorem atI_nat {α : Type} {xs : List α} {j : Nat} {v : α} (h : xs[j]? = some v) : atI xs (j : Int) = some v := by
  have hj : j < xs.length := (List.getElem?_eq_some_iff.mp h).1
  have e : ixN xs.length (j : Int) = some j := by
    unfold ixN
    rw [if_pos (by omega), if_pos (by omega)]; simp
  unfold atI; rw [e]; exact h
/-! ### what may be subscripted -/
/-- what stands as an index of a plain subscript -/
noncomputable def PlainIx (b : Expr) : Prop := ∀ o i, subscripted b false o i = operate [o, i] (getItem o i)
/-- a subscript by values -/
noncomputable def IxR (X : Cx) (r : R2) : Prop :=
  ∀ (value slice : Expr) (pins : List (Addr × Obj)) (s : Shared) (σ : St) (H : Hp) (x y : V) (v u : Value) (Q : VK), Inv X pins σ H s → RelV x v → RelV y u → r x y H Q →
    subscripted slice false v u = operate [v, u] (getItem v u) → wpAny (model X.prog X.w) X.A (subscriptTail value slice v u) (EP X pins σ Q) X.xe s
/-- a call of a builtin's method by values: the receiver, the arguments -/
noncomputable def MtR (X : Cx) (id : String) (r : V → List V → Hp → VK → Prop) : Prop :=
  ∀ (pins : List (Addr × Obj)) (s : Shared) (σ : St) (H : Hp) (x : V) (xs : List V) (v : Value) (us : List Value) (Q : VK), Inv X pins σ H s → RelV x v → Vals xs us → r x xs H Q →
    wpAny (model X.prog X.w) X.A (call (.builtin id) (v :: us)) (EP X pins σ Q) X.xe s
section
variable {X : Cx} {a b : Expr} {ta tb : TE} {pos : Pos}
/-- a[b] -/
theorem pe_ix {r : R2} (hr : IxR X r) (ha : PE X a ta) (hb : PE X b tb) (hs : PlainIx b) : PE X (.Subscript a b pos) (tOp r ta tb) := by
  intro pins s σ H Q I h
  exact Subscript_ (binT ha hb I h fun v u s2 x y H2 I2 rx ry q => hr a b pins s2 σ H2 x y v u Q I2 rx ry q (hs _ _))

noncomputable def rIxL (K : PySem.W.Frag) : R2 := fun x y H Q => ∃ p xs i v, x = .ref p ∧ y = .int i ∧ SqL K H p xs ∧ atI xs i = some v ∧ Q v H
noncomputable def rIxT (K : PySem.W.Frag) : R2 := fun x y H Q => ∃ p xs i v, x = .ref p ∧ y = .int i ∧ SqT K H p xs ∧ atI xs i = some v ∧ Q v H
theorem ix_list : IxR X (rIxL X.K) := by
  intro value slice pins s σ H x y v u Q I rx ry h hs
  obtain ⟨p, xs, i, z, rfl, rfl, hq, he, q⟩ := h
  cases rx
  obtain ⟨t, rfl⟩ := ry
  obtain ⟨its, r, pl, hz⟩ := I.list hq
  obtain ⟨j, h1, h2, h3, h4, h5⟩ := atI_get he
  obtain ⟨w, ew, rw'⟩ := r.get h2
  have hl := r.length
  have hn := line63
  have fin : EP X pins σ Q w s := ⟨z, H, I, rw', q⟩
  by_cases h0 : 0 ≤ i
  · have hj : i.toNat = j := by
      rw [seqIndex_of h0 h5] at h1
      exact Option.some.inj h1
    exact item_listR pl.isList h0 (by omega) (by rw [hj]; simpa using ew) fin hs
  · have hj : (i + (its.toArray.size : Int)).toNat = j := by
      rw [seqIndex_neg (by omega) h4] at h1
      rw [List.size_toArray, ← hl]
      exact Option.some.inj h1
    exact subscriptTail_builtinR (x := w) pl.isList.typeIs slot_list_getitem.lookup
      (wpAny_getItem_list_neg (Q := fun r s' => r = w ∧ EP X pins σ Q r s') pl.isList (by omega) (by rw [List.size_toArray] <;> omega) (by omega) (by rw [hj]; simpa using ew) ⟨rfl, fin⟩) hs
theorem ix_tup : IxR X (rIxT X.K) := by
  intro value slice pins s σ H x y v u Q I rx ry h hs
  obtain ⟨p, xs, i, z, rfl, rfl, hq, he, q⟩ := h
  cases rx
  obtain ⟨t, rfl⟩ := ry
  obtain ⟨its, r, pl, hz⟩ := I.tuple hq
  obtain ⟨j, h1, h2, h3, h4, h5⟩ := atI_get he
  obtain ⟨w, ew, rw'⟩ := r.get h2
  have hl := r.length
  have hn := line63
  have fin : EP X pins σ Q w s := ⟨z, H, I, rw', q⟩
  exact subscriptTail_builtinR (x := w) pl.typeIs slot_tuple_getitem.lookup
    (getItem_tuple (j := j) (Q := fun r s' => r = w ∧ EP X pins σ Q r s') pl (by omega) (by omega) (by rw [List.size_toArray, ← hl]; exact h1) (by simpa using ew) ⟨rfl, fin⟩) hs
/-! ### xs[i] = v, any sign -/
/-- the list's object behind a store -/
theorem mapSeq_set (its : List Value) (n j : Nat) (u : Value) : Obj.mapSeq (·.setIfInBounds j u) { cls := .type "list", data := .seq its.toArray n } = { cls := .type "list", data := .seq (its.set j u).toArray n } := by
  simp [Obj.mapSeq]
theorem Inv.lst {pins : List (Addr × Obj)} {σ : St} {H : Hp} {s : Shared} {p : Addr} {xs : List V} (I : Inv X pins σ H s) (h : H p = some (.lst xs)) :
    ∃ (its : List Value) (n : Nat), Vals xs its ∧ s.heap.get? p = some { cls := .type "list", data := .seq its.toArray n } ∧ xs.length ≤ sizeLine := by
  obtain ⟨z, its, n, r, e⟩ := I.hok p _ h
  exact ⟨its, n, r, e, z⟩
/-- the list at p is written by an update of its object -/
theorem Inv.lstUpd {pins : List (Addr × Obj)} {σ : St} {H : Hp} {s : Shared} {p : Addr} {xs ys : List V} {its its' : List Value} {n n' : Nat} {f : Obj → Obj} (I : Inv X pins σ H s) (h : H p = some (.lst xs))
    (ho : s.heap.get? p = some { cls := .type "list", data := .seq its.toArray n }) (hf : f { cls := .type "list", data := .seq its.toArray n } = { cls := .type "list", data := .seq its'.toArray n' }) (r : Vals ys its') (hz : ys.length ≤ sizeLine) (t : Nat) :
    Inv X pins σ (upd H p (.lst ys)) { s with heap := s.heap.update p f, toks := t } := by
  have e : (s.heap.update p f).get? p = some { cls := .type "list", data := .seq its'.toArray n' } := by
    rw [Heap.get?_update_self f ho (by rw [hf] <;> rfl), hf]
  refine I.write (x := p) (e := p) (by rw [h]; trivial) (.inl rfl) (fun b u hb q => (Heap.get?_update_other _ _ (Ne.symm hb)).trans q) ⟨_, e⟩ ?_
  exact ⟨hz, its', n', r, e⟩
noncomputable def rSetL : V → V → V → Hp → (Hp → Prop) → Prop := fun o i v H Q => ∃ p xs k j, o = .ref p ∧ i = .int k ∧ H p = some (.lst xs) ∧ ixN xs.length k = some j ∧ Q (upd H p (.lst (xs.set j v)))
theorem set_list : PSet X rSetL := by
  intro pins s σ H o i v ov iv u Q I ro ri rv h
  obtain ⟨p, xs, k, j, rfl, rfl, hp, hj, q⟩ := h
  cases ro
  obtain ⟨t, rfl⟩ := ri
  obtain ⟨its, n, r, ho, hz⟩ := I.lst hp
  obtain ⟨h1, h2, h3, h4⟩ := ixN_seq hj
  have hl := r.length
  have hn := line63
  have I' : Inv X pins σ (upd H p (.lst (xs.set j v))) { s with heap := s.heap.update p (Obj.mapSeq (·.setIfInBounds j u)) } :=
    I.lstUpd hp ho (mapSeq_set its n j u) (r.set rv j) (by rw [List.length_set]; exact hz) s.toks
  by_cases h0 : 0 ≤ k
  · have hk : k.toNat = j := by
      rw [seqIndex_of h0 h4] at h1
      exact Option.some.inj h1
    exact PySem.W.ki_setAt ho h0 (by omega) (by rw [List.size_toArray, ← hl]; exact h4) (by rw [hk]; exact ⟨_, I', q⟩)
  · have hk : (k + (its.toArray.size : Int)).toNat = j := by
      rw [seqIndex_neg (by omega) h3] at h1
      rw [List.size_toArray, ← hl]
      exact Option.some.inj h1
    exact PySem.W.ki_setBack ho (by omega) (by rw [List.size_toArray, ← hl]; exact h3) (by omega) (by rw [hk]; exact ⟨_, I', q⟩)

/-! ### slices -/
theorem slice_bounds (lo hi : Option Int) (n : Nat) : (sliceBounds lo hi none n).1 = ((HT.sIx n 0 lo : Nat) : Int) ∧ (sliceBounds lo hi none n).2.1 = ((HT.sIx n n hi : Nat) : Int) ∧ (sliceBounds lo hi none n).2.2 = 1 := by
  refine ⟨?_, ?_, rfl⟩
  · cases lo with
    | none => simp [sliceBounds, HT.sIx]
    | some i =>
      simp only [sliceBounds, HT.sIx, Option.getD_none, show (1 : Int) > 0 by decide, if_true]
      by_cases h : i < 0
      · simp only [h, if_true] <;> omega
      · simp only [h, if_false] <;> omega
  · cases hi with
    | none => simp [sliceBounds, HT.sIx]
    | some i =>
      simp only [sliceBounds, HT.sIx, Option.getD_none, show (1 : Int) > 0 by decide, if_true]
      by_cases h : i < 0
      · simp only [h, if_true] <;> omega
      · simp only [h, if_false] <;> omega
theorem slicePick_cut (its : List Value) (lo hi : Option Int) : slicePick its.toArray lo hi none = ((its.drop (HT.sIx its.length 0 lo)).take (HT.sIx its.length its.length hi - HT.sIx its.length 0 lo)).toArray := by
  obtain ⟨h1, h2, h3⟩ := slice_bounds lo hi its.toArray.size
  unfold slicePick
  rw [h1, h2, h3]
  simp only [sliceRange_one, pick_run, List.size_toArray] <;> rfl
/-- xs[lo:hi] of a list: a new list -/
noncomputable def rSlL (K : PySem.W.Frag) : V → Option Int → Option Int → Hp → VK → Prop := fun x lo hi H Q => ∃ a xs, x = .ref a ∧ SqL K H a xs ∧ ∀ p, H p = none → Q (.ref p) (upd H p (.lst (cutV xs lo hi)))
theorem sl_list : SlR X (rSlL X.K) := by
  intro pins s σ H x v vl vu lo hi sl Q I rx hs pl pu h
  obtain ⟨a, xs, rfl, hx, q⟩ := h
  cases rx
  obtain ⟨its, r, ht, hz⟩ := I.list hx
  have hlen := r.length
  refine ⟨"list", _, slot_list_getitem.lookup, ht.isList.typeIs, ?_⟩
  refine wpAny_getItem_list_slice ht.isList hs pl pu .none (by simp) ?_ (by rw [List.size_toArray] <;> omega)
  rw [slicePick_cut, ← hlen]
  refine ⟨.ref s.heap.objs.size, _, I.laid (t' := s.toks) (o := .lst (cutV xs lo hi)) (fun b ob q => Heap.get?_push_of_some _ q) (Nat.le_refl _) ?_, rfl, q _ (I.hok.fresh (Nat.le_refl _))⟩
  exact ⟨Nat.le_trans (cutV_length xs lo hi) hz, _, 0, (r.drop (HT.sIx xs.length 0 lo)).take (HT.sIx xs.length xs.length hi - HT.sIx xs.length 0 lo), Heap.get?_push_size _ rfl⟩

/-! ### in, not in: flat items -/
noncomputable def flatV : V → Bool
  | .non => true
  | .bl _ => true
  | .int _ => true
  | .str _ => true
  | _ => false
/-- == of flat values -/
noncomputable def eqV : V → V → Bool
  | .non, .non => true
  | .bl a, .bl b => a == b
  | .bl a, .int b => (if a then 1 else 0) == b
  | .int a, .bl b => a == (if b then 1 else 0)
  | .int a, .int b => a == b
  | .str a, .str b => a == b
  | _, _ => false
theorem eqAt_V {A : Around} {s : Shared} {y x : V} {u v : Value} (ry : RelV y u) (rx : RelV x v) (fy : flatV y = true) (fx : flatV x = true) : SeqAt.EqAt A s u v (eqV y x) := by
  cases y with
  | non =>
    cases ry
    cases x with
    | non => cases rx; exact SeqAt.EqAt.same _
    | bl b => cases rx; exact SeqAt.EqAt.none_bool b
    | int b => obtain ⟨t, rfl⟩ := rx; exact SeqAt.EqAt.none_int b t
    | str b => obtain ⟨t, rfl⟩ := rx; exact SeqAt.EqAt.none_str b t
    | _ => exact absurd (show false = true from fx) Bool.false_ne_true
  | bl a =>
    cases ry
    cases x with
    | non => cases rx; exact SeqAt.EqAt.bool_none a
    | bl b => cases rx; exact SeqAt.EqAt.bool_bool a b
    | int b => obtain ⟨t, rfl⟩ := rx; exact SeqAt.EqAt.bool_int a b t
    | str b => obtain ⟨t, rfl⟩ := rx; exact SeqAt.EqAt.bool_str a b t
    | _ => exact absurd (show false = true from fx) Bool.false_ne_true
  | int a =>
    obtain ⟨t', rfl⟩ := ry
    cases x with
    | non => cases rx; exact SeqAt.EqAt.int_none a t'
    | bl b => cases rx; exact SeqAt.EqAt.int_bool a t' b
    | int b => obtain ⟨t, rfl⟩ := rx; exact SeqAt.EqAt.int_int a t' b t
    | str b => obtain ⟨t, rfl⟩ := rx; exact SeqAt.EqAt.int_str a t' b t
    | _ => exact absurd (show false = true from fx) Bool.false_ne_true
  | str a =>
    obtain ⟨t', rfl⟩ := ry
    cases x with
    | non => cases rx; exact SeqAt.EqAt.str_none a t'
    | bl b => cases rx; exact SeqAt.EqAt.str_bool a t' b
    | int b => obtain ⟨t, rfl⟩ := rx; exact SeqAt.EqAt.str_int a t' b t
    | str b => obtain ⟨t, rfl⟩ := rx; exact SeqAt.EqAt.str_str a t' b t
    | _ => exact absurd (show false = true from fx) Bool.false_ne_true
  | _ => exact absurd (show false = true from fy) Bool.false_ne_true
/-- the items' answers, read off the values (a value's own answer does not lean on its token) -/
noncomputable def eqU (x : V) (u : Value) : Bool := match u with
  | .none => eqV .non x
  | .bool b => eqV (.bl b) x
  | .int i _ => eqV (.int i) x
  | .str z _ => eqV (.str z) x
  | _ => false
theorem eqU_of {x y : V} {u : Value} (r : RelV y u) (f : flatV y = true) : eqU x u = eqV y x := by
  cases y with
  | non => cases r; rfl
  | bl b => cases r; rfl
  | int i => obtain ⟨t, rfl⟩ := r; rfl
  | str z => obtain ⟨t, rfl⟩ := r; rfl
  | _ => exact absurd (show false = true from f) Bool.false_ne_true
/-! ### len, list(x), tuple(x) of any list or tuple that is read -/
theorem call_len_seq : CallR X (.builtin "len") (fun xs H Q => ∃ p ys, xs = [.ref p] ∧ (SqL X.K H p ys ∨ SqT X.K H p ys) ∧ Q (.int ys.length) H) := by
  intro pins s σ H xs us Q I r h
  obtain ⟨p, ys, rfl, hq, q⟩ := h
  obtain ⟨u, rfl, rx⟩ := vals1 r
  cases rx
  have hn := line63
  rcases hq with hq | hq
  · obtain ⟨its, r', pl, hz⟩ := I.list hq
    have hlen := r'.length
    exact Calls.call_len_list pl.isList (by simp only [List.size_toArray] <;> omega) ⟨.int ys.length, H, I.tok _, ⟨s.toks + 1, by rw [List.size_toArray, hlen]⟩, q⟩
  · obtain ⟨its, r', pl, hz⟩ := I.tuple hq
    have hlen := r'.length
    exact len_tuple pl (by simp only [List.size_toArray] <;> omega) ⟨.int ys.length, H, I.tok _, ⟨s.toks + 1, by rw [List.size_toArray, hlen]⟩, q⟩
theorem call_tuple_of : CallR X (.type "tuple") (fun xs H Q => ∃ p ys, xs = [.ref p] ∧ ((SqL X.K H p ys ∧ ∀ l, H l = none → Q (.ref l) (upd H l (.tup ys))) ∨ (SqT X.K H p ys ∧ Q (.ref p) H))) := by
  intro pins s σ H xs us Q I r h
  obtain ⟨p, ys, rfl, h⟩ := h
  obtain ⟨u, rfl, rx⟩ := vals1 r
  cases rx
  rcases h with ⟨hq, q⟩ | ⟨hq, q⟩
  · obtain ⟨its, r', pl, hz⟩ := I.list hq
    have hlen := r'.length
    refine call_tuple_list pl.isList (fun h' kp => ?_) (by simp only [List.size_toArray] <;> omega)
    have I1 : Inv X pins σ H { s with heap := h' } := I.kept (t' := s.toks) kp
    have I2 : Inv X pins σ (upd H h'.objs.size (.tup ys)) { s with heap := h'.push { cls := .type "tuple", data := .seq its.toArray } } :=
      I1.laid (t' := s.toks) (fun b o e => Heap.get?_push_of_some _ e) (Nat.le_refl _) (show ObjOk X.prog X.w _ _ _ (.tup ys) from ⟨hz, its, r', IsTupN.new _ _⟩)
    exact ⟨.ref h'.objs.size, _, I2, rfl, q _ (I1.hok.fresh (Nat.le_refl _))⟩
  · obtain ⟨its, r', pl, hz⟩ := I.tuple hq
    exact call_tuple_same pl ⟨.ref p, H, I, rfl, q⟩

/-! ### the call of a builtin's method: o.m(..) -/
/-- the value is of that builtin type -/
noncomputable def tyV (K : PySem.W.Frag) (T : String) (x : V) (H : Hp) : Prop := match x with
  | .str _ => T = "str"
  | .int _ => T = "int"
  | .ref p => (T = "list" ∧ ∃ xs, SqL K H p xs) ∨ (T = "tuple" ∧ ∃ o, K.lookup p = some o ∧ o.cls = .type "tuple" ∧ o.dict = none) ∨
      (T = "dict" ∧ ((∃ kvs, H p = some (.dK kvs)) ∨ ∃ kvs, H p = some (.dT kvs))) ∨ (T = "set" ∧ ∃ S n, H p = some (.set S n))
  | _ => False
theorem tyV_is {pins : List (Addr × Obj)} {σ : St} {H : Hp} {s : Shared} {T : String} {x : V} {v : Value} (I : Inv X pins σ H s) (r : RelV x v) (ty : tyV X.K T x H) :
    s.TypeIs v T ∧ ∀ a, v = .ref a → ∃ ob, s.heap.get? a = some ob ∧ ob.dict = none := by
  cases x with
  | str z =>
    obtain ⟨t, rfl⟩ := r
    cases (show T = "str" from ty)
    exact ⟨typeIs_str s z t, fun _ e => nomatch e⟩
  | int i =>
    obtain ⟨t, rfl⟩ := r
    cases (show T = "int" from ty)
    exact ⟨typeIs_int s i t, fun _ e => nomatch e⟩
  | ref p =>
    cases r
    rcases ty with ⟨rfl, xs, hq⟩ | ⟨rfl, o, hk, hc, hd⟩ | ⟨rfl, hk⟩ | ⟨rfl, S, n, hk⟩
    · obtain ⟨its, _, pl, _⟩ := I.list hq
      refine ⟨pl.isList.typeIs, fun a e => ?_⟩
      cases e
      obtain ⟨o, n, e, c, hd, _⟩ := pl
      exact ⟨o, e, hd⟩
    · refine ⟨⟨o, I.kIn p o hk, hc⟩, fun a e => ?_⟩
      cases e
      exact ⟨o, I.kIn _ o hk, hd⟩
    · have z : ∃ o, s.heap.get? p = some o ∧ o.ExactDict := by
        rcases hk with ⟨kvs, hk⟩ | ⟨kvs, hk⟩
        · obtain ⟨_, _, _, _, o, _, _, e, ex, _⟩ := I.hok p _ hk
          exact ⟨o, e, ex⟩
        · obtain ⟨_, _, _, _, o, _, _, e, ex, _⟩ := I.hok p _ hk
          exact ⟨o, e, ex⟩
      obtain ⟨o, e, ex⟩ := z
      refine ⟨⟨o, e, ex.1⟩, fun a e2 => ?_⟩
      cases e2
      exact ⟨o, e, ex.2.1⟩
    · obtain ⟨o, _, _, _, e, ex, _⟩ := I.hok p _ hk
      refine ⟨⟨o, e, ex.1⟩, fun a e2 => ?_⟩
      cases e2
      exact ⟨o, e, ex.2.1⟩
  | _ => exact False.elim ty
noncomputable def tBM0 (K : PySem.W.Frag) (T : String) (r : V → List V → Hp → VK → Prop) (to : TE) : TE := fun σ H Q => to σ H fun x H1 => tyV K T x H1 ∧ r x [] H1 Q
noncomputable def tBM (K : PySem.W.Frag) (T : String) (r : V → List V → Hp → VK → Prop) (to : TE) (t : TA) : TE := fun σ H Q => to σ H fun x H1 => tyV K T x H1 ∧ t σ H1 fun xs H2 => r x xs H2 Q
variable {o e : Expr} {es : List Expr} {to : TE} {t : TA} {name : Str} {apos cpos : Pos} {T id : String} {r : V → List V → Hp → VK → Prop}
theorem pe_bm0 (pa : PlainAttrs T) (slot : Slot T name id) (hty : typeOf (.builtin id) = pure (.type "method_descriptor")) (hm : MtR X id r) (ho : PE X o to)
    (hbase : attributeBase o name X.env (eval o X.env) = eval o X.env := by rfl) (hline : (apos.endLine == cpos.line) = true := by rfl) : PE X (.Call (.Attribute o name apos) [] [] cpos) (tBM0 X.K T r to) := by
  intro pins s σ H Q I h
  refine wpAny_Call_method0_late hbase hline (thn (ho pins s σ H _ I h) fun v s1 ⟨x, H1, I1, r1, ty, q1⟩ => ?_)
  obtain ⟨h1, h2⟩ := tyV_is I1 r1 ty
  exact ⟨T, id, pa, slot, hty, h1, h2, Calls.callWith_builtin rfl (PySem.evalArgs_none (hm pins s1 σ H1 x [] v [] Q I1 r1 .nil q1))⟩
theorem pe_bm (pa : PlainAttrs T) (slot : Slot T name id) (hty : typeOf (.builtin id) = pure (.type "method_descriptor")) (hm : MtR X id r) (ho : PE X o to) (ha : PA X (e :: es) t)
    (hbase : attributeBase o name X.env (eval o X.env) = eval o X.env := by rfl)
    (hfew : ((backTo cpos (starEach (e :: es) X.env)).all (fun x => !x.1) && (backToKw cpos (keywordEach [] X.env)).all (fun x => x.1.isSome)
      && decide ((e :: es).length + ([] : List Keyword).length + (if ([] : List Keyword).isEmpty then 0 else 1) < 30)) = true := by rfl)
    (hline : (apos.endLine == cpos.line) = true := by rfl) (hs : starEach (e :: es) X.env = (false, eval e X.env) :: starEach es X.env := by rfl) (hplain : (backTo cpos (starEach es X.env)).any (·.1) = false := by rfl) :
    PE X (.Call (.Attribute o name apos) (e :: es) [] cpos) (tBM X.K T r to t) := by
  intro pins s σ H Q I h
  refine wpAny_Call_method_late hbase hfew hline rfl (thn (ho pins s σ H _ I h) fun v s1 ⟨x, H1, I1, r1, ty, q1⟩ => ?_)
  obtain ⟨h1, h2⟩ := tyV_is I1 r1 ty
  refine ⟨T, id, pa, slot, hty, h1, h2, ?_⟩
  have hA := ha cpos pins s1 σ H1 _ I1 q1
  rw [hs] at hA ⊢
  refine Calls.callWith_builtin (by show (false || (backTo cpos (starEach es X.env)).any (·.1)) = false; rw [hplain] <;> rfl) (Calls.evalArgs_plain ?_)
  exact thn hA fun us s2 ⟨vs, H2, I2, r2, q2⟩ => hm pins s2 σ H2 x vs v us Q I2 r1 r2 q2
/- xs.append(e), list.index on a module's tuple .. are MtR facts of 06m -/
end
end L2

namespace L2
open PySem PySem.Spec PyProof.Rows

noncomputable def MtM (X : Cx) (id : String) (r : V → List V → Hp → VK → Prop) : Prop :=
  ∀ (pins : List (Addr × Obj)) (s : Shared) (σ : St) (H : Hp) (x : V) (xs : List V) (v : Value) (us : List Value) (Q : VK), Inv X pins σ H s → RelV x v → Vals xs us → r x xs H Q →
    wpAny (model X.prog X.w) X.A (call (.builtin id) (v :: us)) (EP X pins σ Q) X.xe s

/-! ### lists of values -/
theorem Vals.one : ∀ {x : V} {us : List Value}, Vals [x] us → ∃ u, us = [u] ∧ RelV x u
  | _, _, .cons r .nil => ⟨_, rfl, r⟩
theorem Vals.zero : ∀ {us : List Value}, Vals [] us → us = []
  | _, .nil => rfl
theorem Vals.dropLast {xs : List V} {us : List Value} (h : Vals xs us) : Vals xs.dropLast us.dropLast := by
  induction h with
  | nil => exact .nil
  | cons r t ih =>
    cases t with
    | nil => exact .nil
    | cons q t' => exact .cons r ih
theorem Vals.rep {xs : List V} {us : List Value} (h : Vals xs us) : ∀ k : Nat, Vals (List.replicate k xs).flatten (List.replicate k us).flatten
  | 0 => .nil
  | k + 1 => by
    rw [List.replicate_succ, List.replicate_succ, List.flatten_cons, List.flatten_cons]
    exact Vals.append h (Vals.rep h k)
theorem erase_last {α : Type} (l : List α) : l.eraseIdx (l.length - 1) = l.dropLast := by
  induction l with
  | nil => rfl
  | cons a r ih =>
    cases r with
    | nil => rfl
    | cons b r =>
      have e : (a :: b :: r).length - 1 = ((b :: r).length - 1) + 1 := by
        have h1 : (a :: b :: r).length = r.length + 2 := rfl
        have h2 : (b :: r).length = r.length + 1 := rfl
        omega
      rw [e, List.eraseIdx_cons_succ, ih]
      all_goals rfl
theorem foldl_rep (its : List Value) : ∀ (k : Nat) (acc : List Value),
    List.foldl (fun x1 x2 => x1 ++ x2) acc.toArray (List.replicate k its.toArray) = (acc ++ (List.replicate k its).flatten).toArray
  | 0, acc => by simp
  | k + 1, acc => by
    have e : acc.toArray ++ its.toArray = (acc ++ its).toArray := by simp
    have e2 : (acc ++ its) ++ (List.replicate k its).flatten = acc ++ (List.replicate (k + 1) its).flatten := by
      rw [List.replicate_succ, List.flatten_cons, List.append_assoc]
    rw [← e2, ← foldl_rep its k (acc ++ its), ← e, List.replicate_succ, List.foldl_cons]

section
variable {X : Cx} {pins : List (Addr × Obj)} {σ : St} {H : Hp} {s : Shared} {l b : Addr} {xs ys zs : List V}

/-! ### the two steps: a tracked list is rewritten, a new list is laid -/
theorem Inv.lset {its its' : List Value} {n : Nat} {f : Array Value → Array Value} {t' : Nat} (I : Inv X pins σ H s) (hH : H l = some (.lst xs))
    (e : s.heap.get? l = some { cls := .type "list", data := .seq its.toArray n }) (hf : f its.toArray = its'.toArray) (hv : Vals ys its') (hz : ys.length ≤ sizeLine) :
    Inv X pins σ (upd H l (.lst ys)) { s with heap := s.heap.update l (Obj.mapSeq f), toks := t' } := by
  have q := PySem.IsL.update e f
  rw [hf] at q
  refine I.write (x := l) (e := l) (by rw [hH]; exact trivial) (.inl rfl) (fun b' u hb hu => (Heap.get?_update_other s.heap (Obj.mapSeq f) (Ne.symm hb)).trans hu) ⟨_, q⟩ ?_
  exact ⟨hz, its', _, hv, q⟩
theorem Inv.lnew {its : List Value} {t' : Nat} (I : Inv X pins σ H s) (hv : Vals ys its) (hz : ys.length ≤ sizeLine) :
    Inv X pins σ (upd H s.heap.objs.size (.lst ys)) { s with heap := s.heap.push { cls := .type "list", data := .seq its.toArray }, toks := t' } :=
  I.laid (fun _ _ q => Heap.get?_push_of_some _ q) (Nat.le_refl _) ⟨hz, its, 0, hv, Heap.get?_push_size _ rfl⟩
theorem Inv.fresh (I : Inv X pins σ H s) : H s.heap.objs.size = none := I.hok.fresh (Nat.le_refl _)
theorem Inv.lstM (I : Inv X pins σ H s) (hH : H l = some (.lst xs)) : xs.length ≤ sizeLine ∧ ∃ (its : List Value) (n : Nat), Vals xs its ∧ xs.length = its.length ∧ s.heap.get? l = some { cls := .type "list", data := .seq its.toArray n } := by
  obtain ⟨z, its, n, r, e⟩ := I.hok l _ hH
  exact ⟨z, its, n, r, r.length, e⟩

theorem notLongL {n : Nat} (h : n ≤ sizeLine) : Builtin.List.listTooLong n = false := by
  unfold Builtin.List.listTooLong
  exact decide_eq_false (by omega)
end

section
variable {X : Cx}

/-! ### methods -/
noncomputable def rAppend : V → List V → Hp → VK → Prop := fun x vs H Q => ∃ l xs y, x = .ref l ∧ vs = [y] ∧ H l = some (.lst xs) ∧ xs.length < sizeLine ∧ Q .non (upd H l (.lst (xs ++ [y])))
theorem mt_append : MtM X "list.append" rAppend := by
  intro pins s σ H x vs v us Q I rx rv h
  obtain ⟨l, xs, y, rfl, rfl, hH, hz, q⟩ := h
  cases rx
  obtain ⟨u, rfl, ru⟩ := rv.one
  obtain ⟨z, its, n, r, hl, e⟩ := I.lstM hH
  refine call_meets F.slot_list_append ⟨_, e, rfl⟩ F.entry_list_append (F.args_list_append_2 _ _) (PySem.list_append l its.toArray n u (by rw [List.size_toArray]; omega)) ⟨e, ?_⟩
  refine ⟨.non, _, I.lset (its' := its ++ [u]) hH e (by simp) (r.append (.cons ru .nil)) ?_, rfl, q⟩
  rw [List.length_append, List.length_singleton]
  omega

noncomputable def rPop : V → List V → Hp → VK → Prop := fun x vs H Q => ∃ l xs y, x = .ref l ∧ vs = [] ∧ H l = some (.lst xs) ∧ xs[xs.length - 1]? = some y ∧ Q y (upd H l (.lst xs.dropLast))
theorem mt_pop : MtM X "list.pop" rPop := by
  intro pins s σ H x vs v us Q I rx rv h
  obtain ⟨l, xs, y, rfl, rfl, hH, hy, q⟩ := h
  cases rx
  have hus := rv.zero
  subst hus
  obtain ⟨z, its, n, r, hl, e⟩ := I.lstM hH
  obtain ⟨u, hu, ru⟩ := r.get hy
  have hy' : its.toArray[its.toArray.size - 1]? = some u := by
    show its.toArray[its.length - 1]? = some u
    rw [← Array.getElem?_toList, ← hl]
    exact hu
  refine call_meets F.slot_list_pop ⟨_, e, rfl⟩ F.entry_list_pop (F.args_list_pop_1 _) (MeetsSeq.list_pop_last l its.toArray n u hy' (by rw [List.size_toArray]; omega)) ⟨e, ?_⟩
  refine ⟨y, _, I.lset (its' := its.dropLast) hH e ?_ r.dropLast ?_, ru, q⟩
  · show its.toArray.eraseIdxIfInBounds (its.toArray.size - 1) = its.dropLast.toArray
    rw [List.size_toArray, List.eraseIdxIfInBounds_toArray, erase_last]
  · rw [List.length_dropLast]
    omega

/-! ### list + list, list += list, list * int -/
noncomputable def rCat : R2 := fun x y H Q => ∃ l b xs zs, x = .ref l ∧ y = .ref b ∧ H l = some (.lst xs) ∧ H b = some (.lst zs) ∧ xs.length + zs.length ≤ sizeLine ∧ ∀ p, H p = none → Q (.ref p) (upd H p (.lst (xs ++ zs)))
theorem op_cat : OpR X (binaryOp .Add) rCat := by
  intro pins s σ H x y v u Q I rx ry h
  obtain ⟨l, b, xs, zs, rfl, rfl, hH, hB, hz, q⟩ := h
  cases rx
  cases ry
  obtain ⟨z, its, n, r, hl, e⟩ := I.lstM hH
  obtain ⟨z2, its2, n2, r2, hl2, e2⟩ := I.lstM hB
  refine PySem.P.add_list e e2 ?_ (by rw [List.size_toArray, List.size_toArray]; omega)
  have ea : its.toArray ++ its2.toArray = (its ++ its2).toArray := by simp
  rw [ea]
  exact ⟨.ref _, _, I.lnew (t' := s.toks) (r.append r2) (by rw [List.length_append]; omega), rfl, q _ I.fresh⟩
/-- a list times an int (a negative one is nothing) -/
noncomputable def rRep : R2 := fun x y H Q => ∃ l k xs, x = .ref l ∧ y = .int k ∧ H l = some (.lst xs) ∧ -(2 ^ 63) ≤ k ∧ k < 2 ^ 63 ∧ xs.length * k.toNat ≤ sizeLine ∧
  ∀ p, H p = none → Q (.ref p) (upd H p (.lst (List.replicate k.toNat xs).flatten))
theorem len_rep {α : Type} (xs : List α) (k : Nat) : (List.replicate k xs).flatten.length = k * xs.length := by
  induction k with
  | zero => simp
  | succ k ih => rw [List.replicate_succ, List.flatten_cons, List.length_append, ih, Nat.succ_mul, Nat.add_comm]
theorem op_rep : OpR X (binaryOp .Mult) rRep := by
  intro pins s σ H x y v u Q I rx ry h
  obtain ⟨l, k, xs, rfl, rfl, hH, h1, h2, hz, q⟩ := h
  cases rx
  obtain ⟨t, rfl⟩ := ry
  obtain ⟨z, its, n, r, hl, e⟩ := I.lstM hH
  have hlen : its.toArray.size * k.toNat ≤ sizeLine := by rw [List.size_toArray, ← hl]; exact hz
  have hcap : ¬ its.toArray.size * k.toNat > (2 ^ 63 - 1) / 8 := by
    have : (sizeLine : Nat) ≤ (2 ^ 63 - 1) / 8 := by decide
    omega
  have hfit : ¬ (!Builtin.List.listFitsIndex k) = true := by
    rw [fitsIndex_both h1 h2]
    exact Bool.false_ne_true
  have hlong : ¬ Builtin.List.listTooLong (its.toArray.size * k.toNat) = true := by
    rw [notLongL hlen]
    exact Bool.false_ne_true
  have hnew : List.foldl (fun x1 x2 => x1 ++ x2) #[] (List.replicate (if its.toArray.isEmpty = true then 0 else k.toNat) its.toArray) = (List.replicate k.toNat its).flatten.toArray := by
    have f0 : ∀ m : Nat, List.foldl (fun x1 x2 => x1 ++ x2) #[] (List.replicate m its.toArray) = (List.replicate m its).flatten.toArray := fun m => by
      have := foldl_rep its m []
      rw [List.nil_append] at this
      exact this
    rw [f0]
    cases its with
    | nil => simp
    | cons a r' => rw [if_neg (by simp)]
  refine wpAny_binaryOp_repeat_ref (T := "list") (U := "int") (by decide) ⟨_, e, rfl⟩ (fun s' => typeIs_int s' k t) noFill_list_mul F.fills_int_mul F.slot_int_rmul repeat_list F.slot_int_index.lookup
    (call_meets F.slot_int_rmul (typeIs_int s k t) F.entry_int_rmul (F.args_int_rmul_2 _ _) (int___rmul___int_list k t l its.toArray n)
      ⟨e, rfl, ⟨_, e, rfl⟩, call_meets F.slot_list_mul ⟨_, e, rfl⟩ F.entry_list_mul (F.args_list_mul_2 _ _) (AutoListH.list___mul___list_int_3 l its.toArray n k t hfit hcap hlong) ⟨e, ?_⟩⟩)
  rw [hnew]
  exact ⟨.ref _, _, I.lnew (t' := s.toks) (r.rep k.toNat) (by rw [len_rep, Nat.mul_comm]; exact hz), rfl, q _ I.fresh⟩

/-! ### del xs[i] -/
end

/-! ### xs[a:b] = ys -/

end L2
namespace L2
open PySem PySem.Spec PyProof.Rows

/-! ### lists of pairs as tables -/
section
variable {κ : Type} [DecidableEq κ]
noncomputable def valV (kvs : List (κ × V)) (k : κ) : Option V := (kvs.find? fun kv => decide (kv.1 = k)).map (·.2)
/-- in its place, or at the end -/
noncomputable def putK (kvs : List (κ × V)) (k : κ) (v : V) : List (κ × V) :=
  if (kvs.any fun kv => decide (kv.1 = k)) = true then kvs.map (fun kv => if kv.1 = k then (kv.1, v) else kv) else kvs ++ [(k, v)]
noncomputable def dropK (kvs : List (κ × V)) (k : κ) : List (κ × V) := kvs.filter fun kv => decide (kv.1 ≠ k)

theorem valV_nil {k : κ} : valV ([] : List (κ × V)) k = none := rfl
theorem valV_pos {p : κ × V} {r : List (κ × V)} {k : κ} (e : p.1 = k) : valV (p :: r) k = some p.2 := by simp [valV, List.find?_cons, e]
theorem valV_neg {p : κ × V} {r : List (κ × V)} {k : κ} (e : ¬ p.1 = k) : valV (p :: r) k = valV r k := by simp [valV, List.find?_cons, e]
theorem valV_any (k : κ) : ∀ kvs : List (κ × V), (kvs.any fun kv => decide (kv.1 = k)) = (valV kvs k).isSome
  | [] => rfl
  | p :: r => by
    rw [List.any_cons]
    by_cases e : p.1 = k
    · simp only [valV_pos e, decide_eq_true e, Bool.true_or, Option.isSome_some]
    · rw [valV_neg e, decide_eq_false e, Bool.false_or]; exact valV_any k r
theorem valV_map (k j : κ) (y : V) : ∀ kvs : List (κ × V), valV (kvs.map fun kv => if kv.1 = k then (kv.1, y) else kv) j = (valV kvs j).map fun x => if j = k then y else x
  | [] => rfl
  | p :: r => by
    have ih := valV_map k j y r
    rw [List.map_cons]
    by_cases h : p.1 = k
    · rw [if_pos h]
      by_cases e : p.1 = j
      · rw [valV_pos (p := (p.1, y)) e, valV_pos e, Option.map_some, if_pos (e.symm.trans h)]
      · rw [valV_neg (p := (p.1, y)) e, valV_neg e, ih]
    · rw [if_neg h]
      by_cases e : p.1 = j
      · rw [valV_pos (p := p) e, valV_pos e, Option.map_some, if_neg (fun z => h (e.trans z))]
      · rw [valV_neg (p := p) e, valV_neg e, ih]
theorem valV_snoc (k j : κ) (y : V) : ∀ kvs : List (κ × V), valV kvs k = none → valV (kvs ++ [(k, y)]) j = if j = k then some y else valV kvs j
  | [], _ => by
    by_cases e : k = j
    · rw [if_pos e.symm]; exact valV_pos (p := (k, y)) e
    · rw [if_neg (fun z => e z.symm)]; exact valV_neg (p := (k, y)) e
  | p :: r, hn => by
    rw [List.cons_append]
    have hk : ¬ p.1 = k := fun z => by rw [valV_pos z] at hn; cases hn
    rw [valV_neg hk] at hn
    have ih := valV_snoc k j y r hn
    by_cases e : p.1 = j
    · rw [valV_pos e, valV_pos e, if_neg (fun z => hk (e.trans z))]
    · rw [valV_neg e, valV_neg e, ih]
theorem valV_put (kvs : List (κ × V)) (k j : κ) (y : V) : valV (putK kvs k y) j = if j = k then some y else valV kvs j := by
  unfold putK
  by_cases a : (kvs.any fun kv => decide (kv.1 = k)) = true
  · rw [if_pos a, valV_map]
    rw [valV_any] at a
    by_cases e : j = k
    · obtain ⟨x, hx⟩ := Option.isSome_iff_exists.mp a
      rw [if_pos e, e, hx, Option.map_some, if_pos rfl]
    · rw [if_neg e]
      cases valV kvs j with
      | none => rfl
      | some x => rw [Option.map_some, if_neg e]
  · rw [if_neg a]
    refine valV_snoc k j y kvs ?_
    rw [valV_any] at a
    cases q : valV kvs k with
    | none => rfl
    | some x => rw [q] at a; exact (a rfl).elim
theorem length_putK (kvs : List (κ × V)) (k : κ) (v : V) : (putK kvs k v).length ≤ kvs.length + 1 := by
  unfold putK
  split
  · rw [List.length_map]; omega
  · rw [List.length_append, List.length_cons, List.length_nil]; omega
theorem putK_new {kvs : List (κ × V)} {k : κ} (v : V) (h : valV kvs k = none) : putK kvs k v = kvs ++ [(k, v)] := by
  unfold putK
  rw [valV_any, h]
  exact if_neg (by decide)

theorem RelO.isSome_eq {o : Option V} {u : Option Value} (r : RelO o u) : o.isSome = u.isSome := by
  cases o with
  | none => cases u with
    | none => rfl
    | some _ => exact (show False from r).elim
  | some _ => cases u with
    | none => exact (show False from r).elim
    | some _ => rfl
/-- raw tables of the same keys -/
theorem KV.val {kvs : List (κ × V)} {vs : List (κ × Value)} (r : KV kvs vs) (k : κ) : RelO (valV kvs k) (valueAt vs k) := by
  unfold KV at r
  induction r with
  | nil => exact True.intro
  | @cons p q ps qs h t ih =>
    obtain ⟨h1, h2⟩ := h
    by_cases e : p.1 = k
    · have e' : q.1 = k := h1.symm.trans e
      have b : valueAt (q :: qs) k = some q.2 := by simp [valueAt, List.find?_cons, e']
      rw [valV_pos e, b]; exact h2
    · have e' : ¬ q.1 = k := fun z => e (h1.trans z)
      have b : valueAt (q :: qs) k = valueAt qs k := by simp [valueAt, List.find?_cons, e']
      rw [valV_neg e, b]; exact ih
theorem KV.any {kvs : List (κ × V)} {vs : List (κ × Value)} (r : KV kvs vs) (k : κ) : (kvs.any fun kv => decide (kv.1 = k)) = vs.any fun kv => decide (kv.1 = k) := by
  unfold KV at r
  induction r with
  | nil => rfl
  | cons h t ih => rw [List.any_cons, List.any_cons, ih, h.1]
theorem KV.repl {kvs : List (κ × V)} {vs : List (κ × Value)} (r : KV kvs vs) (k : κ) {y : V} {u : Value} (ry : RelV y u) :
    KV (kvs.map fun kv => if kv.1 = k then (kv.1, y) else kv) (vs.map fun kv => if kv.1 = k then (kv.1, u) else kv) := by
  unfold KV at r ⊢
  induction r with
  | nil => exact .nil
  | @cons p q ps qs h t ih =>
    rw [List.map_cons, List.map_cons]
    refine .cons ?_ ih
    obtain ⟨h1, h2⟩ := h
    by_cases e : p.1 = k
    · rw [if_pos e, if_pos (h1.symm.trans e)]; exact ⟨h1, ry⟩
    · rw [if_neg e, if_neg (fun z => e (h1.trans z))]; exact ⟨h1, h2⟩
theorem KV.put {kvs : List (κ × V)} {vs : List (κ × Value)} (r : KV kvs vs) (k : κ) {y : V} {u : Value} (ry : RelV y u) : KV (putK kvs k y) (stored vs k u) := by
  unfold putK stored
  rw [r.any k]
  by_cases e : (vs.any fun kv => decide (kv.1 = k)) = true
  · rw [if_pos e, if_pos e]; exact r.repl k ry
  · rw [if_neg e, if_neg e]; exact Paired.snoc r ⟨rfl, ry⟩
theorem KV.drop {kvs : List (κ × V)} {vs : List (κ × Value)} (r : KV kvs vs) (k : κ) : KV (dropK kvs k) (without vs k) := by
  unfold KV at r ⊢
  unfold dropK without
  induction r with
  | nil => exact .nil
  | @cons p q ps qs h t ih =>
    obtain ⟨h1, h2⟩ := h
    rw [List.filter_cons, List.filter_cons]
    by_cases e : p.1 = k
    · have a : ¬ decide (p.1 ≠ k) = true := by simp [e]
      have b : ¬ decide (q.1 ≠ k) = true := by simp [h1.symm.trans e]
      rw [if_neg a, if_neg b]; exact ih
    · have e' : ¬ q.1 = k := fun z => e (h1.trans z)
      have a : decide (p.1 ≠ k) = true := by simp [e]
      have b : decide (q.1 ≠ k) = true := by simp [e']
      rw [if_pos a, if_pos b]; exact .cons ⟨h1, h2⟩ ih
theorem KV.length {kvs : List (κ × V)} {vs : List (κ × Value)} (r : KV kvs vs) : kvs.length = vs.length := Paired.length r
theorem dropK_le (kvs : List (κ × V)) (k : κ) : (dropK kvs k).length ≤ kvs.length := List.length_filter_le _ _
end


/-! ### a tracked dict, its keys ints and texts or tuples of these -/
theorem kV_is {P : Program} {w : World} {k : Key} {u : Value} (r : RelV (kV k) u) : (mixKind P w).is k u = true := by
  cases k with
  | inl i => obtain ⟨t, e⟩ := (show ∃ t, u = Value.int i t from r); subst e; exact mixKind_int P w i t
  | inr x => obtain ⟨t, e⟩ := (show ∃ t, u = Value.str x t from r); subst e; exact mixKind_str P w x t
theorem items_are {P : Program} {w : World} : ∀ {ks : List Key} {us : List Value}, Vals (ks.map kV) us → ItemsAre (mixKind P w) ks us
  | [], _, r => by rw [List.map_nil] at r; cases r; exact .nil
  | k :: ks, _, r => by
    rw [List.map_cons] at r
    cases r with
    | cons h t => exact .cons (kV_is h) (items_are t)

/-- raw entries of a dict with tuple keys -/
noncomputable abbrev KT (H : Hp) : List (List Key × V) → List (List Key × Addr × Value) → Prop := Paired fun p q => p.1 = q.1 ∧ H q.2.1 = some (.tup (p.1.map kV)) ∧ RelV p.2 q.2.2
theorem KT.val {H : Hp} {kvs : List (List Key × V)} {xs : List (List Key × Addr × Value)} (r : KT H kvs xs) (k : List Key) : RelO (valV kvs k) ((atKey xs k).map (·.2)) := by
  induction r with
  | nil => exact True.intro
  | @cons p q ps qs h t ih =>
    obtain ⟨h1, _, h2⟩ := h
    by_cases e : p.1 = k
    · have e' : q.1 = k := h1.symm.trans e
      have b : atKey (q :: qs) k = some q.2 := by simp [atKey, List.find?_cons, e']
      rw [valV_pos e, b]; exact h2
    · have e' : ¬ q.1 = k := fun z => e (h1.trans z)
      have b : atKey (q :: qs) k = atKey qs k := by simp [atKey, List.find?_cons, e']
      rw [valV_neg e, b]; exact ih
theorem KT.repl {H : Hp} {kvs : List (List Key × V)} {xs : List (List Key × Addr × Value)} (r : KT H kvs xs) (k : List Key) {y : V} {u : Value} (ry : RelV y u) :
    KT H (kvs.map fun kv => if kv.1 = k then (kv.1, y) else kv) (xs.map (putAt k u)) := by
  induction r with
  | nil => exact .nil
  | @cons p q ps qs h t ih =>
    rw [List.map_cons, List.map_cons]
    refine .cons ?_ ih
    obtain ⟨h1, h2, h3⟩ := h
    unfold putAt
    by_cases e : p.1 = k
    · rw [if_pos e, if_pos (h1.symm.trans e)]; exact ⟨h1, h2, ry⟩
    · rw [if_neg e, if_neg (fun z => e (h1.trans z))]; exact ⟨h1, h2, h3⟩
theorem KT.put {H : Hp} {kvs : List (List Key × V)} {xs : List (List Key × Addr × Value)} (r : KT H kvs xs) (k : List Key) {b : Addr} {y : V} {u : Value} (hb : H b = some (.tup (k.map kV))) (ry : RelV y u) :
    KT H (putK kvs k y) (storedH xs k b u) := by
  have e : (kvs.any fun kv => decide (kv.1 = k)) = (atKey xs k).isSome := by
    rw [valV_any, (r.val k).isSome_eq, Option.isSome_map]
  unfold putK storedH
  rw [e]
  by_cases q : (atKey xs k).isSome = true
  · rw [if_pos q, if_pos q]; exact r.repl k ry
  · rw [if_neg q, if_neg q]; exact Paired.snoc r ⟨rfl, hb, ry⟩
theorem KT.keeps {H H' : Hp} {kvs : List (List Key × V)} {xs : List (List Key × Addr × Value)} (r : KT H kvs xs) (ht : ∀ b ys, H b = some (.tup ys) → H' b = some (.tup ys)) : KT H' kvs xs :=
  Paired.mapP r fun _ _ z => ⟨z.1, ht _ _ z.2.1, z.2.2⟩

section
variable {P : Program} {w : World} {H : Hp} {h : Heap} {a : Addr}
theorem rd_of {u : HO} (ok : HOk P w H h) (e : Rd H a u) : ObjOk P w H h a u := e.ok ok
theorem dk_rd {kvs : List (Key × V)} (ok : HOk P w H h) (e : Rd H a (.dK kvs)) : kvs.length ≤ sizeLine ∧ (a == sysModules) = false ∧ ∃ vs, KV kvs vs ∧ h.DictOf (mixKind P w) a vs :=
  show ObjOk P w H h a (.dK kvs) from rd_of ok e
theorem dk_of {kvs : List (Key × V)} (ok : HOk P w H h) (e : H a = some (.dK kvs)) : kvs.length ≤ sizeLine ∧ (a == sysModules) = false ∧ ∃ vs, KV kvs vs ∧ h.DictOf (mixKind P w) a vs := dk_rd ok (.inl e)
/-- a tracked tuple of ints and texts is a key -/
theorem key_of {ks : List Key} (ok : HOk P w H h) (e : H a = some (.tup (ks.map kV))) : (tupleKind (mixKind P w)).is h ks a := by
  obtain ⟨_, its, r, o, h1, h2, n, h3, _⟩ := (show ObjOk P w H h a (.tup (ks.map kV)) from ok a _ e)
  exact ⟨o, its.toArray, n, h1, h2, h3, by simpa using items_are r⟩
theorem dt_rd {kvs : List (List Key × V)} (ok : HOk P w H h) (e : Rd H a (.dT kvs)) : kvs.length ≤ sizeLine ∧ (a == sysModules) = false ∧
    ∃ xs, KT H kvs xs ∧ h.DictOfH (tupleKind (mixKind P w)) a xs := by
  obtain ⟨z, y, xs, r, o, es, ep, h1, h2, h3, h4, h5⟩ := (show ObjOk P w H h a (.dT kvs) from rd_of ok e)
  refine ⟨z, y, xs, r, o, es, ep, h1, h2, h3, h4, fun x hx => ?_, h5⟩
  have all : ∀ {l : List (List Key × V)} {m : List (List Key × Addr × Value)}, KT H l m → ∀ x ∈ m, (tupleKind (mixKind P w)).is h x.1 x.2.1 := by
    intro l m q
    induction q with
    | nil => intro x hx; exact nomatch hx
    | @cons p q ps qs hq t ih =>
      intro x hx
      rcases List.mem_cons.mp hx with e | hx
      · subst e
        exact key_of ok (by rw [← hq.1]; exact hq.2.1)
      · exact ih x hx
  exact all r x hx
theorem dt_of {kvs : List (List Key × V)} (ok : HOk P w H h) (e : H a = some (.dT kvs)) : kvs.length ≤ sizeLine ∧ (a == sysModules) = false ∧
    ∃ xs, KT H kvs xs ∧ h.DictOfH (tupleKind (mixKind P w)) a xs := dt_rd ok (.inl e)
end

/-- what the dict at a holds at the key y -/
noncomputable def DGet (H : Hp) (a : Addr) (y : V) (r : Option V) : Prop :=
  (∃ kvs k, Rd H a (.dK kvs) ∧ y = kV k ∧ r = valV kvs k) ∨ ∃ kvs k b, Rd H a (.dT kvs) ∧ y = .ref b ∧ H b = some (.tup (k.map kV)) ∧ r = valV kvs k
/-- the heap behind a[y] = v -/
noncomputable def DPut (H : Hp) (a : Addr) (y v : V) (H' : Hp) : Prop :=
  (∃ kvs k, H a = some (.dK kvs) ∧ y = kV k ∧ kvs.length < sizeLine ∧ H' = upd H a (.dK (putK kvs k v))) ∨
  ∃ kvs k b, H a = some (.dT kvs) ∧ y = .ref b ∧ H b = some (.tup (k.map kV)) ∧ kvs.length < sizeLine ∧ H' = upd H a (.dT (putK kvs k v))
theorem DGet.k {H : Hp} {a : Addr} {kvs : List (Key × V)} {k : Key} (e : H a = some (.dK kvs)) : DGet H a (kV k) (valV kvs k) := .inl ⟨kvs, k, .inl e, rfl, rfl⟩
theorem DPut.k {H : Hp} {a : Addr} {kvs : List (Key × V)} {k : Key} {v : V} (e : H a = some (.dK kvs)) (hl : kvs.length < sizeLine) : DPut H a (kV k) v (upd H a (.dK (putK kvs k v))) := .inl ⟨kvs, k, e, rfl, hl, rfl⟩
section
variable {X : Cx} {pins : List (Addr × Obj)} {σ : St} {H : Hp} {s : Shared} {a : Addr} {y v : V} {u r : Value} {o : Option V} {A : Around} {E : Value → Shared → Prop}

theorem Inv.big (I : Inv X pins σ H s) : sysModules < s.heap.objs.size := by
  have h : mainGlobals < s.heap.objs.size := (I.mod.glob.keeps I.bk).lt
  exact Nat.lt_trans (by decide) h

/-- d[y], there -/
theorem d_getItem {Q : Value → Shared → Prop} (hu : A.units + 1 < cLine) (I : Inv X pins σ H s) (g : DGet H a y (some v)) (ry : RelV y u) (h : ∀ w' s', Inv X pins σ H s' → RelV v w' → Q w' s') :
    wpAny (model X.prog X.w) A (getItem (.ref a) u) Q E s := by
  rcases g with ⟨kvs, k, e, ey, l⟩ | ⟨kvs, k, b, e, ey, eb, l⟩
  · subst ey
    obtain ⟨z, hd, vs, rel, dd⟩ := dk_rd I.hok e
    obtain ⟨w', hw, rw'⟩ := RelO.some_of (v := v) (o := valueAt vs k) (by rw [l]; exact rel.val k)
    exact wpAny_getItem_of (kV_is ry) dd.mapOf hw (h w' _ (I.tok _) rw')
  · subst ey
    cases (show u = Value.ref b from ry)
    obtain ⟨z, hd, xs, rel, dd⟩ := dt_rd I.hok e
    obtain ⟨w', hw, rw'⟩ := RelO.some_of (v := v) (o := (atKey xs k).map (·.2)) (by rw [l]; exact rel.val k)
    obtain ⟨p, hp, hp2⟩ := Option.map_eq_some_iff.mp hw
    refine wpAny_getItem_heap (tupleKind_room_in1 hu) (key_of I.hok eb) dd hp ?_
    rw [hp2]
    exact h w' _ (I.tok _) rw'
theorem d_notIn {Q : Value → Shared → Prop} (hu : A.units + 1 < cLine) (I : Inv X pins σ H s) (g : DGet H a y o) (ry : RelV y u) (h : ∀ s', Inv X pins σ H s' → Q (.bool (!o.isSome)) s') :
    wpAny (model X.prog X.w) A (compareOp .NotIn u (.ref a)) Q E s := by
  rcases g with ⟨kvs, k, e, ey, l⟩ | ⟨kvs, k, b, e, ey, eb, l⟩
  · subst ey
    obtain ⟨z, hd, vs, rel, dd⟩ := dk_rd I.hok e
    refine wpAny_notIn_of (kV_is ry) hd dd.mapOf ?_
    rw [← (rel.val k).isSome_eq, ← l]
    exact h _ (I.tok _)
  · subst ey
    cases (show u = Value.ref b from ry)
    obtain ⟨z, hd, xs, rel, dd⟩ := dt_rd I.hok e
    refine wpAny_notIn_heap (tupleKind_room_in1 hu) (key_of I.hok eb) hd dd ?_
    have q := (rel.val k).isSome_eq
    rw [Option.isSome_map] at q
    rw [← q, ← l]
    exact h _ (I.tok _)
/-- a dict's object is replaced -/
theorem d_write {h' : Heap} {t' : Nat} {ob : HO} (I : Inv X pins σ H s) (mu : Mut (H a)) (hs : Heap.SameBut a s.heap h') (he : ∃ q, h'.get? a = some q) (new : ObjOk X.prog X.w (upd H a ob) h' a ob) :
    Inv X pins σ (upd H a ob) { s with heap := h', toks := t' } :=
  I.write (x := a) (e := a) mu (.inl rfl) (fun b q hb z => (hs.2 b hb).trans z) he new
theorem dk_new {P : Program} {w : World} {H' : Hp} {h' : Heap} {kvs : List (Key × V)} {vs : List (Key × Value)} (z : kvs.length ≤ sizeLine) (hd : (a == sysModules) = false) (rel : KV kvs vs) (dd : h'.DictOf (mixKind P w) a vs) :
    ObjOk P w H' h' a (.dK kvs) := ⟨z, hd, vs, rel, dd⟩
/-- d[y] = v -/
theorem d_setItem {H' : Hp} {Q : Unit → Shared → Prop} (hu : A.units + 1 < cLine) (I : Inv X pins σ H s) (g : DPut H a y v H') (ry : RelV y u) (rv : RelV v r) (h : ∀ s', Inv X pins σ H' s' → Q () s') :
    wpAny (model X.prog X.w) A (setItem (.ref a) u r) Q E s := by
  rcases g with ⟨kvs, k, e, ey, l, eH⟩ | ⟨kvs, k, b, e, ey, eb, l, eH⟩
  · subst ey eH
    obtain ⟨z, hd, vs, rel, dd⟩ := dk_of I.hok e
    have hz : vs.length ≤ sizeLine := by rw [← rel.length]; exact z
    have hl : (putK kvs k v).length ≤ sizeLine := by have := length_putK kvs k v; omega
    refine wpAny_setItem_pairs (hsz := hz) (kV_is ry) dd fun h' dd' hs => h _ ?_
    have he : ∃ q, h'.get? a = some q := let ⟨q, _, _, hq, _⟩ := dd'; ⟨q, hq⟩
    exact d_write I (by rw [e]; exact True.intro) hs he (dk_new hl hd (rel.put k rv) dd')
  · subst ey eH
    cases (show u = Value.ref b from ry)
    obtain ⟨z, hd, xs, rel, dd⟩ := dt_of I.hok e
    have hz : xs.length ≤ sizeLine := by rw [← Paired.length rel]; exact z
    have hl : (putK kvs k v).length ≤ sizeLine := by have := length_putK kvs k v; omega
    refine wpAny_setItem_heap (hsz := hz) (tupleKind_room_in1 hu) (key_of I.hok eb) dd fun h' dd' hs => h _ ?_
    obtain ⟨q, es, ep, hq, h2, h3, h4, _, h5⟩ := dd'
    refine d_write I (by rw [e]; exact True.intro) hs ⟨q, hq⟩ ⟨hl, hd, _, (rel.put k eb rv).keeps fun c ys ec => ?_, q, es, ep, hq, h2, h3, h4, h5⟩
    rw [upd_ne (ne_of ec e (fun z => nomatch z))]
    exact ec
end

section
variable {X : Cx} {pins : List (Addr × Obj)} {σ : St} {H : Hp} {s : Shared} {a : Addr} {kvs : List (Key × V)} {k : Key} {u : Value} {A : Around} {E : Value → Shared → Prop}
/-- d.pop(k[, x]), there -/
theorem d_pop {v : V} {more : List Value} {Q : Value → Shared → Prop} (I : Inv X pins σ H s) (e : H a = some (.dK kvs)) (ry : RelV (kV k) u) (l : valV kvs k = some v) (hm : more = [] ∨ ∃ x, more = [x])
    (h : ∀ w' s', Inv X pins σ (upd H a (.dK (dropK kvs k))) s' → RelV v w' → Q w' s') : wpAny (model X.prog X.w) A (call (.builtin "dict.pop") (.ref a :: u :: more)) Q E s := by
  obtain ⟨z, hd, vs, rel, dd⟩ := dk_of I.hok e
  obtain ⟨w', hw, rw'⟩ := RelO.some_of (v := v) (o := valueAt vs k) (by rw [← l]; exact rel.val k)
  have hp : (keyPart u).isSome = true := by
    cases k with
    | inl i => obtain ⟨t, q⟩ := (show ∃ t, u = Value.int i t from ry); subst q; rfl
    | inr x => obtain ⟨t, q⟩ := (show ∃ t, u = Value.str x t from ry); subst q; rfl
  have ha : argsOk "dict.pop" ⟨.ref a :: u :: more, []⟩ := by
    rcases hm with q | ⟨x, q⟩
    · subst q; exact PySem.F.args_dict_pop_2 _ _
    · subst q; exact PySem.F.args_dict_pop_3 _ _ _
  refine call_meetsIn PySem.F.slot_dict_pop dd.typeIs PySem.F.entry_dict_pop ha (meets_dict_pop_there (mixKind X.prog X.w) a (kV_is ry) more hm hp)
    ⟨vs, w', dd, by rw [← rel.length]; exact z, hw, fun h' dd' hs => h w' _ ?_ rw'⟩
  have he : ∃ q, h'.get? a = some q := let ⟨q, _, _, hq, _⟩ := dd'; ⟨q, hq⟩
  exact d_write I (by rw [e]; exact True.intro) hs he (dk_new (Nat.le_trans (dropK_le kvs k) z) hd (rel.drop k) dd')
/-- len(d) -/
theorem d_len {Q : Value → Shared → Prop} (I : Inv X pins σ H s) (e : Rd H a (.dK kvs)) (h : ∀ t s', Inv X pins σ H s' → Q (.int kvs.length t) s') : wpAny (model X.prog X.w) A (call (.builtin "len") [.ref a]) Q E s := by
  obtain ⟨z, hd, vs, rel, dd⟩ := dk_rd I.hok e
  refine call_len_dict hd dd (by rw [← rel.length]; rw [sizeLine_eq] at z; omega) ?_
  rw [← rel.length]
  exact h _ _ (I.tok _)
end


/-! ### readings and rules -/
/-- the element of a subscription, not a slice -/
noncomputable def NoSl (i : Expr) : Prop := ∀ ov iv, subscripted i false ov iv = operate [ov, iv] (getItem ov iv)
theorem subD_of {prog : Program} {w : World} {A : Around} {E : Value → Shared → Prop} {s : Shared} {env : Env} {value slice : Expr} {pos : Pos} {T id : String} {Q : Value → Shared → Prop}
    (hl : typeLookup (.type T) "__getitem__" = pure (some (.builtin id))) (hs : NoSl slice)
    (h : wpAny (model prog w) A (eval value env) (fun o s₁ => wpAny (model prog w) A (eval slice env) (fun i s₂ => s₂.TypeIs o T ∧ wpAny (model prog w) A (getItem o i) Q E s₂) E s₁) E s) :
    wpAny (model prog w) A (eval (.Subscript value slice pos) env) Q E s := by
  refine Subscript_ (wpAny_mono h (fun o s₁ h₁ => wpAny_mono h₁ (fun i s₂ h₂ => ?_) fun _ _ x => x) fun _ _ x => x)
  obtain ⟨hT, h₂⟩ := h₂
  unfold subscriptTail
  refine wpAny_bind ?_
  rw [getitemInPython_of_ne hT.not_modules]
  refine wpAny_bind (wpAny_specialOf hT hl ?_)
  have fin : wpAny (model prog w) A (subscripted slice false o i) (fun r s₃ => wpAny (model prog w) A (letTemporaryGo value o r >>= fun _ => pure r) Q E s₃) E s₂ := by
    rw [hs o i]
    exact wpAny_operating (wpAny_mono h₂ (fun r s₃ h₃ => wpAny_bind (wpAny_letTemporaryGo (wpAny_pure h₃))) fun _ _ x => x)
  first
    | exact wpAny_pure (wpAny_bind fin)
    | exact wpAny_bind (wpAny_pure (wpAny_bind fin))
    | exact wpAny_bind fin

theorem dict_typeIs {X : Cx} {pins : List (Addr × Obj)} {σ : St} {H : Hp} {s : Shared} {a : Addr} {y : V} {o : Option V} (I : Inv X pins σ H s) (g : DGet H a y o) : s.TypeIs (.ref a) "dict" := by
  rcases g with ⟨kvs, k, e, _, _⟩ | ⟨kvs, k, b, e, _, _, _⟩
  · obtain ⟨_, _, vs, _, dd⟩ := dk_rd I.hok e
    exact dd.typeIs
  · obtain ⟨_, _, xs, _, dd⟩ := dt_rd I.hok e
    exact dd.typeIs
/-- d[y] -/
noncomputable def tDGet (td ty : TE) : TE := fun σ H Q => td σ H fun x H1 => ty σ H1 fun y H2 => ∃ a v, x = .ref a ∧ DGet H2 a y (some v) ∧ Q v H2
noncomputable def tDNotIn (ty td : TE) : TE := fun σ H Q => ty σ H fun y H1 => td σ H1 fun x H2 => ∃ a o, x = .ref a ∧ DGet H2 a y o ∧ Q (.bl (!o.isSome)) H2
/-- d[y] = v -/
noncomputable def sDPut (td ty tv : TE) : TS := fun D σ H => tv σ H fun v H1 => td σ H1 fun x H2 => ty σ H2 fun y H3 => ∃ a H4, x = .ref a ∧ DPut H3 a y v H4 ∧ D.nx σ H4
section
variable {X : Cx} {o i e value : Expr} {pos pos' tpos : Pos} {td ty tv : TE}
theorem pe_dget (hu : X.A.units + 1 < cLine) (ho : PE X o td) (hi : PE X i ty) (hs : NoSl i) : PE X (.Subscript o i pos) (tDGet td ty) := by
  intro pins s σ H Q I h
  refine subD_of PySem.F.slot_dict_getitem.lookup hs (thn (ho pins s σ H _ I h) fun u s1 ⟨x, H1, I1, rx, q1⟩ => thn (hi pins s1 σ H1 _ I1 q1) fun iv s2 ⟨y, H2, I2, ry, a, v, ex, g, q2⟩ => ?_)
  subst ex
  obtain rfl : u = Value.ref a := rx
  exact ⟨dict_typeIs I2 g, d_getItem hu I2 g ry fun w' s3 I3 rw' => ⟨v, H2, I3, rw', q2⟩⟩
theorem pc_dnotin (hu : X.A.units + 1 < cLine) (hi : PE X i ty) (ho : PE X o td) : PC X .NotIn i o (tDNotIn ty td) := by
  intro pins s σ H Q I h
  refine thn (hi pins s σ H _ I h) fun iv s1 ⟨y, H1, I1, ry, q1⟩ => thn (ho pins s1 σ H1 _ I1 q1) fun u s2 ⟨x, H2, I2, rx, a, ov, ex, g, q2⟩ => ?_
  subst ex
  obtain rfl : u = Value.ref a := rx
  exact d_notIn hu I2 g ry fun s3 I3 => ⟨.bl (!ov.isSome), H2, I3, rfl, q2⟩
theorem ps_dput (hu : X.A.units + 1 < cLine) (ho : PE X o td) (hi : PE X i ty) (hv : PE X value tv) (hs : swapsWith value (some (.Subscript o i pos')) pos.line X.env = pure false) :
    PS X (.Assign [.Subscript o i pos'] value pos) (sDPut td ty tv) := by
  intro pins s σ H D I h
  refine wpAny_Assign_Subscript (thn (hv pins s σ H _ I h) fun r s1 ⟨v, H1, I1, rv, q1⟩ => thn (ho pins s1 σ H1 _ I1 q1) fun u s2 ⟨x, H2, I2, rx, q2⟩ => thn (hi pins s2 σ H2 _ I2 q2) fun iv s3 ⟨y, H3, I3, ry, a, H4, ex, g, q3⟩ => ?_) hs
  subst ex
  obtain rfl : u = Value.ref a := rx
  exact d_setItem hu I3 g ry rv fun s4 I4 => ⟨σ, H4, I4, q3⟩
end


/-! ### displays -/
theorem dk_empty {P : Program} {w : World} {H : Hp} (h : Heap) (hb : sysModules < h.objs.size) : ObjOk P w H (h.push { cls := .type "dict", data := .dict #[] }) h.objs.size (.dK []) :=
  ⟨Nat.zero_le _, beq_eq_false_iff_ne.mpr (Ne.symm (Nat.ne_of_lt hb)), [], .nil, Heap.DictOf.new h⟩
/-- {}, to be a dict of the kind that is wanted -/
noncomputable def tDNewK : TE := fun _ H Q => ∀ p, H p = none → Q (.ref p) (upd H p (.dK []))
section
variable {X : Cx} {pos : Pos}
theorem pe_dnewK : PE X (.Dict [] [] pos) tDNewK := fun pins s σ H Q I h =>
  wpAny_Dict_empty ⟨.ref s.heap.objs.size, _, I.laid (a := s.heap.objs.size) (o := .dK []) (t' := s.toks) (fun _ _ q => Heap.get?_push_of_some _ q) (Nat.le_refl _) (dk_empty s.heap I.big), rfl, h _ (I.hok.fresh (Nat.le_refl _))⟩
end

/-- the pairs of a display, from the left -/
noncomputable def tPairs : List (TE × TE) → St → Hp → (List (V × V) → Hp → Prop) → Prop
  | [], _, H, Q => Q [] H
  | (tk, tv) :: r, σ, H, Q => tk σ H fun x H1 => tv σ H1 fun y H2 => tPairs r σ H2 fun ps H3 => Q ((x, y) :: ps) H3
noncomputable abbrev VV : List (V × V) → List (Value × Value) → Prop := Paired fun p q => RelV p.1 q.1 ∧ RelV p.2 q.2
noncomputable def PPs (X : Cx) (pos : Pos) (keys : List (Option Expr)) (values : List Expr) (trs : List (TE × TE)) : Prop :=
  ∀ (pins : List (Addr × Obj)) (s : Shared) (σ : St) (H : Hp) (Q : List (V × V) → Hp → Prop), Inv X pins σ H s → tPairs trs σ H Q →
    wpAny (model X.prog X.w) X.A (evalPairs (pairTrees keys values X.env pos)) (fun vs s' => ∃ ps H', Inv X pins σ H' s' ∧ VV ps vs ∧ Q ps H') X.xe s
theorem pps_nil {X : Cx} {pos : Pos} : PPs X pos [] [] [] := fun pins s σ H Q I h => pairTrees_nil_walk ⟨[], H, I, .nil, h⟩
theorem pps_cons {X : Cx} {pos : Pos} {k v : Expr} {ks : List (Option Expr)} {vs : List Expr} {tk tv : TE} {trs : List (TE × TE)} (hk : PE X k tk) (hv : PE X v tv) (hr : PPs X pos ks vs trs) :
    PPs X pos (some k :: ks) (v :: vs) ((tk, tv) :: trs) := fun pins s σ H Q I h =>
  pairTrees_cons_walk (thn (hk pins s σ H _ I h) fun u s1 ⟨x, H1, I1, rx, q1⟩ => thn (hv pins s1 σ H1 _ I1 q1) fun w2 s2 ⟨y, H2, I2, ry, q2⟩ =>
    thn (hr pins s2 σ H2 _ I2 q2) fun ws s3 ⟨ps, H3, I3, rel, q3⟩ => ⟨(x, y) :: ps, H3, I3, .cons ⟨rx, ry⟩ rel, q3⟩)

noncomputable def mergeK (kvs more : List (Key × V)) : List (Key × V) := more.foldl (fun acc kv => putK acc kv.1 kv.2) kvs
theorem KV.merge : ∀ {more : List (Key × V)} {rs : List (Key × Value)} {kvs : List (Key × V)} {vs : List (Key × Value)}, KV more rs → KV kvs vs → KV (mergeK kvs more) (merged vs rs) := by
  intro more rs kvs vs r
  unfold KV at r
  induction r generalizing kvs vs with
  | nil => intro q; exact q
  | @cons p q ps qs h t ih =>
    intro r0
    have e : KV (putK kvs p.1 p.2) (stored vs q.1 q.2) := by
      have := r0.put p.1 h.2
      rw [← h.1]; exact this
    exact ih e
theorem length_mergeK : ∀ (more kvs : List (Key × V)), (mergeK kvs more).length ≤ kvs.length + more.length
  | [], kvs => by show kvs.length ≤ kvs.length + 0; omega
  | p :: r, kvs => by
    have h1 := length_mergeK r (putK kvs p.1 p.2)
    have h2 := length_putK kvs p.1 p.2
    show (mergeK (putK kvs p.1 p.2) r).length ≤ _
    rw [List.length_cons]; omega
theorem carries_of {P : Program} {w : World} : ∀ {kvs : List (Key × V)} {ws : List (Value × Value)}, VV (kvs.map fun kv => (kV kv.1, kv.2)) ws → ∃ rs, Carries (mixKind P w) ws rs ∧ KV kvs rs
  | [], _, r => by rw [List.map_nil] at r; cases r; exact ⟨[], True.intro, .nil⟩
  | p :: kvs, _, r => by
    rw [List.map_cons] at r
    cases r with
    | @cons a b as bs h t =>
      obtain ⟨rs, c, q⟩ := carries_of (P := P) (w := w) t
      obtain ⟨b1, b2⟩ := b
      exact ⟨(p.1, b2) :: rs, ⟨kV_is h.1, rfl, c⟩, .cons ⟨rfl, h.2⟩ q⟩
/-- {k: v, ..} with keys ints and texts; the new dict stands empty while the pairs are made -/
noncomputable def tDisp (trs : List (TE × TE)) : TE := fun σ H Q => ∀ p, H p = none → tPairs trs σ (upd H p (.dK [])) fun ps H2 => H2 p = some (.dK []) ∧ ∃ kvs : List (Key × V), ps = kvs.map (fun kv => (kV kv.1, kv.2)) ∧ kvs.length ≤ 15 ∧ Q (.ref p) (upd H2 p (.dK (mergeK [] kvs)))
theorem pe_disp {X : Cx} {pos : Pos} {keys : List (Option Expr)} {values : List Expr} {trs : List (TE × TE)} (h : PPs X pos keys values trs) (hall : keys.all (·.isSome) = true) (hl : keys.length = values.length) (h0 : keys ≠ [])
    (h15 : keys.length ≤ 15) : PE X (.Dict keys values pos) (tDisp trs) := by
  intro pins s σ H Q I q
  have hn := I.hok.fresh (Nat.le_refl s.heap.objs.size)
  have I1 := I.laid (a := s.heap.objs.size) (o := .dK []) (h' := s.heap.push { cls := .type "dict", data := .dict #[] }) (t' := s.toks) (fun _ _ q => Heap.get?_push_of_some _ q) (Nat.le_refl _) (dk_empty s.heap I.big)
  refine wpAny_Dict_walk (knd := mixKind X.prog X.w) hall hl h0 h15 (thn (h pins _ σ _ _ I1 (q _ hn)) fun ws s2 ⟨ps, H2, I2, rel, e, kvs, ep, lk, q2⟩ => ?_)
  subst ep
  obtain ⟨rs, c, rk⟩ := carries_of (P := X.prog) (w := X.w) rel
  obtain ⟨z, hd, vs0, r0, dd⟩ := dk_of I2.hok e
  cases r0
  refine ⟨rs, c, dd, fun h' dd' hs => ⟨.ref s.heap.objs.size, _, ?_, rfl, q2⟩⟩
  have hz : (mergeK [] kvs).length ≤ sizeLine := by
    have h1 := length_mergeK kvs []
    rw [List.length_nil] at h1
    rw [sizeLine_eq]; omega
  have he : ∃ q, h'.get? s.heap.objs.size = some q := let ⟨q, _, _, hq, _⟩ := dd'; ⟨q, hq⟩
  exact d_write I2 (by rw [e]; exact True.intro) hs he (dk_new hz hd (rk.merge .nil) dd')


/-! ### methods -/
/-- a method call o.m(e) of a built-in, with one argument: what must be seen of the text -/
structure M1 (X : Cx) (o : Expr) (m : Str) (apos : Pos) (e : Expr) (cpos : Pos) : Prop where
  base : attributeBase o m X.env (eval o X.env) = eval o X.env
  few : ((backTo cpos (starEach [e] X.env)).all (fun x => !x.1) && (backToKw cpos (keywordEach [] X.env)).all (fun x => x.1.isSome)
    && decide (([e] : List Expr).length + ([] : List Keyword).length + (if ([] : List Keyword).isEmpty then 0 else 1) < 30)) = true
  line : (apos.endLine == cpos.line) = true
  trees : backTo cpos (starEach [e] X.env) = [(false, eval e X.env)]
/-- a is a dict, whatever its keys -/
noncomputable def IsD (H : Hp) (a : Addr) : Prop := (∃ kvs, Rd H a (.dK kvs)) ∨ ∃ kvs, Rd H a (.dT kvs)
theorem isD_at {X : Cx} {pins : List (Addr × Obj)} {σ : St} {H : Hp} {s : Shared} {a : Addr} (I : Inv X pins σ H s) (d : IsD H a) :
    s.TypeIs (.ref a) "dict" ∧ (∀ b, Value.ref a = .ref b → ∃ ob, s.heap.get? b = some ob ∧ ob.dict = none) ∧ (a == sysModules) = false := by
  rcases d with ⟨kvs, e⟩ | ⟨kvs, e⟩
  · obtain ⟨_, hd, vs, _, dd⟩ := dk_rd I.hok e
    refine ⟨dd.typeIs, fun b q => ?_, hd⟩
    cases q
    obtain ⟨ob, _, _, h1, h2, _⟩ := dd
    exact ⟨ob, h1, h2.2.1⟩
  · obtain ⟨_, hd, xs, _, dd⟩ := dt_rd I.hok e
    refine ⟨dd.typeIs, fun b q => ?_, hd⟩
    cases q
    obtain ⟨ob, _, _, h1, h2, _⟩ := dd
    exact ⟨ob, h1, h2.2.1⟩


/-- d.pop(k): there; d.pop(k, x): there or not -/
noncomputable def tDPop1 (td ty : TE) : TE := fun σ H Q => td σ H fun x H1 => ∃ a, x = .ref a ∧ IsD H1 a ∧ ty σ H1 fun y H2 => ∃ kvs k v, H2 a = some (.dK kvs) ∧ y = kV k ∧ valV kvs k = some v ∧ Q v (upd H2 a (.dK (dropK kvs k)))
section
variable {X : Cx} {o e f : Expr} {apos cpos : Pos} {td ty tx : TE}
theorem pe_dpop1 (ho : PE X o td) (he : PE X e ty) (m : M1 X o "pop" apos e cpos) : PE X (.Call (.Attribute o "pop" apos) [e] [] cpos) (tDPop1 td ty) := by
  intro pins s σ H Q I h
  refine wpAny_Call_method m.base m.few m.line PySem.F.plainAttrs_dict PySem.F.slot_dict_pop PySem.F.type_dict_pop (thn (ho pins s σ H _ I h) fun u s1 ⟨x, H1, I1, rx, a, ex, d, q1⟩ => ?_)
  subst ex
  obtain rfl : u = Value.ref a := rx
  obtain ⟨t1, t2, _⟩ := isD_at I1 d
  refine ⟨t1, t2, ?_⟩
  rw [m.trees]
  refine Calls.callWith_builtin rfl (Calls.evalArgs_plain (Calls.spliced_cons (thn (he pins s1 σ H1 _ I1 q1) fun iv s2 ⟨y, H2, I2, ry, kvs, k, v, ea, ey, l, q2⟩ => Calls.spliced_nil ?_)))
  subst ey
  exact d_pop I2 ea ry l (.inl rfl) fun w' s3 I3 rw' => ⟨v, _, I3, rw', q2⟩
end

/-! ### dict(d): a copy -/


end L2

namespace Att
open PySem PySem.W PySem.Calls PyProof.Rows

/-! ### the script -/
theorem ints_of_wellAll {P : Params} {h : Heap} : ∀ (ns : List Int) (vs : List Value), WellAll P h vs (ns.map WData.int) → IntsAre vs ns := by
  intro ns
  induction ns with
  | nil =>
    intro vs w
    rw [List.map_nil] at w
    cases w
    exact .nil
  | cons n ns ih =>
    intro vs w
    rw [List.map_cons] at w
    cases w with
    | cons a b =>
      cases a
      exact .cons _ _ (ih _ b)

theorem script_of {l : OpenLaw} {n : Nat} (hn : l.most = some n) {P : Params} {h : Heap} {args : List WData} {vals : List Value}
    (hpre : l.row.toRowW.claim.pre args = true) (hwl : WellAll P h vals args) :
    ∃ a vs ns, vals = [Value.ref a] ∧ args = [WData.list (ns.map WData.int)] ∧ h.get? a = some { cls := .type "list", data := .seq vs.toArray } ∧ IntsAre vs ns ∧ ns.length ≤ n := by
  have hsh : WShape.hasAll [] args [.list .int] = true := (pre_splitW hpre).1
  have hc : l.pre.holds [] { args := args } = true := (pre_splitW hpre).2
  obtain ⟨d, r, rfl, h1, h2⟩ := hasAllW_cons hsh
  obtain rfl := hasAllW_nil h2
  obtain ⟨xs, rfl, h3⟩ := hasW_list h1
  obtain ⟨ns, rfl⟩ := items_int h3
  have hlen : ns.length ≤ n := by
    unfold OpenLaw.pre at hc
    have h4 : (WTm.not (.lt (.lit (.int (n : Int))) (.len (.arg 0)))).holds [] { args := [.list (ns.map .int)] } = true := by
      have h4 := (holds_andW hc).1
      rw [hn] at h4
      exact h4
    have h5 := condW_of h4 (w_not (w_lt w_lit (w_len_list (w_arg rfl))))
    rw [List.length_map] at h5
    refine Nat.le_of_not_lt fun q => ?_
    have q' : (n : Int) < ((ns.length : Nat) : Int) := by omega
    first
      | (rw [decide_eq_true q'] at h5; exact absurd h5 (by decide))
      | (simp at h5; omega)
  cases hwl with
  | cons w1 w2 =>
    cases w2
    cases w1 with
    | list ho hall => exact ⟨_, _, ns, rfl, rfl, ho, ints_of_wellAll ns _ hall, hlen⟩

theorem post_true (l : OpenLaw) (args : List WData) : l.row.toRowW.claim.post args (.bool true) args = true :=
  postW_of (r := l.row.toRowW) (X := (true == true))
    (show WShape.has [] (.bool true) .bool = true by first | rfl | decide | simp [WShape.has, WShape.arms, WShape.armsAll])
    (show (WTm.eq .res (.lit (.bool true))).value [] { args := args, res := some (.bool true), after := args } = some (.bool (true == true)) from w_eq_bool (w_res rfl) w_lit) rfl

/-! ### the attachment: holds_open's last premise (the goal 'hc' behind k_head) from a wpAny of the law's body -/
/-- the same from a codeAny of the CALL (for a layer whose function contracts speak of calls) -/
theorem attach_call {l : OpenLaw} {n : Nat} {q : Program} {loose : List Str} {XP : (Str → Option Value) → Heap → Prop} {YP : World → Heap → Prop} {d : DefRec}
    (hn : l.most = some n) (hdf : d.params.defaults = [])
    (call : ∀ (w : World) (s₀ s₁ : Shared) (mg mb : Str → Option Value) (fa : Addr) (o : Obj) (pm cd doc : Value) (a : Addr) (vs : List Value) (ns : List Int),
      Ground q loose [] XP w s₀ mg mb s₁.heap → YP w s₁.heap →
      s₁.heap.get? fa = some o → o.data = .func (docDef d.name d.params d.body d.scope pm cd doc) → s₁.heap.CodeRec cd d.name → mg d.name = some (.ref fa) →
      s₁.heap.get? a = some { cls := .type "list", data := .seq vs.toArray } → IntsAre vs ns → ns.length ≤ n → s₁.gens = #[] →
      codeAny (model l.prog w) callerA (.call (.ref fa) ⟨[.ref a], []⟩) (fun r s' => r = .ok (.ret (.bool true)) ∧ OldK s₁.heap s'.heap ∧ s'.os = s₁.os ∧ AllBare s'.gens) s₁) :
    WalkO q loose XP YP l.row.toRowW d [] (fun f vs => PySem.call f vs) := by
  intro w s₀ s₁ mg mb G Y fa o pm cd doc dV kV ho hd hcd hD hmg hg args vals as hpre hlay hrd hwl hlo
  obtain rfl : dV = .none := Dflts.none hD hdf
  obtain rfl : kV = .none := Dflts.noKw hD
  obtain ⟨a, vs, ns, rfl, rfl, hobj, hints, hlen⟩ := script_of hn hpre hwl
  refine enter_call (codeAny_mono (call w s₀ s₁ mg mb fa o pm cd doc a vs ns G Y ho (fd_plain hd) hcd hmg hobj hints hlen hg) fun r s' hq => ?_)
  obtain ⟨rfl, h2, h3, h4⟩ := hq
  exact ⟨.inl ⟨.bool true, .bool true, [], rfl, fun _ => rfl, .bool true, post_true l _, fun _ => ⟨List.Pairwise.nil, fun _ hm => (nomatch hm)⟩⟩, h2, h3, h4⟩

/-! ### rules over ANY heap (no ledger) from facts about the written part K: the library's own take a ledger (News) for what they write -/
end Att

namespace L2
open PySem PySem.Spec PyProof.Rows

theorem vals_ints : ∀ {vs : List Value} {ns : List Int}, IntsAre vs ns → Vals (ns.map V.int) vs
  | _, _, .nil => .nil
  | _, _, .cons n t h => .cons ⟨t, rfl⟩ (vals_ints h)

end L2

namespace L2
open PySem PySem.Spec PyProof.Rows

noncomputable abbrev KOf {K : PySem.W.Frag} {h : Heap} (_ : K.In h) : PySem.W.Frag := K

end L2

/- THE LAST THEOREM (shape; LID, My.* are yours):
   My.Adr: a structure of the addresses that your layer names (classes, functions); My.Txt K t: a structure (Prop) of the equations over K;
   My.txt_mk : {K} {implicit addresses ..} (e1 : nsIn K mainGlobals "law" = some (some (.ref f))) (e2 : K.lookup f = some ⟨oc, od, .func (fnOf "law" "law" params body scope dV kV doc pm an cdv ct), sl⟩) (e3 : codeIn K cdv "law" = true) .. : ∃ t, My.Txt K t

(the tactic k_is has no namespace: write k_is) -/

/-! SHORT WORDS over the layer: a def of the text, its body, what a loop and a test want. -/
namespace L2
open PySem PySem.Spec PyProof.Rows

/-! ### the text by places -/
/-- the j-th statement of a class's body -/
noncomputable def inClass (s : Stmt) (j : Nat) : Stmt := match s with
  | .ClassDef _ _ _ body _ _ _ _ _ _ _ => body.getD j (.Pass ⟨0, 0, 0, 0⟩)
  | _ => .Pass ⟨0, 0, 0, 0⟩
noncomputable def defArgs (s : Stmt) : Arguments := match s with
  | .FunctionDef _ a _ _ _ _ _ _ _ _ => a
  | _ => { posonlyargs := [], args := [], vararg := none, kwonlyargs := [], kw_defaults := [], kwarg := none, defaults := [] }
noncomputable def defBody (s : Stmt) : List Stmt := match s with
  | .FunctionDef _ _ b _ _ _ _ _ _ _ => b
  | _ => []
noncomputable def defScope (s : Stmt) : Scope := match s with
  | .FunctionDef _ _ _ _ _ _ sc _ _ _ => sc
  | _ => { kind := .function, names := [], isGenerator := false, isCoroutine := false }

/-! ### no exception leaves a def -/
noncomputable abbrev CX0 : CXT := fun _ _ _ _ _ _ => False
noncomputable abbrev E0 : XK := fun _ _ _ => False
theorem pass0 {X : Cx} : Passes CX0 X E0 := fun _ _ _ _ _ _ _ h => h.elim

/-! ### a def (or method) of the text as it stands behind the top -/
structure Fun (K : PySem.W.Frag) (x qual : Str) (st : Stmt) (f : Addr) (fd : FuncData) : Prop where
  ex : ∃ (oc : Value) (od : Option Addr) (kV doc pm : Value) (an : Option Addr) (cdv ct : Value) (osl : Array (Option Value)),
    fd = PySem.W.fnOf x qual (defArgs st) (defBody st) (defScope st) .none kV doc pm an cdv ct ∧ K.lookup f = some ⟨oc, od, .func fd, osl⟩ ∧ PySem.W.codeIn K cdv qual = true
  kp : PySem.W.keepIn K (.ref f) = true
section
variable {P : Program} {w : World} {K : PySem.W.Frag} {mg : Str → Option Value} {base : Heap}
/-- THE RULE for a def: its body as a term of rules, and the reading of that term -/
theorem Fun.ok {x qual : Str} {st : Stmt} {f : Addr} {fd : FuncData} {N ps : List Str} {k : Nat} {sp : Sp} (F : Fun K x qual st f fd) (S : FnScope N ps (defScope st)) (len : ∀ vs H Q E, sp vs H Q E → vs.length = ps.length)
    (hbody : ∀ (cdv : Value) (A : Around) (outer : List Env) (s : Shared) (H : Hp) (vs : List V) (Q : VK) (E : XK), Room k (A.deeper (envOfC qual (defScope st) s.heap.objs.size f cdv)) → sp vs H Q E →
      ∃ t, PSs (cxOf CX0 P w K mg base N qual (defScope st) f cdv A outer s H E).nox (defBody st) t ∧ t { nx := fun _ H' => Q .non H', rt := Q } (start N vs) H) : FnOk P w K mg base CX0 (k + 1) f fd ps sp := by
  obtain ⟨oc, od, kV, doc, pm, an, cdv, ct, osl, rfl, lk, hcd⟩ := F.ex
  refine fn_of lk hcd S len fun A outer s H vs Q E hr hsp => ?_
  obtain ⟨t, h, q⟩ := hbody cdv A outer s H vs Q E hr hsp
  exact ⟨t, h.nox, q⟩
/-- how its arguments bind (no defaults): h is «fun _ _ _ _ _ _ us hl => match us, hl with | [_, _], _ => rfl», one _ a parameter -/
theorem Fun.binds {x qual : Str} {st : Stmt} {f : Addr} {fd : FuncData} {ps : List Str} (F : Fun K x qual st f fd)
    (h : ∀ (kV doc pm : Value) (an : Option Addr) (cdv ct : Value) (us : List Value), us.length = ps.length → bindArgs (PySem.W.fnOf x qual (defArgs st) (defBody st) (defScope st) .none kV doc pm an cdv ct) ⟨us, []⟩ = pure (ps.zip us)) : Binds K fd ps [] := by
  obtain ⟨oc, od, kV, doc, pm, an, cdv, ct, osl, rfl, lk, hcd⟩ := F.ex
  exact .all (h kV doc pm an cdv ct)
theorem fun_mk {x qual : Str} {st : Stmt} {f : Addr} {oc : Value} {od an : Option Addr} {osl : Array (Option Value)} {kV doc pm cdv ct : Value} (l : K.lookup f = some ⟨oc, od, .func (PySem.W.fnOf x qual (defArgs st) (defBody st) (defScope st) .none kV doc pm an cdv ct), osl⟩)
    (c : PySem.W.codeIn K cdv qual = true) (k : PySem.W.keepIn K (.ref f) = true) : Fun K x qual st f (PySem.W.fnOf x qual (defArgs st) (defBody st) (defScope st) .none kV doc pm an cdv ct) := ⟨⟨oc, od, kV, doc, pm, an, cdv, ct, osl, rfl, l, c⟩, k⟩
end
theorem hu_of {A : Around} {k : Nat} (hr : Room k A) : A.units + 1 < cLine := Nat.lt_of_le_of_lt (Nat.add_le_add_left (by decide : 1 ≤ 64) _) hr.units
/-! ### expressions in short: the name that stands in the i-th slot -/
section
variable {X : Cx}
theorem pv (i : Nat) {x : Str} {pos : Pos} (hN : X.N[i]? = some x := by rfl) (hv : Vis X.env.scope x := by first | exact Or.inl rfl | exact Or.inr (Or.inl rfl) | exact Or.inr (Or.inr rfl)) (hd : (x == ("__debug__" : Str)) = false := by decide)
    (hcd : (x == ("__classdict__" : Str)) = false := by decide) : PE X (.Name x pos) (tVar i) := pe_var hN hv hd hcd
end

/-! ### tests -/
theorem iteF {A B : Prop} (h : B) : if false = true then A else B := by
  rw [if_neg Bool.false_ne_true]
  exact h
theorem iteT {A B : Prop} (h : A) : if true = true then A else B := by
  rw [if_pos rfl]
  exact h
theorem ite2 {c A B : Prop} [Decidable c] (h1 : c → A) (h2 : ¬ c → B) : if c then A else B := by
  by_cases h : c
  · rw [if_pos h]
    exact h1 h
  · rw [if_neg h]
    exact h2 h
theorem iteNS {c A B : Prop} [Decidable c] (hc : c) (h : B) : if (!decide c) = true then A else B := by
  rw [decide_eq_true hc]
  exact iteF h

/-! ### heaps -/
/-- all that was tracked is as it was -/
noncomputable def Same (H H' : Hp) : Prop := ∀ b o, H b = some o → H' b = some o
theorem Same.refl (H : Hp) : Same H H := fun _ _ h => h
theorem Same.trans {H H1 H2 : Hp} (a : Same H H1) (b : Same H1 H2) : Same H H2 := fun c o h => b c o (a c o h)
theorem Same.free {H H' : Hp} (e : Same H H') {l : Addr} (h : H' l = Option.none) : H l = Option.none := by
  cases q : H l with
  | none => rfl
  | some o =>
    rw [e l o q] at h
    cases h
theorem Same.seq {K : PySem.W.Frag} {H H' : Hp} {a : Addr} {xs : List V} (e : Same H H') (h : SqL K H a xs) : SqL K H' a xs := by
  rcases h with (h | ⟨o, h⟩) | h
  · exact .inl (.inl (e _ _ h))
  · exact .inl (.inr ⟨o, e _ _ h⟩)
  · exact .inr h

end L2

namespace L2
open PySem PySem.Spec PyProof.Rows
section
variable {X : Cx}
/-- len of a dict -/
theorem call_lenD : CallR X (.builtin "len") (fun xs H Q => ∃ a kvs, xs = [V.ref a] ∧ H a = some (.dK kvs) ∧ Q (.int kvs.length) H) := by
  intro pins s σ H xs us Q I r h
  obtain ⟨a, kvs, rfl, ha, q⟩ := h
  obtain ⟨u, rfl, ru⟩ := vals1 r
  cases ru
  exact d_len I (.inl ha) fun t s' I' => ⟨.int kvs.length, H, I', ⟨t, rfl⟩, q⟩
end
/-! ### a dict's pairs: keys that differ -/
section
variable {κ : Type} [DecidableEq κ]
theorem valV_not {kvs : List (κ × V)} {k : κ} (h : valV kvs k = none) : ¬ k ∈ kvs.map (·.1) := by
  intro m
  obtain ⟨p, hp, e⟩ := List.mem_map.mp m
  have q : (kvs.any fun kv => decide (kv.1 = k)) = true := List.any_eq_true.mpr ⟨p, hp, decide_eq_true e⟩
  rw [valV_any, h] at q
  exact absurd q (by simp)
theorem valV_in {kvs : List (κ × V)} {k : κ} {v : V} (h : valV kvs k = some v) : k ∈ kvs.map (·.1) := by
  have q : (kvs.any fun kv => decide (kv.1 = k)) = true := by
    rw [valV_any, h]
    all_goals rfl
  obtain ⟨p, hp, e⟩ := List.any_eq_true.mp q
  exact List.mem_map.mpr ⟨p, hp, of_decide_eq_true e⟩
theorem nd_snoc : ∀ {l : List κ} {k : κ}, l.Nodup → ¬ k ∈ l → (l ++ [k]).Nodup
  | [], k, _, _ => by simp
  | a :: r, k, h, hk => by
    obtain ⟨h1, h2⟩ := List.nodup_cons.mp h
    show (a :: (r ++ [k])).Nodup
    refine List.nodup_cons.mpr ⟨fun m => ?_, nd_snoc h2 fun m => hk (List.mem_cons.mpr (Or.inr m))⟩
    rcases List.mem_append.mp m with q | q
    · exact h1 q
    · exact hk (List.mem_cons.mpr (Or.inl (List.mem_singleton.mp q).symm))
theorem nd_putK {kvs : List (κ × V)} {k : κ} (v : V) (hn : (kvs.map (·.1)).Nodup) (h : valV kvs k = none) : ((putK kvs k v).map (·.1)).Nodup := by
  rw [putK_new v h, List.map_append]
  exact nd_snoc hn (valV_not h)
theorem dropK_pos {p : κ × V} {r : List (κ × V)} {k : κ} (e : p.1 = k) : dropK (p :: r) k = dropK r k := by
  unfold dropK
  rw [List.filter_cons, if_neg (by simp [e])]
theorem dropK_neg {p : κ × V} {r : List (κ × V)} {k : κ} (e : ¬ p.1 = k) : dropK (p :: r) k = p :: dropK r k := by
  unfold dropK
  rw [List.filter_cons, if_pos (by simp [e])]
theorem dropK_no : ∀ {kvs : List (κ × V)} {k : κ}, ¬ k ∈ kvs.map (·.1) → dropK kvs k = kvs
  | [], _, _ => rfl
  | p :: r, k, h => by
    have h' : ¬ k ∈ r.map (·.1) := fun m => by
      obtain ⟨q, hq, e⟩ := List.mem_map.mp m
      exact h (List.mem_map.mpr ⟨q, List.mem_cons.mpr (Or.inr hq), e⟩)
    rw [dropK_neg fun e => h (List.mem_map.mpr ⟨p, List.mem_cons.mpr (Or.inl rfl), e⟩), dropK_no h']
theorem dropK_mem {kvs : List (κ × V)} {k : κ} {p : κ × V} (h : p ∈ dropK kvs k) : p ∈ kvs := (List.mem_filter.mp h).1
theorem nd_dropK : ∀ {kvs : List (κ × V)} {k : κ}, (kvs.map (·.1)).Nodup → ((dropK kvs k).map (·.1)).Nodup
  | [], _, _ => List.nodup_nil
  | p :: r, k, h => by
    have h : (p.1 :: r.map (·.1)).Nodup := h
    obtain ⟨h1, h2⟩ := List.nodup_cons.mp h
    by_cases e : p.1 = k
    · rw [dropK_pos e]
      exact nd_dropK h2
    · rw [dropK_neg e]
      show (p.1 :: (dropK r k).map (·.1)).Nodup
      refine List.nodup_cons.mpr ⟨fun m => h1 ?_, nd_dropK h2⟩
      obtain ⟨q, hq, eq⟩ := List.mem_map.mp m
      exact List.mem_map.mpr ⟨q, dropK_mem hq, eq⟩
theorem dropK_len : ∀ {kvs : List (κ × V)} {k : κ}, (kvs.map (·.1)).Nodup → k ∈ kvs.map (·.1) → (dropK kvs k).length + 1 = kvs.length
  | [], _, _, m => by simp at m
  | p :: r, k, h, m => by
    have h : (p.1 :: r.map (·.1)).Nodup := h
    have m : k = p.1 ∨ k ∈ r.map (·.1) := List.mem_cons.mp m
    obtain ⟨h1, h2⟩ := List.nodup_cons.mp h
    by_cases e : p.1 = k
    · subst e
      rw [dropK_pos rfl, dropK_no h1]
      all_goals rfl
    · have m' : k ∈ r.map (·.1) := m.resolve_left fun z => e z.symm
      have q := dropK_len h2 m'
      rw [dropK_neg e, List.length_cons, List.length_cons]
      omega
end

end L2

set_option Elab.async false
set_option linter.all false
set_option maxRecDepth 100000
set_option maxHeartbeats 4000000
namespace L2
open PySem PySem.Spec PyProof.Rows
section
variable {X : Cx}
theorem getD_of {α : Type} {xs : List α} {d : α} {j : Nat} (h : j < xs.length) : xs.getD j d = xs[j] := by
  rw [List.getD_eq_getElem?_getD, List.getElem?_eq_getElem h]; rfl
theorem all_at {f : V → Bool} {xs : List V} (h : xs.all f = true) {j : Nat} (hj : j < xs.length) : f (xs.getD j .non) = true := by
  rw [getD_of hj]
  exact List.all_eq_true.mp h _ (List.getElem_mem hj)
theorem rel_at {xs : List V} {us : List Value} (r : Vals xs us) {j : Nat} (hj : j < us.toArray.size) : RelV (xs.getD j .non) (us.toArray[j]) := by
  have hl := r.length
  have hj' : j < us.length := by simpa using hj
  have hx : j < xs.length := by omega
  obtain ⟨u, h1, h2⟩ := r.get (i := j) (x := xs[j]) (List.getElem?_eq_getElem hx)
  rw [getD_of hx]
  have : us.toArray[j] = us[j] := by simp
  rw [this]
  rw [List.getElem?_eq_getElem hj'] at h1
  cases h1
  exact h2
end
end L2

set_option Elab.async false
set_option linter.all false
set_option maxRecDepth 100000
set_option maxHeartbeats 4000000
namespace L2
open PySem PySem.Spec PyProof.Rows
section
variable {X : Cx}
/-- isinstance(x, T), T a built-in -/
noncomputable def rIsi (K : PySem.W.Frag) : List V → Hp → VK → Prop := fun xs H Q => ∃ x t T b, xs = [x, .ty T] ∧ TyOf K H x t ∧ PySem.W.kitOne K t (.type T) = some b ∧ Q (.bl b) H
theorem call_isi : CallR X (.builtin "isinstance") (rIsi X.K) := by
  intro pins s σ H xs us Q I r h
  obtain ⟨x, t, T, b, rfl, ty, e, q⟩ := h
  obtain ⟨u, w', rfl, rx, rt⟩ := vals2 r
  obtain rfl : w' = Value.type T := rt
  exact isinst_ok I rx ty e fun tk => ⟨.bl b, H, I.tok _, rfl, q⟩
example (K : PySem.W.Frag) : PySem.W.kitOne K (.type "int") (.type "bool") = some false := by rfl
example (K : PySem.W.Frag) : PySem.W.kitOne K (.type "tuple") (.type "tuple") = some true := by rfl
example (K : PySem.W.Frag) : PySem.W.kitOne K (.type "int") (.type "int") = some true := by rfl
/-- xs.count(y), flat -/
noncomputable def rCount : V → List V → Hp → VK → Prop := fun x vs H Q => ∃ l xs y, x = .ref l ∧ vs = [y] ∧ H l = some (.lst xs) ∧ xs.all flatV = true ∧ flatV y = true ∧ Q (.int (xs.countP fun z => eqV z y : Nat)) H
theorem countP_rel {x : V} : ∀ {xs : List V} {us : List Value}, Vals xs us → xs.all flatV = true → us.countP (eqU x) = xs.countP fun z => eqV z x
  | _, _, .nil, _ => rfl
  | y :: xs, u :: us, .cons r t, f => by
    have f' : flatV y = true ∧ xs.all flatV = true := by simpa using f
    rw [List.countP_cons, List.countP_cons, countP_rel t f'.2, eqU_of r f'.1]
theorem vals_mem : ∀ {xs : List V} {us : List Value} {u : Value}, Vals xs us → u ∈ us → ∃ y ∈ xs, RelV y u
  | _, _, _, .nil, h => by simp at h
  | y :: xs, w :: us, u, .cons r t, h => by
    rcases List.mem_cons.mp h with rfl | h
    · exact ⟨y, by simp, r⟩
    · obtain ⟨z, hz, rz⟩ := vals_mem t h
      exact ⟨z, by simp [hz], rz⟩
theorem mt_count : MtR X "list.count" rCount := by
  intro pins s σ H x vs v us Q I rx rv h
  obtain ⟨l, xs, y, rfl, rfl, hH, fx, fy, q⟩ := h
  cases rx
  obtain ⟨u, rfl, ru⟩ := rv.one
  obtain ⟨z, its, n, r, hl, e⟩ := I.lstM hH
  refine call_meets F.slot_list_count ⟨_, e, rfl⟩ F.entry_list_count (F.args_list_count_2 _ _) (SeqAt.list_countAt l its.toArray n none #[] u (eqU y)) ⟨e, fun w hw => ?_, ?_⟩
  · obtain ⟨y', hy, ry⟩ := vals_mem r (by simpa using hw)
    have fy' : flatV y' = true := List.all_eq_true.mp fx _ hy
    rw [eqU_of ry fy']
    exact eqAt_V ry ru fy' fy
  · refine ⟨.int ((xs.countP fun z => eqV z y : Nat) : Int), H, I.tok _, ⟨s.toks, ?_⟩, q⟩
    rw [show (its.toArray.toList) = its from rfl, countP_rel r fx]
end
/-- a def that may be called by its name -/
structure Cal (P : Program) (w : World) (K : PySem.W.Frag) (mg : Str → Option Value) (base : Heap) (x : Str) (ps : List Str) (k : Nat) (sp : Sp) : Prop where
  ex : ∃ f fd, FnOk P w K mg base CX0 k f fd ps sp ∧ mg x = some (.ref f) ∧ PySem.W.keepIn K (.ref f) = true ∧ Binds K fd ps []
structure FunAt (K : PySem.W.Frag) (mg : Str → Option Value) (x : Str) (ps : List Str) (st : Stmt) : Prop where
  ex : ∃ f fd, Fun K x x st f fd ∧ mg x = some (.ref f) ∧ Binds K fd ps []
theorem FunAt.cal {P : Program} {w : World} {K : PySem.W.Frag} {mg : Str → Option Value} {base : Heap} {x : Str} {ps N : List Str} {st : Stmt} {k : Nat} {sp : Sp} (F : FunAt K mg x ps st) (S : FnScope N ps (defScope st)) (len : ∀ vs H Q E, sp vs H Q E → vs.length = ps.length)
    (hbody : ∀ (f : Addr) (cdv : Value) (A : Around) (outer : List Env) (s : Shared) (H : Hp) (vs : List V) (Q : VK) (E : XK), Room k (A.deeper (envOfC x (defScope st) s.heap.objs.size f cdv)) → sp vs H Q E →
      ∃ t, PSs (cxOf CX0 P w K mg base N x (defScope st) f cdv A outer s H E).nox (defBody st) t ∧ t { nx := fun _ H' => Q .non H', rt := Q } (start N vs) H) : Cal P w K mg base x ps (k + 1) sp := by
  obtain ⟨f, fd, F1, m, b⟩ := F.ex
  exact ⟨f, fd, F1.ok S len (hbody f), m, F1.kp, b⟩
section
variable {X : Cx} {x : Str} {ps : List Str} {k : Nat} {sp : Sp} {e : Expr} {es : List Expr} {t : TA} {p pos : Pos}
theorem cc (c : Cal X.prog X.w X.K X.mg X.base x ps k sp) (hr : Room k X.A) (ha : PA X (e :: es) t) (hg : Gl X x := by rfl) (hd : (x == ("__debug__" : Str)) = false := by decide)
    (hs : starEach (e :: es) X.env = (false, eval e X.env) :: starEach es X.env := by rfl) (hp : (backTo pos (starEach es X.env)).any (·.1) = false := by rfl) : PE X (.Call (.Name x p) (e :: es) [] pos) (tCall sp [] E0 t) := by
  obtain ⟨f, fd, F, m, kp, b⟩ := c.ex
  exact pe_call F hr hg m kp b .nil pass0 ha hd hs hp
end
theorem funAt_mk {K : PySem.W.Frag} {h : Heap} {mg : Str → Option Value} {x : Str} {ps : List Str} {st : Stmt} {f : Addr} {oc : Value} {od an : Option Addr} {osl : Array (Option Value)} {kV doc pm cdv ct : Value} (X : K.In h) (G : h.Ns mainGlobals mg)
    (hb : ∀ (kV doc pm : Value) (an : Option Addr) (cdv ct : Value) (us : List Value), us.length = ps.length → bindArgs (PySem.W.fnOf x x (defArgs st) (defBody st) (defScope st) .none kV doc pm an cdv ct) ⟨us, []⟩ = pure (ps.zip us))
    (a : PySem.W.nsIn K mainGlobals x = some (some (.ref f))) (l : K.lookup f = some ⟨oc, od, .func (PySem.W.fnOf x x (defArgs st) (defBody st) (defScope st) .none kV doc pm an cdv ct), osl⟩)
    (c : PySem.W.codeIn K cdv x = true) (k : PySem.W.keepIn K (.ref f) = true) : FunAt K mg x ps st :=
  let F := fun_mk (st := st) l c k
  ⟨f, _, F, PySem.W.mg_of X G a, F.binds hb⟩

theorem bt_abs : bootBuiltins "abs" = some (.builtin "abs") := by decide +kernel
theorem bt_len : bootBuiltins "len" = some (.builtin "len") := by decide +kernel
theorem bt_isinstance : bootBuiltins "isinstance" = some (.builtin "isinstance") := by decide +kernel
theorem bt_int : bootBuiltins "int" = some (.type "int") := by decide +kernel
theorem bt_bool : bootBuiltins "bool" = some (.type "bool") := by decide +kernel
theorem bt_tuple : bootBuiltins "tuple" = some (.type "tuple") := by decide +kernel
theorem bt_list : bootBuiltins "list" = some (.type "list") := by decide +kernel
/-! ### shares in the heap -/
open MA
theorem same_new {H : Hp} {p : Addr} (h : H p = none) (o : HO) : Same H (upd H p o) := fun b u q => by rw [upd_ne (ne_of_none q h)]; exact q
/-- all but the thing at p is as it was -/
noncomputable def penL (c : Addr) (a l : Int) : List (Key × V) := [(.inr "cells", .ref c), (.inr "at", .int a), (.inr "left", .int l)]
/-- .. and that thing is a pen that keeps its cells -/
structure SameX (p : Addr) (H H' : Hp) : Prop where
  all : ∀ b o, H b = some o → b ≠ p → H' b = some o
  pen : ∀ c a l, H p = some (.dK (penL c a l)) → ∃ a' l', H' p = some (.dK (penL c a' l'))
theorem SameX.trans {p : Addr} {H H1 H2 : Hp} (a : SameX p H H1) (b : SameX p H1 H2) : SameX p H H2 :=
  ⟨fun c o h n => b.all c o (a.all c o h n) n, fun c x l h => let ⟨x', l', h'⟩ := a.pen c x l h; b.pen c x' l' h'⟩
theorem Same.x {p : Addr} {H H' : Hp} (a : Same H H') : SameX p H H' := ⟨fun b o h _ => a b o h, fun _ x l h => ⟨x, l, a _ _ h⟩⟩
theorem SameX.upd {p c : Addr} {H : Hp} {a l a' l' : Int} (h : H p = some (.dK (penL c a l))) : SameX p H (upd H p (.dK (penL c a' l'))) :=
  ⟨fun b o e hb => by rw [upd_ne hb]; exact e, fun c' x y e => by rw [h] at e; cases e; exact ⟨a', l', upd_same⟩⟩
end L2

set_option Elab.async false
set_option linter.all false
set_option maxRecDepth 100000
set_option maxHeartbeats 4000000
namespace L2
open PySem PySem.Spec PyProof.Rows
/-! ### a list comprehension of one clause -/
theorem closure_go {env : Env} : ∀ (ns : List (Str × NameKind)) (cs : List (Str × Addr)), (∀ x ∈ ns, x.2 = .free → ∃ c, env.cells.lookup x.1 = some c) → (∀ x c, cs.lookup x = some c → env.cells.lookup x = some c) →
    ∃ cl, (forIn ns cs (fun (p : Str × NameKind) (r : List (Str × Addr)) => if (p.2 == NameKind.free) = true then (do let c ← cellOf env p.1; pure (ForInStep.yield ((p.1, c) :: r))) else pure (ForInStep.yield r)) : Sem (List (Str × Addr))) = pure cl ∧
      (∀ x c, cl.lookup x = some c → env.cells.lookup x = some c) ∧ (∀ x, (x, NameKind.free) ∈ ns → ∃ c, cl.lookup x = some c) ∧ (∀ x c, cs.lookup x = some c → ∃ c', cl.lookup x = some c')
  | [], cs, _, hcs => ⟨cs, rfl, hcs, fun _ h => (by simp at h), fun x c h => ⟨c, h⟩⟩
  | (n, k) :: r, cs, hall, hcs => by
    by_cases hk : k = .free
    · subst hk
      obtain ⟨c, hc⟩ := hall (n, .free) (by simp) rfl
      have hce : cellOf env n = pure c := by unfold cellOf; rw [hc]
      have hcs' : ∀ x d, ((n, c) :: cs).lookup x = some d → env.cells.lookup x = some d := fun x d h => by
        rw [List.lookup_cons] at h
        cases e : x == n with
        | true => rw [e] at h; cases h; rw [eq_of_beq e]; exact hc
        | false => rw [e] at h; exact hcs x d h
      obtain ⟨cl, e, h1, h2, h3⟩ := closure_go r ((n, c) :: cs) (fun x hx => hall x (by simp [hx])) hcs'
      refine ⟨cl, ?_, h1, fun x hx => ?_, fun x d hd => ?_⟩
      · rw [List.forIn_cons, ← e]
        show (cellOf env n >>= _) >>= _ = _
        rw [hce]
        rfl
      · rcases List.mem_cons.mp hx with z | z
        · cases z
          exact h3 n c (by simp)
        · exact h2 x z
      · cases q : x == n with
        | true => exact h3 x c (by rw [List.lookup_cons, q])
        | false => exact h3 x d (by rw [List.lookup_cons, q]; exact hd)
    · obtain ⟨cl, e, h1, h2, h3⟩ := closure_go r cs (fun x hx => hall x (by simp [hx])) hcs
      refine ⟨cl, ?_, h1, fun x hx => ?_, h3⟩
      · rw [List.forIn_cons, ← e]
        have : (k == NameKind.free) = false := by simpa using hk
        simp only [this, Bool.false_eq_true, if_false]
        rfl
      · rcases List.mem_cons.mp hx with z | z
        · cases z
          exact absurd rfl hk
        · exact h2 x z
theorem closure_of {env : Env} {scope : Scope} (hall : ∀ x ∈ scope.names, x.2 = .free → ∃ c, env.cells.lookup x.1 = some c) :
    ∃ cl, closureFor scope env = pure cl ∧ (∀ x c, cl.lookup x = some c → env.cells.lookup x = some c) ∧ (∀ x, (x, NameKind.free) ∈ scope.names → ∃ c, cl.lookup x = some c) := by
  obtain ⟨cl, e, h1, h2, _⟩ := closure_go (env := env) scope.names [] hall (fun x c h => by simp at h)
  refine ⟨cl, ?_, h1, h2⟩
  simp only [closureFor]
  rw [e]
  rfl
/-- the block of a comprehension -/
noncomputable def cxComp (X : Cx) (scope : Scope) (N : List Str) (cl : List (Str × Addr)) (C : Addr) (s : Shared) (H : Hp) (ex : List Addr) : Cx :=
  { X with N := N, s₀ := s, H₀ := H, env := compEnvC scope cl C X.env, outer := X.stack, stack := X.stack, ex := ex, fn := fun _ => false, pn := [] }
noncomputable def PTs (X : Cx) (ifs : List Expr) (t : TT) : Prop :=
  ∀ (pins : List (Addr × Obj)) (s : Shared) (σ : St) (H : Hp) (Q : Bool → Hp → Prop), Inv X pins σ H s → t σ H Q →
    wpAny (model X.prog X.w) X.A (forIn ifs true fun c r => if r = true then do let ok ← isTrue c X.env (eval c X.env); pure (ForInStep.yield ok) else pure (ForInStep.yield r)) (TP X pins σ Q) X.xe s
noncomputable def tTT : TT := fun _ H Q => Q true H
theorem pts_nil {X : Cx} : PTs X [] tTT := fun pins s σ H Q I h => wpAny_tests_nil ⟨H, I, h⟩
theorem pts_one {X : Cx} {c : Expr} {t : TT} (h : PT X c t) : PTs X [c] t := fun pins s σ H Q I hw => wpAny_tests_one (h pins s σ H Q I hw)
noncomputable def tComp (σ0 : St → St) (wi : TI) (g : TG) (tc : TT) (te : TE) : TE := fun σ H Q => wi σ H fun J H1 => ∀ p, H1 p = none → ∃ W : Nat → Nat → List V → St → Hp → Prop, (∃ m, W 0 m [] (σ0 σ) (upd H1 p (.lst []))) ∧ ∀ i m ys σ' H', W i m ys σ' H' →
  (J.stop i H' ∧ Q (.ref p) H') ∨ (J.go i H' ∧ ∀ x H2, J.yld i H' x H2 → g x σ' H2 fun σ2 H3 => tc σ2 H3 fun b H4 => if b = true then te σ2 H4 fun v H5 => ys.length < sizeLine ∧ H5 p = some (.lst ys) ∧ (∃ m', m' < m ∧ W (i + 1) m' (ys ++ [v]) σ2 (upd H5 p (.lst (ys ++ [v]))))
    else ∃ m', m' < m ∧ W (i + 1) m' ys σ2 H4)
/-- which of the def's values the block sees -/
noncomputable def Sees (X : Cx) (scope : Scope) (N : List Str) (σ0 : St → St) : Prop :=
  ∀ σ : St, (σ0 σ).length = N.length ∧ ∀ (i : Nat) (x : Str) (v : V), N[i]? = some x → (σ0 σ)[i]? = some (some v) → scope.names.lookup x = some .free ∧ ∃ j : Nat, X.N[j]? = some x ∧ σ[j]? = some (some v)
theorem lookup_relabel_mem {env : Env} {names : List (Str × NameKind)} {x : Str} : ∀ {k}, (names.map fun (n, k) => if (k == NameKind.free && env.scope.kind == .function && env.kindOf n == some .cell) = true then (n, NameKind.cell) else (n, k)).lookup x = some k → (x, k) ∈ names ∨ (k = .cell ∧ (x, NameKind.free) ∈ names) := by
  induction names with
  | nil => intro k h; simp at h
  | cons a r ih =>
    intro k h
    obtain ⟨n, k0⟩ := a
    rw [List.map_cons] at h
    dsimp only at h
    by_cases hc : (k0 == NameKind.free && env.scope.kind == .function && env.kindOf n == some .cell) = true
    · rw [if_pos hc] at h
      have hk0 : k0 = .free := by
        simp only [Bool.and_eq_true, beq_iff_eq] at hc
        exact hc.1.1
      rw [List.lookup_cons] at h
      cases e : x == n with
      | true =>
        rw [e] at h
        cases h
        exact .inr ⟨rfl, by rw [eq_of_beq e, hk0]; simp⟩
      | false =>
        rw [e] at h
        rcases ih h with z | ⟨z1, z2⟩
        · exact .inl (List.mem_cons_of_mem _ z)
        · exact .inr ⟨z1, List.mem_cons_of_mem _ z2⟩
    · rw [if_neg hc] at h
      rw [List.lookup_cons] at h
      cases e : x == n with
      | true =>
        rw [e] at h
        cases h
        exact .inl (by rw [eq_of_beq e]; simp)
      | false =>
        rw [e] at h
        rcases ih h with z | ⟨z1, z2⟩
        · exact .inl (List.mem_cons_of_mem _ z)
        · exact .inr ⟨z1, List.mem_cons_of_mem _ z2⟩
theorem lookup_relabel_free {env : Env} {x : Str} : ∀ {names : List (Str × NameKind)}, names.lookup x = some .free →
    (names.map fun (n, k) => if (k == NameKind.free && env.scope.kind == .function && env.kindOf n == some .cell) = true then (n, NameKind.cell) else (n, k)).lookup x = some .cell ∨ (names.map fun (n, k) => if (k == NameKind.free && env.scope.kind == .function && env.kindOf n == some .cell) = true then (n, NameKind.cell) else (n, k)).lookup x = some .free
  | [], h => by simp at h
  | (n, k0) :: r, h => by
    rw [List.lookup_cons] at h
    rw [List.map_cons]
    dsimp only
    cases e : x == n with
    | true =>
      rw [e] at h
      cases h
      by_cases hc : (NameKind.free == NameKind.free && env.scope.kind == .function && env.kindOf n == some .cell) = true
      · rw [if_pos hc]; left; rw [List.lookup_cons, e]
      · rw [if_neg hc]; right; rw [List.lookup_cons, e]
    | false =>
      rw [e] at h
      have ih := lookup_relabel_free (env := env) h
      by_cases hc : (k0 == NameKind.free && env.scope.kind == .function && env.kindOf n == some .cell) = true
      · rw [if_pos hc, List.lookup_cons, e]; exact ih
      · rw [if_neg hc, List.lookup_cons, e]; exact ih
theorem mem_of_lookupF {x : Str} {k : NameKind} : ∀ {names : List (Str × NameKind)}, names.lookup x = some k → (x, k) ∈ names := fun h => PySem.mem_of_lookup h
theorem pe_comp {X : Cx} {elt tg iter : Expr} {ifs : List Expr} {scope : Scope} {pos : Pos} {wi : TI} {g : TG} {tc : TT} {te : TE} {N : List Str} {σ0 : St → St}
    (hc : X.calm = true) (hxe : ∀ e s, X.xe e s → False) (hcell : ∀ y ∈ scope.names, y.2 ≠ .cell) (hkind : scope.kind = .function) (hnames : ∀ y ∈ scope.names, y.2 = .local → scope.names.lookup y.1 = some .local)
    (hfr : ∀ y ∈ scope.names, y.2 = .free → X.env.kindOf y.1 = some .cell ∨ X.env.kindOf y.1 = some .free) (hσ : Sees X scope N σ0)
    (hi : PI X tg iter wi)
    (hg : ∀ cl C s H ex, PG (cxComp X scope N cl C s H ex) tg g) (ht : ∀ cl C s H ex, PTs (cxComp X scope N cl C s H ex) ifs tc) (he : ∀ cl C s H ex, PE (cxComp X scope N cl C s H ex) elt te)
    (hs : ∀ x, foldedSetIterable iter X.env x = pure x := by intro _; rfl) : PE X (.ListComp elt [⟨tg, iter, ifs, 0⟩] scope pos) (tComp σ0 wi g tc te) := by
  intro pins s σ H Q I h
  obtain ⟨cl, hclos, hcl1, hcl2⟩ := closure_of (env := X.env) (scope := scope) fun y hy hf => I.ok.has y.1 (hfr y hy hf)
  rw [eval_ListComp]
  refine wpAny_comprehension_free (use := none) rfl hs hclos hkind hnames (thn (hi pins s σ H _ I h) fun v s1 h1 => thn h1 fun itv s2 h2 => ?_)
  obtain ⟨it, fp, tn, J, H2, e, I2, T, st2, f2, h3⟩ := h2
  subst e
  have hpn : H2 s2.heap.objs.size = none := I2.hok.fresh (Nat.le_refl _)
  obtain ⟨W, ⟨m0, w0⟩, turn⟩ := h3 _ hpn
  refine wpAny_newObj_type ?_
  generalize hp : s2.heap.objs.size = p at *
  have I3 : Inv X pins σ (upd H2 p (.lst [])) { s2 with heap := s2.heap.push { cls := .type "list", dict := none, data := .seq ([] : List Value).toArray } } := by
    refine I2.laid (a := p) (o := .lst []) (t' := s2.toks) (fun b u q => Heap.get?_push_of_some _ q) (Nat.le_of_eq hp) ⟨Nat.zero_le _, [], 0, .nil, ?_⟩
    rw [← hp]
    exact Heap.get?_push_size _ rfl
  have hf3 : ∀ b ∈ fp, FpOk X pins (upd H2 p (.lst [])) b := fun b hb => by
    obtain ⟨o, ho, _⟩ := T.obj _ _ st2 b hb
    have : b ≠ p := by rw [← hp]; exact Nat.ne_of_lt (Heap.lt_size ho)
    exact ⟨by rw [upd_ne this]; exact (f2 b hb).1, (f2 b hb).2⟩
  generalize hs3 : ({ s2 with heap := s2.heap.push { cls := .type "list", dict := none, data := .seq ([] : List Value).toArray } } : Shared) = s3 at *
  have st3 : tn 0 s3.heap := by rw [← hs3]; exact T.keep _ _ _ st2 fun b _ o e => Heap.get?_push_of_some _ e
  generalize hH3 : upd H2 p (.lst []) = H3 at *
  refine wpAny_newFunctionEnv hcell (by intro y hy; simp at hy) (fun h1 hns1 hsb1 => ?_) hkind
  generalize hC : s3.heap.objs.size = C at *
  have keep : ∀ b u, s3.heap.get? b = some u → h1.get? b = some u := fun b u q =>
    hsb1.extBut b u (by rw [← hC]; exact Nat.ne_of_lt (Heap.lt_size q)) (Heap.get?_push_of_some _ q)
  have fpC : ∀ b ∈ fp, b ≠ C := fun b hb => by
    obtain ⟨o, ho, _⟩ := T.obj _ _ st3 b hb
    rw [← hC]; exact Nat.ne_of_lt (Heap.lt_size ho)
  have hCn : H3 C = none := I3.hok.fresh (Nat.le_of_eq hC)
  -- the block's own invariant, at its entry
  have ok' : (cxComp X scope N cl C s3 H3 fp).Ok := by
    refine ⟨I3.mod, hkind, I3.ok.glob, I3.ok.blt, Nat.le_of_eq hC, fun x y c a b => I3.ok.inj x y c (hcl1 x c a) (hcl1 y c b), fun x hx => ?_, fun _ _ z => Bool.noConfusion (show false = true from z), I3.ok.hd, I3.ok.frames, .inl rfl, fun b hb => ⟨fpC b hb, fun x c q => (hf3 b hb).2.2.2.2.1 x c (hcl1 x c q)⟩,
      I3.bs, Nat.le_trans I3.ok.bsz I3.sz, fun b o e hb => ?_, fun b hb z => ?_, I3.stack, I3.stkFree⟩
    · have hx' : (relabel scope X.env).names.lookup x = some .cell ∨ (relabel scope X.env).names.lookup x = some .free := hx
      rcases hx' with z | z
      · rcases lookup_relabel_mem z with y | ⟨_, y⟩
        · exact absurd rfl (hcell _ y)
        · exact hcl2 x y
      · rcases lookup_relabel_mem z with y | ⟨y, _⟩
        · exact hcl2 x y
        · cases y
    · rcases (hf3 b hb).2.2.2.1 with z | z
      · exact I3.ok.noex b o e z
      · exact absurd (Nat.lt_of_lt_of_le (Heap.lt_size e) (Nat.le_trans I3.ok.bsz z)) (Nat.lt_irrefl _)
    · rcases List.mem_cons.mp (I3.stkSub b z) with q | q
      · exact (hf3 b hb).2.1 q
      · exact (hf3 b hb).2.2.1 q
  have J0 : Inv (cxComp X scope N cl C s3 H3 fp) [] (σ0 σ) H3 { s3 with heap := h1, toks := s3.toks + ([] : List (Str × Value)).length } := by
    refine ⟨ok', rfl, I3.bare, Un.kept keep, ⟨_, hns1, fun i x v a b c => ?_⟩, fun x c q => ?_, hCn, fun x c q => I3.freeC x c (hcl1 x c q), fun q hq => absurd (show q ∈ ([] : List (Addr × Obj)) from hq) (by simp), I3.hok.kept keep, (hσ σ).1⟩
    · obtain ⟨hf, j, hj, hv⟩ := (hσ σ).2 i x v a b
      have hm := mem_of_lookupF hf
      obtain ⟨m, hn, hl⟩ := id I3.loc
      have hk := hfr _ hm rfl
      have hvis : Vis X.env.scope x := hk.elim (fun z => .inr (.inl z)) fun z => .inr (.inr z)
      obtain ⟨u, r, lk⟩ := hl j x v hj hv hvis
      refine ⟨u, r, .inr ⟨lookup_relabel_free hf, ?_⟩⟩
      obtain ⟨c', hc'⟩ := hcl2 x hm
      refine ⟨c', hc', ?_⟩
      have hx := hcl1 x c' hc'
      rcases lk with ⟨kl, _⟩ | ⟨_, c2, e2, o2, ho2, hd2⟩
      · rcases hk with z | z <;> rw [kl] at z <;> cases z
      · rw [hx] at e2
        cases e2
        exact ⟨o2, keep _ _ ho2, hd2⟩
    · obtain ⟨v, o, ho, hd⟩ := I3.cell x c (hcl1 x c q)
      exact ⟨v, o, keep _ _ ho, hd⟩
  have st4 : tn 0 h1 := T.keep _ _ _ st3 fun b _ o e => keep b o e
  have stat : ∀ {H' : Hp}, (∀ b ∈ fp, H' b = none) → ∀ b ∈ fp, FpOk (cxComp X scope N cl C s3 H3 fp) [] H' b := fun hn b hb =>
    ⟨hn b hb, fpC b hb, fun z => ok'.exfs b hb z, .inl hb, fun x c q => (hf3 b hb).2.2.2.2.1 x c (hcl1 x c q), fun q hq => absurd (show q ∈ ([] : List (Addr × Obj)) from hq) (by simp)⟩
  -- back to the def
  have back : ∀ {σ' : St} {H' : Hp} {s' : Shared} {pl : List (Addr × Obj)}, Inv (cxComp X scope N cl C s3 H3 fp) pl σ' H' s' → ∀ h', Heap.SameBut C s'.heap h' → Inv X pins σ H' { s' with heap := h' } := fun {σ' H' s' pl} J h' hsb => by
    have I5 : Inv X pins σ H' s' := Inv.call' (ch := fp) I3 J.os J.base J.hok J.bare fun b hb => ⟨(hf3 b hb).2.2.2.1, (hf3 b hb).2.1, (hf3 b hb).2.2.2.2.1, (hf3 b hb).2.2.2.2.2⟩
    refine Inv.turned (it := C) (t' := s'.toks) I5 (fun b o hb e => hsb.extBut b o hb e) J.free (fun z => ?_) (.inr ?_) (fun x c q z => ?_) fun q hq z => ?_
    · exact absurd (show X.env.locals < C by rw [← hC]; exact I3.lt) (by rw [z]; exact Nat.lt_irrefl _)
    · rw [← hC]; exact I3.sz
    · obtain ⟨v, o, ho, _⟩ := I3.cell x c q
      have := Heap.lt_size ho
      rw [z, hC] at this
      exact Nat.lt_irrefl _ this
    · have := Heap.lt_size (I3.pin q hq).1
      rw [z, hC] at this
      exact Nat.lt_irrefl _ this
  have loop : codeAny (model X.prog X.w) X.A (.compLoop (.ListComp elt [⟨tg, iter, ifs, 0⟩] scope pos) 0 (.ref it) (.ref p) (compEnvC scope cl C X.env)) (compPost (model X.prog X.w) X.A X.xe none (EP X pins σ Q) (.ref p) C) { s3 with heap := h1, toks := s3.toks + ([] : List (Str × Value)).length } := by
    refine codeAny_loop rfl (fun n s' => ∃ i ys σ' H', Inv (cxComp X scope N cl C s3 H3 fp) [] σ' H' s' ∧ tn i s'.heap ∧ (∀ b ∈ fp, H' b = none) ∧ W i n ys σ' H') (fun n s' hI => ?_) m0 ⟨0, [], σ0 σ, H3, J0, st4, fun b hb => (hf3 b hb).1, w0⟩
    obtain ⟨i, ys, σ', H', J', st', fr', w'⟩ := hI
    show wpAny _ X.A ((compTurn (.ListComp elt [⟨tg, iter, ifs, 0⟩] scope pos) 0 (.ref it) (.ref p) (compEnvC scope cl C X.env)).onRaise (fun x => do noteFrame x (compEnvC scope cl C X.env); theTreesLotGoes x)) _ _ s'
    refine wpAny_noted ?_
    rw [compTurn_list]
    rcases turn i n ys σ' H' w' with ⟨stop, q⟩ | ⟨go, step⟩
    · refine wpAny_bind (wpAny_standAt (wpAny_bind (wpAny_mono (T.done (cxComp X scope N cl C s3 H3 fp) rfl rfl rfl hc i [] s' σ' H' X.xe J' (stat fr') st' stop) (fun r s4 h4 => ?_) fun _ _ x => (hxe _ _ x).elim)))
      obtain ⟨hr, I4⟩ := h4
      subst hr
      refine wpAny_pure ?_
      obtain ⟨m, hn, _⟩ := id I4.loc
      exact ⟨m, hn, fun h' hsb => ⟨.ref p, H', back I4 h' hsb, rfl, q⟩⟩
    · refine wpAny_bind (wpAny_standAt (wpAny_bind (wpAny_mono (T.item (cxComp X scope N cl C s3 H3 fp) rfl rfl rfl hc i [] s' σ' H' X.xe J' (stat fr') st' go) (fun r s4 h4 => ?_) fun _ _ x => (hxe _ _ x).elim)))
      obtain ⟨u, hr, h4⟩ := h4
      subst hr
      refine wpAny_bind (wpAny_mono h4 (fun _ s5 h5 => ?_) fun _ _ x => (hxe _ _ x).elim)
      obtain ⟨x, H5, I5, r5, y5, st5, fr5⟩ := h5
      have I5' := I5.pinned (stat fr5) (T.obj _ _ st5)
      refine wpAny_bind (wpAny_mono (hg cl C s3 H3 fp _ s5 σ' H5 x u _ I5' r5 (step x H5 y5)) (fun _ s6 h6 => ?_) fun _ _ x => (hxe _ _ x).elim)
      obtain ⟨σ6, H6, I6, q6⟩ := h6
      have again : ∀ {σ7 : St} {H7 : Hp} {s7 : Shared} {ys7 : List V}, Inv (cxComp X scope N cl C s3 H3 fp) ([] ++ pinsAt fp s5.heap) σ7 H7 s7 → (∃ m', m' < n ∧ W (i + 1) m' ys7 σ7 H7) →
          ∃ m, m < n ∧ ∃ i ys σ' H', Inv (cxComp X scope N cl C s3 H3 fp) [] σ' H' s7 ∧ tn i s7.heap ∧ (∀ b ∈ fp, H' b = none) ∧ W i m ys σ' H' := fun {σ7 H7 s7 ys7} I7 n7 => by
        obtain ⟨m', hm, w7⟩ := n7
        refine ⟨m', hm, i + 1, ys7, σ7, H7, I7.unpinned, T.keep _ _ _ st5 fun b hb o e => (I7.pin (b, o) (List.mem_append_right _ (List.mem_append_right _ (mem_pinsAt hb e)))).1, fun b hb => ?_, w7⟩
        obtain ⟨o, e, d⟩ := T.obj _ _ st5 b hb
        exact (I7.pin (b, o) (List.mem_append_right _ (List.mem_append_right _ (mem_pinsAt hb e)))).2.1
      refine wpAny_bind (wpAny_mono (ht cl C s3 H3 fp _ s6 σ6 H6 _ I6 q6) (fun ok s7 h7 => ?_) fun _ _ x => (hxe _ _ x).elim)
      obtain ⟨H7, I7, q7⟩ := h7
      cases ok with
      | false =>
        rw [if_neg Bool.false_ne_true] at q7
        exact wpAny_pure ⟨rfl, again I7 q7⟩
      | true =>
        rw [if_pos rfl] at q7
        refine wpAny_bind (wpAny_bind (wpAny_mono (he cl C s3 H3 fp _ s7 σ6 H7 _ I7 q7) (fun y s8 h8 => ?_) fun _ _ x => (hxe _ _ x).elim))
        obtain ⟨v, H8, I8, r8, hz, hH8, w8⟩ := h8
        refine wpAny_bind (wpAny_mono (mt_append (X := cxComp X scope N cl C s3 H3 fp) _ s8 σ6 H8 (.ref p) [v] (.ref p) [y] (fun x H9 => x = .non ∧ H9 = upd H8 p (.lst (ys ++ [v]))) I8 rfl (.cons r8 .nil) ⟨p, ys, v, rfl, rfl, hH8, hz, rfl, rfl⟩) (fun _ s9 h9 => ?_) fun _ _ x => (hxe _ _ x).elim)
        obtain ⟨z, H9, I9, _, _, e9⟩ := h9
        subst e9
        exact wpAny_pure (wpAny_pure ⟨rfl, again I9 w8⟩)
  exact codeAny_compStart_list loop (T.self X.A 0 _ _ _ st4 loop)
end L2
namespace L2
open PySem PySem.Spec PyProof.Rows
theorem bt_all : bootBuiltins "all" = some (.builtin "all") := by decide +kernel
theorem range_all (bs : List Bool) (n : Nat) (h : bs.length = n) : (List.range n).all (fun i => bs.getD i false) = bs.all id := by
  subst h
  rw [Bool.eq_iff_iff, List.all_eq_true, List.all_eq_true]
  constructor
  · intro h x hx
    obtain ⟨i, hi, e⟩ := List.mem_iff_getElem.mp hx
    have := h i (by simpa using hi)
    rw [getD_of hi, e] at this
    exact this
  · intro h i hi
    have hi' : i < bs.length := by simpa using hi
    rw [getD_of hi']
    exact h _ (List.getElem_mem hi')
section
variable {X : Cx}
/-- all(xs), xs a list of truths -/
noncomputable def rAll : List V → Hp → VK → Prop := fun xs H Q => ∃ (l : Addr) (bs : List Bool), xs = [.ref l] ∧ H l = some (.lst (bs.map V.bl)) ∧ Q (.bl (bs.all id)) H
theorem call_all (hc : X.calm = true) : CallR X (.builtin "all") rAll := by
  intro pins s σ H xs us Q I r h
  obtain ⟨l, bs, rfl, hl, q⟩ := h
  obtain ⟨u, rfl, ru⟩ := vals1 r
  cases ru
  obtain ⟨its, rv, p, hz⟩ := I.list (SqL.of hl)
  have hlt : l < s.heap.objs.size := I.hok.lt hl
  have hlen : bs.length = its.length := by have := rv.length; rwa [List.length_map] at this
  refine call_all_walk (wpAny_pyIter_list p.isList ?_)
  refine ⟨s.heap.objs.size, _, _, _, _, _, fun i => bs.getD i false, rfl, Walks.list (A := X.A.in1) (show X.A.in1.handled = none from I.ok.hd hc) s.heap.objs.size l (Nat.ne_of_lt hlt) its.toArray, ⟨⟨_, Heap.get?_push_size _ rfl, rfl, rfl⟩, ?_⟩, ?_, fun h' tk hk => ?_⟩
  · exact p.isList.at fun o e => Heap.get?_push_of_some _ e
  · intro i v s' Q' E' hv hQ
    have hi : i < its.length := by
      have := (Array.getElem?_eq_some_iff.mp hv).1
      simpa using this
    have hb : (bs.map V.bl)[i]? = some (.bl (bs.getD i false)) := by
      rw [List.getElem?_map, List.getElem?_eq_getElem (by omega), getD_of (by omega)]; rfl
    obtain ⟨u, hu, ru⟩ := rv.get hb
    have : v = u := by
      rw [List.getElem?_toArray, hu] at hv
      exact (Option.some.inj hv).symm
    subst this
    obtain rfl : v = Value.bool (bs.getD i false) := ru
    exact wpAny_pure hQ
  · refine ⟨.bl (bs.all id), H, I.kept (t' := tk) fun b o e => hk b o ?_ (Heap.get?_push_of_some _ e), ?_, q⟩
    · intro z
      have : b = s.heap.objs.size := by simpa using z
      subst this
      exact Nat.lt_irrefl _ (Heap.lt_size e)
    · show Value.bool _ = Value.bool _
      rw [range_all bs its.toArray.size (by simpa using hlen)]
end
end L2

set_option Elab.async false
set_option linter.all false
set_option maxRecDepth 100000
set_option maxHeartbeats 4000000
namespace L2
open PySem PySem.Spec PyProof.Rows
end L2
namespace L2
open MA
end L2
namespace My
open PySem L2 MA
section
variable {P : Program} {w : World} {K : PySem.W.Frag} {mg : Str → Option Value} {base : Heap}
structure Txt (mg : Str → Option Value) : Prop where
  z_abs : mg "abs" = none
  z_len : mg "len" = none
  z_isinstance : mg "isinstance" = none
  z_range : mg "range" = none
  z_int : mg "int" = none
  z_bool : mg "bool" = none
  z_tuple : mg "tuple" = none
  z_list : mg "list" = none
  z_all : mg "all" = none
theorem Paired.at' {α β : Type} {R : α → β → Prop} : ∀ {xs : List α} {ys : List β} {i : Nat} {x : α}, Paired R xs ys → xs[i]? = some x → ∃ y, ys[i]? = some y ∧ R x y
  | _, _, _, _, .nil, e => by simp at e
  | _, _, 0, _, .cons r _, e => by simp at e; subst e; exact ⟨_, rfl, r⟩
  | _, _, i + 1, x, .cons _ t, e => by
    obtain ⟨u, h1, h2⟩ := Paired.at' (i := i) (x := x) t (by simpa using e)
    exact ⟨u, by simpa using h1, h2⟩
/-- the pen: where it stands in the script, n draws at most so far -/
noncomputable def Pen (H : Hp) (p : Addr) (n : Nat) : Prop := ∃ (c : Addr) (ns : List Int) (a l : Int), H p = some (.dK (penL c a l)) ∧ H c = some (.lst (ns.map V.int)) ∧ 0 ≤ a ∧ a ≤ n
theorem Pen.mono {H : Hp} {p : Addr} {m n : Nat} (h : Pen H p m) (l : m ≤ n) : Pen H p n := let ⟨c, ns, a, x, h1, h2, h3, h4⟩ := h; ⟨c, ns, a, x, h1, h2, h3, by omega⟩
theorem Pen.same {H H' : Hp} {p : Addr} {n : Nat} (h : Pen H p n) (s : Same H H') : Pen H' p n := let ⟨c, ns, a, x, h1, h2, h3, h4⟩ := h; ⟨c, ns, a, x, s _ _ h1, s _ _ h2, h3, h4⟩
theorem Pen.dk {H : Hp} {p : Addr} {n : Nat} (h : Pen H p n) : ∃ kvs, H p = some (.dK kvs) := let ⟨c, ns, a, x, h1, _⟩ := h; ⟨_, h1⟩
theorem pen_cells (c : Addr) (a l : Int) : valV (penL c a l) (.inr "cells" : Key) = some (.ref c) := by rfl

theorem pen_at (c : Addr) (a l : Int) : valV (penL c a l) (.inr "at" : Key) = some (.int a) := by rfl
theorem pen_left (c : Addr) (a l : Int) : valV (penL c a l) (.inr "left" : Key) = some (.int l) := by rfl
theorem put_at (c : Addr) (a l b : Int) : putK (penL c a l) (.inr "at" : Key) (.int b) = penL c b l := by rfl
theorem put_left (c : Addr) (a l b : Int) : putK (penL c a l) (.inr "left" : Key) (.int b) = penL c a b := by rfl
theorem get_cells {H : Hp} {p c : Addr} {a l : Int} (h : H p = some (.dK (penL c a l))) : DGet H p (.str "cells") (some (.ref c)) := by
  have := DGet.k (k := (.inr "cells" : Key)) h; rw [pen_cells] at this; exact this
theorem get_at {H : Hp} {p c : Addr} {a l : Int} (h : H p = some (.dK (penL c a l))) : DGet H p (.str "at") (some (.int a)) := by
  have := DGet.k (k := (.inr "at" : Key)) h; rw [pen_at] at this; exact this
theorem get_left {H : Hp} {p c : Addr} {a l : Int} (h : H p = some (.dK (penL c a l))) : DGet H p (.str "left") (some (.int l)) := by
  have := DGet.k (k := (.inr "left" : Key)) h; rw [pen_left] at this; exact this
theorem dput_at {H : Hp} {p c : Addr} {a l b : Int} (h : H p = some (.dK (penL c a l))) : DPut H p (.str "at") (.int b) (upd H p (.dK (penL c b l))) := by
  have := DPut.k (k := (.inr "at" : Key)) (v := .int b) h (by show 3 < sizeLine; decide); rw [put_at] at this; exact this
theorem dput_left {H : Hp} {p c : Addr} {a l b : Int} (h : H p = some (.dK (penL c a l))) : DPut H p (.str "left") (.int b) (upd H p (.dK (penL c a b))) := by
  have := DPut.k (k := (.inr "left" : Key)) (v := .int b) h (by show 3 < sizeLine; decide); rw [put_left] at this; exact this
theorem prime_at (a : Int) : ∃ pr : Int, 0 < pr ∧ pr < 2147483648 ∧ atI ([.int 2147483647, .int 2147483629, .int 2147483587, .int 2147483579, .int 2147483563, .int 2147483549, .int 2147483543] : List V) (a % 7) = some (.int pr) := by
  have h : a % 7 = 0 ∨ a % 7 = 1 ∨ a % 7 = 2 ∨ a % 7 = 3 ∨ a % 7 = 4 ∨ a % 7 = 5 ∨ a % 7 = 6 := by omega
  rcases h with e | e | e | e | e | e | e <;> rw [e] <;> exact ⟨_, by decide, by decide, rfl⟩
theorem sq_bound {a : Int} (h0 : 0 ≤ a) (h1 : a ≤ 100000) : 0 ≤ 75329 * a * a ∧ 75329 * a * a ≤ 753290000000000 := by
  have h2 : 0 ≤ 75329 * a := by omega
  refine ⟨Int.mul_nonneg h2 h0, ?_⟩
  have := Int.mul_le_mul (show 75329 * a ≤ 7532900000 by omega) h1 h0 (by decide)
  omega
theorem cell_at {ns : List Int} (a : Int) (h : 0 < ns.length) : ∃ z : Int, atI (ns.map V.int) (a % (((ns.map V.int).length : Nat) : Int)) = some (.int z) := by
  rw [List.length_map]
  have h0 := Int.emod_nonneg a (show ((ns.length : Nat) : Int) ≠ 0 by omega)
  have h1 := Int.emod_lt_of_pos a (show 0 < ((ns.length : Nat) : Int) by omega)
  have hk : (a % (ns.length : Int)).toNat < ns.length := by omega
  have ek : a % (ns.length : Int) = (((a % (ns.length : Int)).toNat : Nat) : Int) := by omega
  refine ⟨ns[(a % (ns.length : Int)).toNat], ?_⟩
  have q : atI (ns.map V.int) (((a % (ns.length : Int)).toNat : Nat) : Int) = some (.int ns[(a % (ns.length : Int)).toNat]) := atI_nat (by rw [List.getElem?_map, List.getElem?_eq_getElem hk] <;> rfl)
  rw [← ek] at q
  exact q
/-- the last rows of a draw, as they are read -/
noncomputable abbrev tTail (K : PySem.W.Frag) : TS := tSeq (tAsg (tOp (rIxT K) (tTup (tCons (tC (.int 2147483647)) (tCons (tC (.int 2147483629)) (tCons (tC (.int 2147483587)) (tCons (tC (.int 2147483579)) (tCons (tC (.int 2147483563)) (tCons (tC (.int 2147483549)) (tCons (tC (.int 2147483543)) tNil))))))))
    (tOp (rI (fun _ j => 0 < j) fun i j => .int (i % j)) (tVar 2) (tC (.int 7)))) (gName 4))
  (tSeq (tAsg (tOp (rI (fun _ j => 0 < j) fun i j => .int (i % j)) (tOp (rI CPow fun i j => .int (i ^ j.toNat)) (tOp (rI0 fun i j => .int (i + j)) (tOp (rI0 fun i j => .int (i + j)) (tOp (rI0 fun i j => .int (i + j)) (tOp (rI (fun _ j => 0 < j) fun i j => .int (i % j)) (tVar 3) (tC (.int 2147483497)))
      (tOp (rI CMul fun i j => .int (i * j)) (tOp (rI CMul fun i j => .int (i * j)) (tC (.int 75329)) (tVar 2)) (tVar 2))) (tOp (rI CMul fun i j => .int (i * j)) (tC (.int 30011)) (tVar 2))) (tC (.int 271))) (tC (.int 3))) (tVar 4)) (gName 5))
  (tSeq (tAsg (tOp (rI (fun _ j => 0 < j) fun i j => .int (i % j)) (tOp (rI CPow fun i j => .int (i ^ j.toNat)) (tOp (rI0 fun i j => .int (i + j)) (tOp (rI0 fun i j => .int (i + j)) (tVar 5) (tOp (rI CMul fun i j => .int (i * j)) (tC (.int 11)) (tVar 2))) (tC (.int 5))) (tC (.int 2))) (tC (.int 2147483489))) (gName 5))
  (tRet (tOp (rI (fun _ j => 0 < j) fun i j => .int (i % j)) (tOp (rI CDiv fun i j => .int (i / j)) (tOp (rI (fun _ j => 0 < j) fun i j => .int (i % j)) (tOp (rI CMul fun i j => .int (i * j)) (tVar 5) (tC (.int 69621))) (tC (.int 2147483477))) (tC (.int 1013))) (tVar 1)))))
theorem draw_tail {D : Ends} {H : Hp} {p : Addr} {m a x pr : Int} {u v y : Option V} (hm : 0 < m) (pr0 : 0 < pr) (pr1 : pr < 2147483648)
    (hpr : atI ([.int 2147483647, .int 2147483629, .int 2147483587, .int 2147483579, .int 2147483563, .int 2147483549, .int 2147483543] : List V) (a % 7) = some (.int pr)) (ha0 : 0 ≤ a) (ha : a ≤ 100000) (sq0 : 0 ≤ 75329 * a * a) (sq1 : 75329 * a * a ≤ 753290000000000)
    (k : ∀ (r : Int) (t : Addr), H t = none → 0 ≤ r → r < m → D.rt (.int r) (upd H t (.tup [.int 2147483647, .int 2147483629, .int 2147483587, .int 2147483579, .int 2147483563, .int 2147483549, .int 2147483543]))) :
    tTail K D [some (.ref p), some (.int m), some (.int a), some (.int x), u, v, y] H := by
  refine ⟨(by show 7 ≤ sizeLine; decide), fun t ht => ?_⟩
  refine ⟨_, rfl, _, _, rfl, rfl, (show (0 : Int) < 7 by decide), t, _, _, _, rfl, rfl, SqT.of upd_same, hpr, ?_⟩
  have e0 := Int.emod_nonneg x (show (2147483497 : Int) ≠ 0 by decide)
  have e1 := Int.emod_lt_of_pos x (show (0 : Int) < 2147483497 by decide)
  refine ⟨_, rfl, _, _, rfl, rfl, (show (0 : Int) < 2147483497 by decide), _, rfl, _, _, rfl, rfl, .inl ⟨by decide, by decide⟩, _, rfl, _, _, rfl, rfl, .inr ⟨by omega, by omega⟩, _, _, rfl, rfl, _, rfl, _, _, rfl, rfl, .inl ⟨by decide, by decide⟩, _, _, rfl, rfl, _, _, rfl, rfl, _, _, rfl, rfl, ⟨by decide, by decide, ?_⟩, _, rfl, _, _, rfl, rfl, pr0, ?_⟩
  · show (x % 2147483497 + 75329 * a * a + 30011 * a + 271).natAbs < 2 ^ 64
    omega
  have w0 := Int.emod_nonneg ((x % 2147483497 + 75329 * a * a + 30011 * a + 271) ^ Int.toNat 3) (show pr ≠ 0 by omega)
  have w2 := Int.emod_lt_of_pos ((x % 2147483497 + 75329 * a * a + 30011 * a + 271) ^ Int.toNat 3) pr0
  refine ⟨_, rfl, _, rfl, _, _, rfl, rfl, .inl ⟨by decide, by decide⟩, _, _, rfl, rfl, _, _, rfl, rfl, _, _, rfl, rfl, ⟨by decide, by decide, ?_⟩, _, _, rfl, rfl, (show (0 : Int) < 2147483489 by decide), ?_⟩
  · show ((x % 2147483497 + 75329 * a * a + 30011 * a + 271) ^ Int.toNat 3 % pr + 11 * a + 5).natAbs < 2 ^ 64
    generalize (x % 2147483497 + 75329 * a * a + 30011 * a + 271) ^ Int.toNat 3 % pr = w1 at w0 w2 ⊢
    omega
  refine ⟨_, rfl, _, _, rfl, rfl, .inr ⟨by decide, by decide⟩, _, _, rfl, rfl, (show (0 : Int) < 2147483477 by decide), _, _, rfl, rfl, ⟨by decide, by decide⟩, _, rfl, _, _, rfl, rfl, hm, ?_⟩
  exact k _ t ht (Int.emod_nonneg _ (by omega)) (Int.emod_lt_of_pos _ hm)
noncomputable def spDraw : Sp := fun vs H Q _ => ∃ (p : Addr) (m : Int) (n : Nat), vs = [.ref p, .int m] ∧ Pen H p n ∧ n < 100000 ∧ 0 < m ∧ m < 1073741824 ∧ ∀ (r : Int) (H' : Hp), 0 ≤ r → r < m → Pen H' p (n + 1) → SameX p H H' → Q (.int r) H'
noncomputable def spPen (K : PySem.W.Frag) : Sp := fun vs H Q _ => ∃ (a : Addr) (ns : List Int), vs = [.ref a] ∧ SqL K H a (ns.map V.int) ∧ ∀ (p : Addr) (H' : Hp), Same H H' → Pen H' p 0 → Q (.ref p) H'
theorem cut_ints (ns : List Int) (lo hi : Option Int) : ∃ ms : List Int, cutV (ns.map V.int) lo hi = ms.map V.int := by
  unfold cutV
  rw [← List.map_drop, ← List.map_take]
  exact ⟨_, rfl⟩
end
end My
namespace L2
open PySem PySem.Spec PyProof.Rows
theorem Sees.none1 {X : Cx} {scope : Scope} {x : Str} : Sees X scope [x] (fun _ => [none]) := fun σ => ⟨rfl, fun i y v _ h2 => by
  match i with
  | 0 => simp at h2
  | n + 1 => simp at h2⟩
theorem pe_comp0 {X : Cx} {elt tg iter : Expr} {ifs : List Expr} {scope : Scope} {pos : Pos} {wi : TI} {g : TG} {tc : TT} {te : TE} {N : List Str} {σ0 : St → St}
    (hc : X.calm = true) (hxe : ∀ e s, X.xe e s → False) (hcell : ∀ y ∈ scope.names, y.2 ≠ .cell) (hkind : scope.kind = .function) (hnames : ∀ y ∈ scope.names, y.2 = .local → scope.names.lookup y.1 = some .local)
    (hnf : ∀ y ∈ scope.names, y.2 ≠ .free) (hσ : Sees X scope N σ0) (hi : PI X tg iter wi)
    (hg : ∀ cl C s H ex, PG (cxComp X scope N cl C s H ex) tg g) (ht : ∀ cl C s H ex, PTs (cxComp X scope N cl C s H ex) ifs tc) (he : ∀ cl C s H ex, PE (cxComp X scope N cl C s H ex) elt te)
    (hs : ∀ x, foldedSetIterable iter X.env x = pure x := by intro _; rfl) : PE X (.ListComp elt [⟨tg, iter, ifs, 0⟩] scope pos) (tComp σ0 wi g tc te) :=
  pe_comp hc hxe hcell hkind hnames (fun y hy hf => absurd hf (hnf y hy)) hσ hi hg ht he hs
end L2

set_option Elab.async false
set_option linter.all false
set_option maxRecDepth 100000
set_option maxHeartbeats 4000000
namespace L2
open PySem PySem.Spec PyProof.Rows
/-! ### repr: what a value is, as plain data -/
mutual
inductive DataV (H : Hp) : V → PyData → Prop
  | non : DataV H .non .none
  | bl (b : Bool) : DataV H (.bl b) (.bool b)
  | int (i : Int) : DataV H (.int i) (.int i)
  | str (x : Str) : DataV H (.str x) (.str x)
  | lst {a : Addr} {xs : List V} {ds : List PyData} : H a = some (.lst xs) → DataL H xs ds → DataV H (.ref a) (.list ds)
  | tup {a : Addr} {xs : List V} {ds : List PyData} : H a = some (.tup xs) → DataL H xs ds → DataV H (.ref a) (.tuple ds)
  | dict {a : Addr} {kvs : List (Key × V)} {ps : List (PyData × PyData)} : H a = some (.dK kvs) → DataL H (kvs.map fun p => kV p.1) (ps.map (·.1)) → DataL H (kvs.map (·.2)) (ps.map (·.2)) → DataV H (.ref a) (.dict ps)
inductive DataL (H : Hp) : List V → List PyData → Prop
  | nil : DataL H [] []
  | cons {x : V} {xs : List V} {d : PyData} {ds : List PyData} : DataV H x d → DataL H xs ds → DataL H (x :: xs) (d :: ds)
end
end L2

set_option Elab.async false
set_option linter.all false
set_option maxRecDepth 100000
set_option maxHeartbeats 4000000
namespace L2
open PySem PySem.Spec PyProof.Rows MA
mutual
theorem DataV.same {H H' : Hp} (s : Same H H') : ∀ {v : V} {d : PyData}, DataV H v d → DataV H' v d
  | _, _, .non => .non
  | _, _, .bl b => .bl b
  | _, _, .int i => .int i
  | _, _, .str x => .str x
  | _, _, .lst h r => .lst (s _ _ h) (DataL.same s r)
  | _, _, .tup h r => .tup (s _ _ h) (DataL.same s r)
  | _, _, .dict h r q => .dict (s _ _ h) (DataL.same s r) (DataL.same s q)
theorem DataL.same {H H' : Hp} (s : Same H H') : ∀ {vs : List V} {ds : List PyData}, DataL H vs ds → DataL H' vs ds
  | _, _, .nil => .nil
  | _, _, .cons h r => .cons (DataV.same s h) (DataL.same s r)
end
theorem DataL.length {H : Hp} : ∀ {vs : List V} {ds : List PyData}, DataL H vs ds → vs.length = ds.length
  | _, _, .nil => rfl
  | _, _, .cons _ r => by simp [DataL.length r]
/-- what the look of a share tells -/
noncomputable def isI : PyData → Bool
  | .int _ => true
  | _ => false
end L2
namespace L2
open PySem
theorem bt_sorted : bootBuiltins "sorted" = some (.builtin "sorted") := by decide +kernel
theorem bt_min : bootBuiltins "min" = some (.builtin "min") := by decide +kernel
end L2
namespace My
open PySem L2 MA
structure Txt2 (mg : Str → Option Value) : Prop extends Txt mg where
  z_str : mg "str" = none
  z_repr : mg "repr" = none
  z_dict : mg "dict" = none
  z_sum : mg "sum" = none
  z_sorted : mg "sorted" = none
  z_max : mg "max" = none
  z_min : mg "min" = none
  z_any : mg "any" = none
  z_enumerate : mg "enumerate" = none
  z_zip : mg "zip" = none
  z_set : mg "set" = none
  z_reversed : mg "reversed" = none
  z_ValueError : mg "ValueError" = none
noncomputable def spWholeV : Sp := fun vs H Q _ => ∃ v d, vs = [v] ∧ DataV H v d ∧ Q (.bl (isI d)) H
noncomputable def tyI : PyData → Bool
  | .int _ | .bool _ => true
  | _ => false
noncomputable def tyB : PyData → Bool
  | .bool _ => true
  | _ => false
noncomputable def tyT : PyData → Bool
  | .tuple _ => true
  | _ => false
noncomputable def tyL : PyData → Bool
  | .list _ => true
  | _ => false
theorem tyOf {K : PySem.W.Frag} {H : Hp} {v : V} {d : PyData} (h : DataV H v d) : ∃ t, TyOf K H v (.type t) ∧
    PySem.W.kitOne K (.type t) (.type "int") = some (tyI d) ∧ PySem.W.kitOne K (.type t) (.type "bool") = some (tyB d) ∧
    PySem.W.kitOne K (.type t) (.type "tuple") = some (tyT d) ∧ PySem.W.kitOne K (.type t) (.type "list") = some (tyL d) := by
  cases h with
  | non => exact ⟨_, .non, rfl, rfl, rfl, rfl⟩
  | bl b => exact ⟨_, .bl b, rfl, rfl, rfl, rfl⟩
  | int i => exact ⟨_, .int i, rfl, rfl, rfl, rfl⟩
  | str x => exact ⟨_, .str x, rfl, rfl, rfl, rfl⟩
  | lst h _ => exact ⟨_, .lst h, rfl, rfl, rfl, rfl⟩
  | tup h _ => exact ⟨_, .tup h, rfl, rfl, rfl, rfl⟩
  | dict h _ _ => exact ⟨_, .dK h, rfl, rfl, rfl, rfl⟩
end My

set_option Elab.async false
set_option linter.all false
set_option maxRecDepth 100000
set_option maxHeartbeats 4000000
namespace L2
open PySem PySem.Spec PyProof.Rows
noncomputable def notStar : Expr → Bool
  | .Starred _ _ => false
  | _ => true
theorem star_cons {e : Expr} {es : List Expr} {env : Env} (h : notStar e = true) : starEach (e :: es) env = (false, eval e env) :: starEach es env := by
  cases e <;> first | rfl | exact absurd h (by simp [notStar])
section
variable {X : Cx} {e : Expr} {es : List Expr} {te : TE} {t : TA} {pos : Pos}
/-- an item of a row, whose rest may be long -/
theorem pa_consN (ha : PE X e te) (hr : PA X es t) (hn : notStar e = true := by rfl) : PA X (e :: es) (tCons te t) := pa_cons ha hr (star_cons hn)
end
end L2
namespace L2
end L2
namespace L2
end L2

set_option Elab.async false
set_option linter.all false
set_option maxRecDepth 100000
set_option maxHeartbeats 4000000
namespace L2
open PySem PySem.Spec PyProof.Rows
end L2
namespace L2
open PySem PySem.Spec PyProof.Rows
end L2

set_option Elab.async false
set_option linter.all false
set_option maxRecDepth 100000
set_option maxHeartbeats 4000000
namespace L2
open PySem PySem.Spec PyProof.Rows MA
/-- a comprehension's names: its own, then the def's that it reads -/
theorem Sees.frees {X : Cx} {scope : Scope} (ks : List Str) (fs : List (Str × Nat)) (h : ∀ p ∈ fs, scope.names.lookup p.1 = some .free ∧ X.N[p.2]? = some p.1) :
    Sees X scope (ks ++ fs.map (·.1)) (fun σ => ks.map (fun _ => none) ++ fs.map fun p => σ.getD p.2 none) := by
  intro σ
  refine ⟨by simp, fun i x v h1 h2 => ?_⟩
  by_cases hi : i < ks.length
  · rw [List.getElem?_append_left (by simpa using hi), List.getElem?_map] at h2
    cases e : ks[i]? with
    | none => rw [e] at h2; cases h2
    | some y => rw [e] at h2; cases h2
  · rw [List.getElem?_append_right (by omega), List.getElem?_map] at h1
    rw [List.getElem?_append_right (by simp; omega), List.getElem?_map, List.length_map] at h2
    cases e : fs[i - ks.length]? with
    | none => rw [e] at h1; cases h1
    | some p =>
      rw [e] at h1 h2
      cases h1
      obtain ⟨a, b⟩ := h p (List.mem_of_getElem? e)
      refine ⟨a, p.2, b, ?_⟩
      have h3 : σ.getD p.2 none = some v := by simpa using h2
      rw [List.getD_eq_getElem?_getD] at h3
      cases z : σ[p.2]? with
      | none => rw [z] at h3; cases h3
      | some u => rw [z] at h3; exact congrArg some h3
/-! ### sums over one common bottom -/
end L2
namespace L2
open PySem
theorem fr_nil {C : Str × Nat → Prop} : ∀ p ∈ ([] : List (Str × Nat)), C p := fun _ h => nomatch h
theorem fr_cons {C : Str × Nat → Prop} {a : Str × Nat} {l : List (Str × Nat)} (h : C a) (t : ∀ p ∈ l, C p) : ∀ p ∈ a :: l, C p := fun p hp => (List.mem_cons.mp hp).elim (fun e => e ▸ h) (t p)
theorem hfr_of {scope : Scope} {env : Env} (h : scope.names.all (fun y => y.2 != .free || env.kindOf y.1 == some .cell || env.kindOf y.1 == some .free) = true) : ∀ y ∈ scope.names, y.2 = .free → env.kindOf y.1 = some .cell ∨ env.kindOf y.1 = some .free := by
  intro y hy hf
  have := List.all_eq_true.mp h y hy
  rw [hf] at this
  simpa using this
end L2

set_option Elab.async false
set_option linter.all false
set_option maxRecDepth 100000
set_option maxHeartbeats 4000000
namespace L2
open PySem PySem.Spec PyProof.Rows
end L2
namespace L2
open PySem PySem.Spec PyProof.Rows MA
end L2

set_option Elab.async false
set_option linter.all false
set_option maxRecDepth 100000
set_option maxHeartbeats 4000000
namespace L2
open PySem PySem.Spec PyProof.Rows
section
variable {X : Cx} {e : Expr} {t : TA} {p p3 p4 pos : Pos}
/-- sorted(xs, reverse=b), xs a list of ints -/
noncomputable def tSortR (b : Bool) (t : TA) : TE := fun σ H Q => t σ H fun vs H1 => ∃ (l : Addr) (ns : List Int), vs = [.ref l] ∧ H1 l = some (.lst (ns.map V.int)) ∧ ns.length < 64 ∧ ∀ (q : Addr) (ms : List Int), H1 q = none → ms.Perm ns → Ordered b ms → Q (.ref q) (upd H1 q (.lst (ms.map V.int)))
theorem pe_sortedR {b : Bool} {kk : _} (hg : Gl X "sorted") (hm : X.mg "sorted" = none) (ha : PA X [e] t)
    (he : backTo pos (starEach [e] X.env) = (false, eval e X.env) :: backTo pos (starEach [] X.env) := by rfl) (hpl : (backTo pos (starEach [e] X.env)).any (·.1) = false := by rfl) :
    PE X (.Call (.Name "sorted" p) [e] [⟨some "reverse", .Constant (.bool b) kk p3, p4⟩] pos) (tSortR b t) := by
  intro pins s σ H Q I h
  refine wpAny_Call_Name_kw (ld_blt I hg hm bt_sorted ?_ (by decide) (by decide))
  refine callWith_kw (thn (ha pos pins s σ H _ I h) fun us s1 ⟨vs, H1, I1, r1, q1⟩ => ?_) he hpl
  obtain ⟨l, ns, rfl, hl, h64, q⟩ := q1
  obtain ⟨u, rfl, ru⟩ := vals1 r1
  cases ru
  show wpAny _ X.A (evalAll [(do let v ← eval (.Constant (.bool b) kk p3) X.env; standAt pos; pure v)]) _ _ s1
  refine wpAny_evalAll_cons (wpAny_bind (Constant_bool (wpAny_bind (wpAny_standAt (wpAny_pure (wpAny_evalAll_nil ?_))))))
  show wpAny _ X.A (call (.builtin "sorted") [.ref l] [(Str.ofString "reverse", .bool b)]) _ _ _
  obtain ⟨its, rv, pl, hz⟩ := I1.list (SqL.of (K := X.K) hl)
  have hlen := rv.length
  rw [List.length_map] at hlen
  refine sorted_ints_rev pl.isList (intsAre_of rv) (by omega) fun out ms a1 a2 a3 => ?_
  obtain ⟨ee, he'⟩ := sortedAll_at s1.heap its out
  have hml : ms.length = ns.length := a2.length_eq
  refine ⟨.ref (s1.heap.objs.size + 1), _, I1.laid (t' := s1.toks) (a := s1.heap.objs.size + 1) (o := .lst (ms.map V.int)) (fun b o q => sortedAll_old q) (Nat.le_succ _) ⟨?_, out.toList, ee, vals_ints a1, ?_⟩, rfl, q _ ms (I1.hok.fresh (Nat.le_succ _)) a2 a3⟩
  · rw [List.length_map, hml, sizeLine_eq]; omega
  · rw [he']
end
end L2
namespace L2
open PySem PySem.Spec PyProof.Rows MA
section
variable {X : Cx}
/-- items by their place, the heap named alone (for use in a comprehension) -/
theorem ix_list0 : IxR X (fun x y H Q => ∃ p xs i v, x = .ref p ∧ y = .int i ∧ H p = some (.lst xs) ∧ atI xs i = some v ∧ Q v H) := by
  intro value slice pins s σ H x y v u Q I rx ry h hs
  obtain ⟨p, xs, i, w', e1, e2, hp, ha, q⟩ := h
  exact ix_list value slice pins s σ H x y v u Q I rx ry ⟨p, xs, i, w', e1, e2, SqL.of hp, ha, q⟩ hs
end
end L2
namespace L2
open PySem PySem.Spec PyProof.Rows MA
end L2

set_option Elab.async false
set_option linter.all false
set_option maxRecDepth 100000
set_option maxHeartbeats 1000000
namespace L2
open PySem PySem.Spec PyProof.Rows MA
end L2

set_option Elab.async false
set_option linter.all false
set_option maxRecDepth 100000
set_option maxHeartbeats 1000000
namespace L2
open PySem PySem.Spec PyProof.Rows
section
variable {X : Cx} {pins : List (Addr × Obj)} {σ : St} {H : Hp} {s : Shared} {h' : Heap} {fp : List Addr}
/-- several records of ours have turned -/
theorem Inv.turnedL {t' : Nat} (I : Inv X pins σ H s) (hf : ∀ b ∈ fp, FpOk X pins H b) (k : ∀ b o, b ∉ fp → s.heap.get? b = some o → h'.get? b = some o) : Inv X pins σ H { s with heap := h', toks := t' } := by
  have nit : ∀ b u, H b = some u → b ∉ fp := fun b u e z => by rw [(hf b z).1] at e; cases e
  have hL : X.env.locals ∉ fp := fun z => (hf _ z).2.1 rfl
  refine I.step (g' := s.gens) (d' := s.drawn) (ch := fp) (fun b hb => ⟨(hf b hb).2.2.2.1, (hf b hb).2.1, (hf b hb).2.2.2.2.1, (hf b hb).2.2.2.2.2⟩) (fun b o _ _ hc e _ => k b o hc e) (fun b o _ _ hc e _ => ⟨o.slots, k b o hc e⟩) (fun _ _ _ _ n => n)
    (fun b o hc e => ⟨o, k b o hc e⟩) (fun _ _ e => e) (fun _ _ _ e => e) (fun b ps e => ⟨#[], by rw [e]; simp⟩) (fun m hm => ?_) (fun b u e => ?_) I.bare
  · obtain ⟨o, es, ep, ho, r⟩ := hm
    exact ⟨o, es, ep, k _ o hL ho, r⟩
  · refine (I.hok b u e).stay (fun c v hc q => k c v ?_ q) (fun _ q => q) fun _ _ q => q
    rcases hc with z | z
    · rw [z]; exact nit b u e
    · exact nit c _ z
end
end L2

set_option Elab.async false
set_option linter.all false
set_option maxRecDepth 100000
set_option maxHeartbeats 1000000
namespace My
open PySem L2 MA
/-! a pen that is a list: its cells, where it stands, what is left -/
end My

set_option Elab.async false
set_option linter.all false
set_option maxRecDepth 100000
set_option maxHeartbeats 1000000
namespace L2
open PySem PySem.Spec PyProof.Rows
noncomputable def gTup0 (n : Nat) (t : TGs) : TG := fun v σ H Q => ∃ a xs, v = .ref a ∧ H a = some (.tup xs) ∧ xs.length = n ∧ t xs σ H Q
theorem pg_tup0 {X : Cx} {pos : Pos} {es : List Expr} {k : Nat} {t : TGs} {n : Nat} (hc : X.calm = true) (h : PGs X es t)
    (hn : (assignEach es X.env).length = n := by rfl) (hst : (assignEach es X.env).findIdx? (·.1) = none := by rfl) : PG X (.Tuple es k pos) (gTup0 n t) := by
  intro pins s σ H v u Q I r hw
  obtain ⟨a, xs, e1, hq, hl, hw⟩ := hw
  exact pg_tup hc h hn hst pins s σ H v u Q I r ⟨a, xs, e1, SqT.of hq, hl, hw⟩
end L2
namespace My
open PySem L2 MA
end My

set_option Elab.async false
set_option linter.all false
set_option maxRecDepth 100000
set_option maxHeartbeats 4000000
namespace L2
open PySem PySem.Spec PyProof.Rows
/-- a list (true) or a tuple (false) -/
noncomputable def IsB (h : Heap) : Bool → Addr → Array Value → Prop
  | true => h.IsList
  | false => h.IsTuple
noncomputable def IterB (h : Heap) : Bool → Addr → Addr → Nat → Prop
  | true => h.IsListIter
  | false => h.IsTupleIter
noncomputable def SqB (K : PySem.W.Frag) (H : Hp) : Bool → Addr → List V → Prop
  | true => SqL K H
  | false => SqT K H
theorem IsB.at {h h' : Heap} {b : Bool} {a : Addr} {its : Array Value} (x : IsB h b a its) (k : ∀ o, h.get? a = some o → h'.get? a = some o) : IsB h' b a its := by
  cases b <;> (obtain ⟨o, e, r⟩ := x; exact ⟨o, k o e, r⟩)
theorem IterB.at {h h' : Heap} {b : Bool} {a l : Addr} {i : Nat} (x : IterB h b a l i) (k : ∀ o, h.get? a = some o → h'.get? a = some o) : IterB h' b a l i := by
  cases b <;> (obtain ⟨o, e, r⟩ := x; exact ⟨o, k o e, r⟩)
theorem IterB.ob {h : Heap} {b : Bool} {a l : Addr} {i : Nat} (x : IterB h b a l i) : ∃ o, h.get? a = some o ∧ ∀ v, o.data ≠ .cell v := by
  cases b <;> (obtain ⟨o, e, _, d⟩ := x; exact ⟨o, e, fun v z => by rw [d] at z; cases z⟩)
theorem IsB.lt {h : Heap} {b : Bool} {a : Addr} {its : Array Value} (x : IsB h b a its) : a < h.objs.size := by
  cases b <;> (obtain ⟨o, e, _⟩ := x; exact Heap.lt_size e)
theorem iterB {prog : Program} {w : World} {A : Around} {E : Value → Shared → Prop} {s : Shared} {b : Bool} {l : Addr} {its : Array Value} {Q : Value → Shared → Prop} (hl : IsB s.heap b l its)
    (k : ∀ h', IterB h' b s.heap.objs.size l 0 → h'.objs.size = s.heap.objs.size + 1 → (∀ c o, s.heap.get? c = some o → h'.get? c = some o) → Q (.ref s.heap.objs.size) { s with heap := h' }) : wpAny (model prog w) A (pyIter (.ref l)) Q E s := by
  cases b with
  | true => exact wpAny_pyIter_list hl (k _ ⟨_, Heap.get?_push_size _ rfl, rfl, rfl⟩ (Heap.size_push ..) fun c o e => Heap.get?_push_of_some _ e)
  | false => exact wpAny_pyIter_tuple hl (k _ ⟨_, Heap.get?_push_size _ rfl, rfl, rfl⟩ (Heap.size_push ..) fun c o e => Heap.get?_push_of_some _ e)
section
variable {X : Cx} {pins : List (Addr × Obj)} {σ : St} {H : Hp} {s : Shared} {a : Addr} {xs ys : List V} {b : Bool}
theorem Inv.seqB (I : Inv X pins σ H s) (h : SqB X.K H b a xs) : ∃ its : List Value, Vals xs its ∧ IsB s.heap b a its.toArray ∧ xs.length ≤ sizeLine := by
  cases b with
  | true => obtain ⟨its, r, p, z⟩ := I.list h; exact ⟨its, r, p.isList, z⟩
  | false => obtain ⟨its, r, p, z⟩ := I.tuple h; exact ⟨its, r, p, z⟩
end
end L2

set_option Elab.async false
set_option linter.all false
set_option maxRecDepth 100000
set_option maxHeartbeats 4000000
namespace L2
open PySem PySem.Spec PyProof.Rows
section
variable {prog : Program} {w : World} {A : Around} {E : Value → Shared → Prop} {s : Shared}
noncomputable def itc : Bool → String
  | true => "list_iterator"
  | false => "tuple_iterator"
theorem pyIterB {b : Bool} {l : Addr} {its : Array Value} {Q : Value → Shared → Prop} (hl : IsB s.heap b l its)
    (hQ : Q (.ref s.heap.objs.size) { s with heap := s.heap.push { cls := .type (itc b), data := .fields #[.ref l, .int 0 0] } }) : wpAny (model prog w) A (pyIter (.ref l)) Q E s := by
  cases b with
  | true => exact wpAny_pyIter_list hl hQ
  | false => exact wpAny_pyIter_tuple hl hQ
end
end L2

set_option Elab.async false
set_option linter.all false
set_option maxRecDepth 100000
set_option maxHeartbeats 4000000
namespace L2
open PySem PySem.Spec PyProof.Rows
end L2
namespace L2
open PySem PySem.Spec PyProof.Rows
end L2

set_option Elab.async false
set_option linter.all false
set_option maxRecDepth 100000
set_option maxHeartbeats 4000000
namespace L2
open PySem PySem.Spec PyProof.Rows
theorem walksB {prog : Program} {w : World} {A : Around} (hh : A.handled = none) (b : Bool) (I l : Addr) (hne : l ≠ I) (its : Array Value) :
    Walks prog w A I [I, l] [I] its.size (fun i v => its[i]? = some v) (fun i h => IterB h b I l i ∧ IsB h b l its) := by
  cases b with
  | true => exact Walks.list hh I l hne its
  | false => exact Walks.tuple hh I l hne its
theorem argBest_lt (f : Nat → Int) (n : Nat) : argBest (fun i j => decide (f i < f j)) n ≤ n ∧ ∀ j, j ≤ n → f (argBest (fun i j => decide (f i < f j)) n) ≤ f j := by
  have e : (fun i j : Nat => decide (f i < f j)) = fun i j => decide (-(f i) > -(f j)) := by
    funext i j
    rw [decide_eq_decide]
    omega
  rw [e]
  have := argBest_gt (fun i => -(f i)) n
  exact ⟨this.1, fun j hj => by have := this.2 j hj; omega⟩
section
variable {X : Cx}
theorem bestB (up : Bool) {pins : List (Addr × Obj)} {s : Shared} {σ : St} {H : Hp} {b : Bool} {l : Addr} {ns : List Int} {Q : VK} (hc : X.calm = true) (I : Inv X pins σ H s) (hl : SqB X.K H b l (ns.map V.int)) (hne : ns ≠ [])
    (q : ∀ M, M ∈ ns → (∀ a ∈ ns, if up = true then a ≤ M else M ≤ a) → Q (.int M) H) : wpAny (model X.prog X.w) X.A (call (.builtin (if up = true then "max" else "min")) [.ref l]) (EP X pins σ Q) X.xe s := by
  obtain ⟨its, rv, p, hz⟩ := I.seqB hl
  have hi := intsAre_of rv
  obtain ⟨ys, e⟩ := hi.allInts.items
  have hnum : ns = ys.toList.map (·.1) := by
    have h1 := hi.numsOf
    have h2 := nums_intItems ys
    rw [← e] at h2
    rw [← h1, ← h2]
  have hsz : 0 < ys.size := by
    have : 0 < ns.length := List.length_pos_iff.mpr hne
    rw [hnum] at this
    simpa using this
  have hlt := p.lt
  have hh : X.A.in1.handled = none := I.ok.hd hc
  rw [e] at p
  have st0 : IterB (s.heap.push { cls := .type (itc b), data := .fields #[.ref l, .int 0 0] }) b s.heap.objs.size l 0 := by cases b <;> exact ⟨_, Heap.get?_push_size _ rfl, rfl, rfl⟩
  have fp0 : ∀ c ∈ [s.heap.objs.size, l], c < (s.heap.push { cls := .type (itc b), data := .fields #[.ref l, .int 0 0] }).objs.size := fun c hc' => by
    rw [Heap.size_push]
    simp only [List.mem_cons, List.not_mem_nil, or_false] at hc'
    rcases hc' with rfl | rfl
    · exact Nat.lt_succ_self _
    · exact Nat.lt_succ_of_lt hlt
  have fin : ∀ (k : Nat) (v : Value) (h' : Heap) (tk : Nat), k ≤ ys.size - 1 → (intItems ys)[k]? = some v → (∀ a ∈ ns, if up = true then a ≤ numAt ys k else numAt ys k ≤ a) →
      (∀ c o, c ∉ [s.heap.objs.size] → (s.heap.push { cls := .type (itc b), data := .fields #[.ref l, .int 0 0] }).get? c = some o → h'.get? c = some o) → EP X pins σ Q v { s with heap := h', toks := tk } := fun k v h' tk hk hv ha kk => by
    obtain ⟨t, rfl⟩ := intItems_at hv
    refine ⟨.int (numAt ys k), H, I.kept (t' := tk) fun c o eo => kk c o ?_ (Heap.get?_push_of_some _ eo), ⟨t, rfl⟩, q _ ?_ ha⟩
    · intro z
      have : c = s.heap.objs.size := by simpa using z
      subst this
      exact Nat.lt_irrefl _ (Heap.lt_size eo)
    · rw [numAt_eq, hnum]; exact getD_mem (by rw [List.length_map, Array.length_toList]; omega)
  cases up with
  | true =>
    refine call_max_walk (pyIterB p ⟨_, _, _, _, _, _, _, rfl, walksB hh b _ l (Nat.ne_of_lt hlt) (intItems ys), ⟨st0, p.at fun o eo => Heap.get?_push_of_some _ eo⟩, fp0, by simpa [intItems] using hsz, CmpOf.ints_gt (numAt ys) (fun _ _ => intItems_at), fun v h' tk hv kk => ?_⟩)
    obtain ⟨h1, h2⟩ := argBest_gt (numAt ys) (ys.size - 1)
    have es : (intItems ys).size = ys.size := by simp [intItems]
    rw [es] at hv
    refine fin _ v h' tk h1 hv (fun a ha => ?_) kk
    rw [if_pos rfl]
    rw [hnum] at ha
    obtain ⟨j, hj, rfl⟩ := mem_getD ha
    rw [List.length_map, Array.length_toList] at hj
    rw [← numAt_eq]; exact h2 j (by omega)
  | false =>
    refine call_min_walk (pyIterB p ⟨_, _, _, _, _, _, _, rfl, walksB hh b _ l (Nat.ne_of_lt hlt) (intItems ys), ⟨st0, p.at fun o eo => Heap.get?_push_of_some _ eo⟩, fp0, by simpa [intItems] using hsz, CmpOf.ints_lt (numAt ys) (fun _ _ => intItems_at), fun v h' tk hv kk => ?_⟩)
    obtain ⟨h1, h2⟩ := argBest_lt (numAt ys) (ys.size - 1)
    have es : (intItems ys).size = ys.size := by simp [intItems]
    rw [es] at hv
    refine fin _ v h' tk h1 hv (fun a ha => ?_) kk
    rw [if_neg (by decide)]
    rw [hnum] at ha
    obtain ⟨j, hj, rfl⟩ := mem_getD ha
    rw [List.length_map, Array.length_toList] at hj
    rw [← numAt_eq]; exact h2 j (by omega)
noncomputable def rMinB (K : PySem.W.Frag) (b : Bool) : List V → Hp → VK → Prop := fun xs H Q => ∃ (l : Addr) (ns : List Int), xs = [.ref l] ∧ SqB K H b l (ns.map V.int) ∧ ns ≠ [] ∧ ∀ M, M ∈ ns → (∀ a ∈ ns, M ≤ a) → Q (.int M) H
theorem call_minB (b : Bool) (hc : X.calm = true) : CallR X (.builtin "min") (rMinB X.K b) := by
  intro pins s σ H xs us Q I r h
  obtain ⟨l, ns, rfl, hl, hne, q⟩ := h
  obtain ⟨u, rfl, ru⟩ := vals1 r
  cases ru
  exact bestB false hc I hl hne fun M h1 h2 => q M h1 fun a ha => by simpa using h2 a ha
theorem SqB.l {K : PySem.W.Frag} {H : Hp} {a : Addr} {xs : List V} (h : H a = some (.lst xs)) : SqB K H true a xs := SqL.of h
theorem SqB.t {K : PySem.W.Frag} {H : Hp} {a : Addr} {xs : List V} (h : H a = some (.tup xs)) : SqB K H false a xs := SqT.of h
/-- xs.index(y), flat -/
noncomputable def rIndex : V → List V → Hp → VK → Prop := fun x vs H Q => ∃ l xs y j, x = .ref l ∧ vs = [y] ∧ H l = some (.lst xs) ∧ xs.all flatV = true ∧ flatV y = true ∧ j < xs.length ∧ eqV (xs.getD j .non) y = true ∧ (∀ m, m < j → eqV (xs.getD m .non) y = false) ∧ Q (.int (j : Nat)) H
theorem mt_index : MtR X "list.index" rIndex := by
  intro pins s σ H x vs v us Q I rx rv h
  obtain ⟨l, xs, y, j, rfl, rfl, hH, fx, fy, hj, hit, hno, q⟩ := h
  cases rx
  obtain ⟨u, rfl, ru⟩ := rv.one
  obtain ⟨z, its, n, r, hl, e⟩ := I.lstM hH
  have hlen := r.length
  have eu : ∀ m (hm : m < its.length), eqU y its[m] = eqV (xs.getD m .non) y := fun m hm => by
    obtain ⟨u', h1, h2⟩ := r.get (i := m) (x := xs[m]'(by omega)) (List.getElem?_eq_getElem (by omega))
    rw [List.getElem?_eq_getElem hm] at h1
    cases h1
    rw [eqU_of h2 (List.all_eq_true.mp fx _ (List.getElem_mem _)), getD_of (by omega)]
  refine call_meets F.slot_list_index ⟨_, e, rfl⟩ F.entry_list_index (F.args_list_index_2 _ _) (SeqAt.list_indexAt l its.toArray n none #[] u (eqU y) j (by simp; omega) ?_ ?_ fun m hm h1 => ?_) ⟨e, fun w hw => ?_, ?_⟩
  · have : xs.length ≤ sizeLine := z
    rw [sizeLine_eq] at this
    omega
  · have := eu j (by omega)
    simpa using this.trans hit
  · have := eu m (by simpa using hm)
    simpa using this.trans (hno m h1)
  · obtain ⟨y', hy, ry⟩ := vals_mem r (by simpa using hw)
    have fy' : flatV y' = true := List.all_eq_true.mp fx _ hy
    rw [eqU_of ry fy']
    exact eqAt_V ry ru fy' fy
  · exact ⟨.int (j : Nat), H, I.tok _, ⟨s.toks, rfl⟩, q⟩
/-- o[i] by values, o a list (for o[i] += e) -/
noncomputable def rGetL : V → V → Hp → VK → Prop := fun o i H Q => ∃ p xs k v, o = .ref p ∧ i = .int k ∧ 0 ≤ k ∧ H p = some (.lst xs) ∧ atI xs k = some v ∧ Q v H
theorem get_list : PGet X rGetL := by
  intro pins s σ H o i ov iv Q I ro ri h
  obtain ⟨p, xs, k, z, rfl, rfl, h0, hp, he, q⟩ := h
  cases ro
  obtain ⟨t, rfl⟩ := ri
  obtain ⟨its, r, pl, hz⟩ := I.list (SqL.of (K := X.K) hp)
  obtain ⟨j, h1, h2, h3, h4, h5⟩ := atI_get he
  obtain ⟨w, ew, rw'⟩ := r.get h2
  have hl := r.length
  have hn := line63
  have hj : k.toNat = j := by
    rw [seqIndex_of h0 h5] at h1
    exact Option.some.inj h1
  exact wpAny_getItem_list pl.isList h0 (by omega) (by rw [hj]; simpa using ew) ⟨z, H, I, rw', q⟩
end
end L2

set_option Elab.async false
set_option linter.all false
set_option maxRecDepth 100000
set_option maxHeartbeats 1000000
namespace L2
open PySem PySem.Spec PyProof.Rows MA
/-! ### ints in a row -/
noncomputable abbrev iv (ns : List Int) : List V := ns.map V.int
theorem iv_at {ns : List Int} {i : Nat} {x : V} (h : (iv ns)[i]? = some x) : ∃ y, ns[i]? = some y ∧ x = .int y := by
  rw [List.getElem?_map] at h
  cases e : ns[i]? with
  | none => rw [e] at h; cases h
  | some y => rw [e] at h; cases h; exact ⟨y, rfl, rfl⟩
theorem iv_get {ns : List Int} {i : Nat} (h : i < ns.length) : (iv ns)[i]? = some (.int ns[i]) := by rw [List.getElem?_map, List.getElem?_eq_getElem h]; rfl
theorem iv_atI {ns : List Int} {i : Nat} (h : i < ns.length) : atI (iv ns) (i : Int) = some (.int (ns.getD i 0)) := by
  rw [atI_nat (iv_get h), getD_of h]
theorem data_ints (H : Hp) : ∀ ns : List Int, DataL H (iv ns) (ns.map PyData.int)
  | [] => .nil
  | n :: ns => .cons (.int n) (data_ints H ns)
end L2
namespace My
open PySem L2 MA
theorem lz {m : Nat} (n : Nat) (h : m = n) (hn : n ≤ 100 := by decide) : m ≤ sizeLine := by
  rw [h, sizeLine_eq]; omega
theorem penX_upd {H H2 : Hp} {p acc : Addr} {n m : Nat} (hn : H acc = none) (hp : Pen H p n) (x : SameX p H H2) (hp2 : Pen H2 p m) (o : HO) : Pen (upd H2 acc o) p m ∧ SameX p H (upd H2 acc o) := by
  obtain ⟨c, ns, a, l, h1, h2, _, _⟩ := hp
  obtain ⟨c', ns', a', l', h1', h2', h3', h4'⟩ := hp2
  have hap : p ≠ acc := ne_of_none h1 hn
  have hac : c ≠ acc := ne_of_none h2 hn
  obtain ⟨a'', l'', e⟩ := x.pen c a l h1
  rw [h1'] at e
  have ec : c' = c := by
    have e' := congrArg (fun o => match o with | some (HO.dK ((_, V.ref q) :: _)) => q | _ => c) e
    exact e'
  subst ec
  refine ⟨⟨c', ns', a', l', by rw [upd_ne hap]; exact h1', by rw [upd_ne hac]; exact h2', h3', h4'⟩, ⟨fun b u hb hbp => ?_, fun c2 a2 l2 e2 => ?_⟩⟩
  · rw [upd_ne (ne_of_none hb hn)]; exact x.all b u hb hbp
  · rw [upd_ne hap]; exact x.pen c2 a2 l2 e2
/-- what isn't the pen stays beside draws -/
theorem Pen.nep {H : Hp} {p b : Addr} {n : Nat} {o : HO} (hp : Pen H p n) (hb : H b = some o) (ho : ∀ kvs, o ≠ .dK kvs := by intro _ z; cases z) : b ≠ p := by
  obtain ⟨kvs, e⟩ := hp.dk
  rintro rfl
  rw [hb] at e
  cases e
  exact ho _ rfl
theorem Pen.keep {H H' : Hp} {p b : Addr} {n : Nat} {o : HO} (hp : Pen H p n) (x : SameX p H H') (hb : H b = some o) (ho : ∀ kvs, o ≠ .dK kvs := by intro _ z; cases z) : H' b = some o := x.all b o hb (hp.nep hb ho)
end My

set_option Elab.async false
set_option linter.all false
set_option maxRecDepth 100000
set_option maxHeartbeats 1000000
namespace L2
open PySem PySem.Spec PyProof.Rows MA
end L2
namespace HT
open PySem PySem.Spec PyProof.Rows
end HT
namespace L2
open PySem PySem.Spec PyProof.Rows MA
section
variable {X : Cx} {e : Expr} {te : TE} {p2 p3 p4 pos : Pos}
/-- sorted(xs), xs a list of ints -/
theorem call_sorted0 : CallR X (.builtin "sorted") (fun xs H Q => ∃ (l : Addr) (ns : List Int), xs = [.ref l] ∧ H l = some (.lst (iv ns)) ∧ ns.length < 64 ∧ ∀ (q : Addr) (ms : List Int), H q = none → ms.Perm ns → ms.Pairwise (· ≤ ·) → Q (.ref q) (upd H q (.lst (iv ms)))) := by
  intro pins s σ H xs us Q I r h
  obtain ⟨l, ns, rfl, hl, h64, q⟩ := h
  obtain ⟨u, rfl, ru⟩ := vals1 r
  cases ru
  obtain ⟨its, rv, pl, hz⟩ := I.list (SqL.of (K := X.K) hl)
  have hlen := rv.length
  rw [List.length_map] at hlen
  refine sorted_ints pl.isList (intsAre_of rv) (by omega) fun out ms a1 a2 a3 => ?_
  obtain ⟨ee, he'⟩ := sortedAll_at s.heap its out
  have hml : ms.length = ns.length := a2.length_eq
  refine ⟨.ref (s.heap.objs.size + 1), _, I.laid (t' := s.toks) (a := s.heap.objs.size + 1) (o := .lst (iv ms)) (fun b o q => sortedAll_old q) (Nat.le_succ _) ⟨?_, out.toList, ee, vals_ints a1, ?_⟩, rfl, q _ ms (I.hok.fresh (Nat.le_succ _)) a2 a3⟩
  · rw [List.length_map, hml, sizeLine_eq]; omega
  · rw [he']
end
end L2
namespace L2
open PySem PySem.Spec PyProof.Rows MA
/-! ### data that lies in tuples and in what is new since H -/
end L2

set_option Elab.async false
set_option linter.all false
set_option maxRecDepth 100000
set_option maxHeartbeats 4000000
namespace L2
open PySem PySem.Spec PyProof.Rows
/-! ### comprehensions of two clauses: the block's body is any action on the new list -/
end L2

set_option Elab.async false
set_option linter.all false
set_option maxRecDepth 100000
set_option maxHeartbeats 1000000
namespace L2
open PySem PySem.Spec PyProof.Rows MA
/-! ### set(list of ints), len of a set, list(range(n)) -/
/-! ### readings of a clause's walk -/
/-! ### a tuple, a list walked inside a comprehension: no K -/
end L2

set_option Elab.async false
set_option linter.all false
set_option maxRecDepth 100000
set_option maxHeartbeats 1000000
namespace L2
open PySem PySem.Spec PyProof.Rows MA SeqAt
/-! ### a text and a dict are not the same -/
end L2

set_option Elab.async false
set_option linter.all false
set_option maxRecDepth 100000
set_option maxHeartbeats 1000000
namespace PySem
open Sem (wp)
namespace F
end F
end PySem
namespace L2
open PySem PySem.Spec PyProof.Rows MA
end L2

set_option Elab.async false
set_option linter.all false
set_option maxRecDepth 100000
set_option maxHeartbeats 4000000
namespace L2
open PySem PySem.Spec PyProof.Rows
/-! ### dict comprehensions of one clause -/
end L2

set_option Elab.async false
set_option linter.all false
set_option maxRecDepth 100000
set_option maxHeartbeats 1000000
namespace L2
open PySem PySem.Spec PyProof.Rows
/-! ### for k, v in d.items(): the dict is frozen from then on -/
theorem Inv.freeze {X : Cx} {pins : List (Addr × Obj)} {σ : St} {H : Hp} {s : Shared} {d : Addr} {kvs : List (Key × V)} (I : Inv X pins σ H s) (h : H d = some (.dK kvs)) : ∃ o, s.heap.get? d = some o ∧ Inv X pins σ (upd H d (.frz o (.dK kvs))) s := by
  have ok := I.hok d _ h
  obtain ⟨z, hd, vs, rel, dd⟩ := id ok
  obtain ⟨o, es, ep, ho, rest⟩ := id dd
  refine ⟨o, ho, ?_⟩
  exact d_write (t' := s.toks) I (by rw [h]; exact True.intro) ⟨rfl, fun _ _ => rfl⟩ ⟨o, ho⟩ ⟨ho, z, hd, vs, rel, dd⟩
end L2

set_option Elab.async false
set_option linter.all false
set_option maxRecDepth 100000
set_option maxHeartbeats 4000000
/-! ### isinstance of an own exception -/
namespace L2
open PySem PySem.Builtin PySem.Builtin.ObjectAttr PySem.Spec PyProof.Rows
/-- an own class under ValueError, as the module's part shows it -/
structure ExcK (K : PySem.W.Frag) (C : Addr) : Prop where
  ga : PySem.W.findIn K (.ref C) "__getattribute__" = some (some (.builtin "BaseException.__getattribute__"))
  gh : PySem.W.findIn K (.ref C) "__getattr__" = some none
  cl : PySem.W.findIn K (.ref C) "__class__" = some (some (.builtin "object.__class__"))
  gs : PySem.W.specialIn K (.builtin "object.__class__") "__get__" = some (some (.builtin "getset_descriptor.__get__"))
  tk : PySem.W.takesIn K (.builtin "object.__class__") = some true
  cd : (PySem.W.clsIn K C).isSome = true
  ob : PySem.W.mroIn K C (.type "object") = some true
  be : PySem.W.mroIn K C (.type "BaseException") = some true
/-- a thing whose class is the one at C -/
noncomputable def ExcAt (e C : Addr) (h : Heap) : Prop := ∃ o, h.get? e = some o ∧ o.cls = .ref C
section
variable {K : PySem.W.Frag} {e C : Addr} {h : Heap} {M : Model}
theorem ExcAt.type (x : ExcAt e C h) : PySem.W.Looks M h (typeOf (.ref e)) (.ref C) := by
  obtain ⟨o, h1, h2⟩ := x
  exact h2 ▸ (PySem.W.Looks.ld h1).andThen .now
theorem exc_find (X : K.In h) (z : ExcK K C) : PySem.W.Looks M h (find (.ref e) (.ref C) "__class__") (.bind (.builtin "getset_descriptor.__get__") (.builtin "object.__class__")) := by
  have l1 := PySem.W.looks_findIn (M := M) X z.cl
  have l2 : PySem.W.Looks M h (getOf (some (.builtin "object.__class__"))) (some (.builtin "getset_descriptor.__get__")) := PySem.W.looks_specialIn X z.gs
  have l3 := PySem.W.looks_takesIn (M := M) X z.tk
  have l4 : PySem.W.Looks M h (dataDescriptor? (some (.builtin "object.__class__")) (some (.builtin "getset_descriptor.__get__"))) (some (.builtin "getset_descriptor.__get__", .builtin "object.__class__")) := l3.andThen .now
  exact l1.andThen (l2.andThen (l4.andThen (.tag .now)))
end
section
variable {prog : Program} {w : World} {A : Around} {E : Value → Shared → Prop} {s : Shared} {K : PySem.W.Frag} {e C : Addr}
open PySem.W PySem.Builtin.Getset_descriptor in
theorem exc_getter {R : Result → Shared → Prop} {tp : Value} (X : K.In s.heap) (x : ExcAt e C s.heap) (z : ExcK K C) (q : R (.ok (.ret (.ref C))) s) :
    codeAny (model prog w) A (.call (.builtin "getset_descriptor.__get__") ⟨[.builtin "object.__class__", .ref e, tp], []⟩) R s := by
  obtain ⟨hh, gg, dr, tt, os⟩ := s
  have l0 := x.type (M := model prog w)
  have l1 := looks_mroIn (M := model prog w) X z.ob
  refine codeAny_call_builtin KF.slot_gs.plain
    KF.entry_gs (KF.slot_gs.check _ _ _ _ _ _ _ _
      KF.type_class (KF.args_gs _ _ _) ?_)
  unfold Builtin.«getset_descriptor.__get__»
    descrGet
  rw [dga_obj]
  refine wpAny_bind (wpAny_pure ?_)
  unfold descrGetter descrCheckInstance
    descrNameAndClass isInstance
  simp only [KF.owner_class]
  repeat lk
  refine ⟨Code.quiet_builtin _
    (by decide +kernel), codeAny_builtin KF.entry_class ?_⟩
  unfold Builtin.«object.__class__»
    shownTypeOf
  repeat lk
  exact q
open PySem.W in
theorem exc_check {M : Model} {nv : Value} {Q : Unit → Shared → Prop} (X : K.In s.heap) (x : ExcAt e C s.heap) (z : ExcK K C) (q : Q () s) :
    wpAny M A (checkBuiltinCall "BaseException.__getattribute__" ⟨[.ref e, nv], []⟩) Q E s := by
  obtain ⟨hh, gg, dr, tt, os⟩ := s
  have l0 := x.type (M := M)
  have l1 := looks_mroIn (M := M) X z.be
  have k1 : builtinKind "BaseException.__getattribute__" = some .slot := by decide +kernel
  have k2 : splitId "BaseException.__getattribute__" = some ("BaseException", "__getattribute__") := by decide +kernel
  have k3 := F.args_bexc_ga (.ref e) nv
  simp only [checkBuiltinCall, k1, k2]
  unfold isInstance
  refine wpAny_bind ?_
  repeat lk
  repeat (first | exact q | wp_step)
open PySem.W in
theorem exc_attr {Q : Option Value → Shared → Prop} (X : K.In s.heap) (x : ExcAt e C s.heap) (z : ExcK K C) (q : Q (some (.ref C)) { s with toks := s.toks + 1 }) :
    wpAny (model prog w) A (getAttr? (.ref e) "__class__") Q E s := by
  obtain ⟨hh, gg, dr, tt, os⟩ := s
  have l0 := x.type (M := model prog w)
  have l1 := looks_findIn (M := model prog w) X z.ga
  have l2 := looks_findIn (M := model prog w) X z.gh
  have l3 := exc_find (M := model prog w) (e := e) X z
  have b1 := F.attr_ValueError.ga.bind (.ref e)
  unfold getAttr? getAttrBy? getAttrBy
  refine wpAny_bind (wpAny_mkText (wpAny_bind (wpAny_attempt (wpAny_holding
    (wpAny_bind (l0.at (wpAny_bind (l1.at ?_))))))))
  have hx2 : (Value.builtin "BaseException.__getattribute__" == Value.builtin "object.__getattribute__") = false := by decide +kernel
  dsimp only
  rw [hx2, Bool.and_false, if_neg Bool.false_ne_true]
  unfold getAttrByItsOwn
  refine wpAny_bind (l2.at ?_)
  refine wpAny_bind (wpAny_attempt (wpAny_holding ?_))
  show wpAny _ _ (boundAndCalled _ _ _) _ _ _
  unfold boundAndCalled
  rw [b1]
  refine wpAny_bind (wpAny_pure ?_)
  refine wpAny_call (codeAny_call_builtin F.attr_ValueError.ga.plain F.entry_bexc_ga (exc_check X x z ?_))
  unfold Builtin.«object.__getattribute__»
  refine wpAny_bind (wpAny_pure ?_)
  refine wpAny_bind (wpAny_pure ?_)
  refine wpAny_bind (l0.at ?_)
  refine wpAny_bind (l3.at ?_)
  show wpAny _ _ (holding [_] (call _ [_, _, _]) >>= ret) _ _ _
  refine wpAny_bind (wpAny_holding (wpAny_call (exc_getter X x z ?_)))
  refine wpAny_pure ?_
  show wpAny _ _ (handedOut _) _ _ _
  exact handed_on rfl (wpAny_pure q)
open PySem.W in
theorem kitx_exc (z : ExcK K C) : KitX K (.ref e) (.ref C) (ExcAt e C) where
  ty := fun _ _ _ x => x.type
  it := fun _ _ X _ => by
    obtain ⟨cd, hc⟩ := Option.isSome_iff_exists.mp z.cd
    unfold clsIn at hc
    split at hc
    · rename_i ho
      intro A' Q' E' s' k q'
      unfold isType loadHead
      refine wpAny_bind (wpAny_loadPart (k _ _ (X _ _ ho)) ?_)
      exact wpAny_pure q'
    · cases hc
  ne := fun h tp dd its n sl X htp => by
    obtain ⟨cd, hc⟩ := Option.isSome_iff_exists.mp z.cd
    refine Bool.eq_false_iff.mpr fun q' => ?_
    have e' : C = tp := Value.ref.inj (beq_iff_eq.mp q')
    subst e'
    unfold clsIn at hc
    split at hc
    · rename_i ho
      have z' := (X _ _ ho).symm.trans htp
      cases z'
    · cases hc
  ca := fun X x q => exc_attr X x z q
end
end L2

set_option Elab.async false
set_option linter.all false
set_option maxRecDepth 100000
set_option maxHeartbeats 4000000
/-! ### own exceptions -/
namespace L2
open PySem PySem.Spec PyProof.Rows
/-- an own exception in flight, at x, of the class at C: all that was tracked or stood ahead of the call stands in B, which the flight keeps -/
structure FlyB (B : Heap) (a0 : Value) (P : Program) (w : World) (outer : List Env) (H : Hp) (s : Shared) (x C : Addr) (H' : Hp) (s' : Shared) : Prop where
  os : s'.os = s.os
  bare : AllBare s'.gens
  un : Un (frs outer) [] H H' s.heap s'.heap
  hok : HOk P w H' s'.heap
  fl : Heap.FlyingW B outer x (.ref C) a0 s'.heap
  tr : ∀ b u, H' b = some u → ∃ o, B.get? b = some o
  pre : ∀ b o, s.heap.get? b = some o → b ∉ frs outer → ∃ o', B.get? b = some o'
noncomputable def Fly (P : Program) (w : World) (outer : List Env) (H : Hp) (s : Shared) (x C : Addr) (H' : Hp) (s' : Shared) : Prop := ∃ B a0, FlyB B a0 P w outer H s x C H' s'
noncomputable def CX1 (P : Program) (w : World) : CXT := fun outer H s E e s' => ∃ x C H', e = .ref x ∧ Fly P w outer H s x C H' s' ∧ E (.ref C) none H'
theorem CX1.never {P : Program} {w : World} {outer : List Env} {H : Hp} {s s' : Shared} {e : Value} (h : CX1 P w outer H s (fun _ _ _ => False) e s') : False := let ⟨_, _, _, _, _, z⟩ := h; z
section
variable {X : Cx} {pins : List (Addr × Obj)} {σ : St} {H H' : Hp} {s s' : Shared}
/-- the frame is left: seen from the callers -/
theorem left_un {h2 h' B : Heap} (I : Inv X pins σ H s) (hx : X.ex = []) (hst : frs X.stack = X.env.locals :: X.fs) (u : Un (frs X.stack) [] H H' s.heap h2) (kB : B.StaysIn h2) (k' : B.StaysIn h')
    (ff : h'.FunFrames B X.outer) (up : h2.UpToSlots h') (pre : ∀ b o, s.heap.get? b = some o → b ∉ frs X.stack → ∃ o', B.get? b = some o') : Un X.fs [] X.H₀ H' X.s₀.heap h' := by
  have nx : ∀ b : Addr, b ∉ X.ex := fun b z => by rw [hx] at z; exact absurd z (by simp)
  have nL : ∀ b o, X.s₀.heap.get? b = some o → b ≠ X.env.locals := fun b o e => Nat.ne_of_lt (Nat.lt_of_lt_of_le (Heap.lt_size e) I.ok.above)
  have nS : ∀ b o, X.s₀.heap.get? b = some o → b ∉ X.fs → b ∉ frs X.stack := fun b o e hb z => by
    rw [hst] at z
    exact (List.mem_cons.mp z).elim (nL b o e) hb
  refine ⟨fun b o e n hb _ => ?_, fun b o e n hb _ => ?_, fun b o e n _ => ?_, fun b o e _ => ?_, fun b xs q => u.tups b xs (I.base.tups b xs q), fun b o v q => u.frzs b o v (I.base.frzs b o v q), fun b ps q => ?_⟩
  · have e1 := I.base.keep b o e n hb (nx b)
    have n1 := I.base.free b o e n (nx b)
    have e2 := u.keep b o e1 n1 (nS b o e hb) (by simp)
    obtain ⟨o', e3⟩ := pre b o e1 (nS b o e hb)
    have e4 := kB b o' e3
    rw [e2] at e4
    cases e4
    exact k' b o e3
  · obtain ⟨sl, e1⟩ := I.base.slot b o e n hb (nx b)
    have n1 := I.base.free b o e n (nx b)
    obtain ⟨sl2, e2⟩ := u.slot b _ e1 n1 (by rw [hst]; exact List.mem_cons_of_mem _ hb) (by simp)
    obtain ⟨_, o3, e3, hd⟩ := I.funs.mem hb
    rw [e1] at e3
    cases e3
    obtain ⟨sl3, e4⟩ := up b _ e2 hd
    exact ⟨sl3, e4⟩
  · obtain ⟨o1, e1⟩ := I.base.there b o e (nx b)
    exact u.free b o1 e1 (I.base.free b o e n (nx b)) (by simp)
  · obtain ⟨o1, e1⟩ := I.base.there b o e (nx b)
    by_cases hb : b ∈ X.fs
    · obtain ⟨_, o2, e2, _⟩ := ff.mem hb
      exact ⟨o2, e2⟩
    · obtain ⟨o2, e2⟩ := pre b o1 e1 (nS b o e hb)
      exact ⟨o2, k' b o2 e2⟩
  · obtain ⟨m1, e1⟩ := I.base.tbls b ps q
    obtain ⟨m2, e2⟩ := u.tbls b _ e1
    exact ⟨m1 ++ m2, by rw [e2, Array.append_assoc]⟩
/-- what is tracked stands in B -/
theorem hok_of_B {P : Program} {w : World} {h2 h' B : Heap} (hok : HOk P w H' h2) (kB : B.StaysIn h2) (k' : B.StaysIn h') (tr : ∀ b u, H' b = some u → ∃ o, B.get? b = some o) : HOk P w H' h' := fun a o e =>
  (hok a o e).stay (fun b u hb q => by
    obtain ⟨o', e'⟩ : ∃ o', B.get? b = some o' := by
      rcases hb with z | z
      · subst z; exact tr b o e
      · exact tr b _ z
    have e2 := kB b o' e'
    rw [q] at e2
    cases e2
    exact k' b u e') (fun _ q => q) fun _ _ q => q
/-- a def's body: its own frame is the uppermost one -/
structure Body (X : Cx) : Prop where
  ex : X.ex = []
  st : X.stack = X.env :: X.outer
  fr : X.env.frame = some X.env.locals
theorem Body.frs (b : Body X) : L2.frs X.stack = X.env.locals :: X.fs := by
  rw [b.st]
  show List.filterMap _ _ = _
  rw [List.filterMap_cons, b.fr]
  rfl
/-- an exception of a callee leaves this def, too -/
theorem fly_leave {M : Model} {E : XK} {E' : Value → Shared → Prop} {x C : Addr} (b : Body X) (I : Inv X pins σ H s) (F : Fly X.prog X.w X.stack H s x C H' s') (hE : E (.ref C) none H') :
    wpAny M X.A (leaving X.env (.ref x)) (fun _ s'' => CX1 X.prog X.w X.outer X.H₀ X.s₀ E (.ref x) s'') E' s' := by
  obtain ⟨B, a0, F⟩ := F
  have fl := F.fl
  have tr := F.tr
  have pre := F.pre
  have fl2 := fl
  rw [b.st] at fl2
  refine wpAny_leaves_onW (by rw [I.ok.frames, b.st]) b.fr fl2 fun h' f' up => ?_
  refine ⟨x, C, H', rfl, ⟨B, a0, F.os.trans I.os, F.bare, left_un I b.ex b.frs F.un fl.1 f'.1 f'.2.2.1 up pre, hok_of_B F.hok fl.1 f'.1 tr, f', tr, fun c o e hc => ?_⟩, hE⟩
  obtain ⟨o1, e1⟩ := I.base.there c o e (by rw [b.ex]; simp)
  refine pre c o1 e1 fun z => ?_
  rw [b.frs] at z
  exact (List.mem_cons.mp z).elim (Nat.ne_of_lt (Nat.lt_of_lt_of_le (Heap.lt_size e) I.ok.above)) hc
/-- an exception that was made here leaves this def -/
theorem made_leave {M : Model} {E : XK} {E' : Value → Shared → Prop} {x C : Addr} {vs : List Value} {h3 : Heap} (b : Body X) (I : Inv X pins σ H s) (hm : Heap.MadeExcOf s.heap h3 x (.ref C) vs) (hE : E (.ref C) none H) :
    wpAny M X.A (leaving X.env (.ref x)) (fun _ s'' => CX1 X.prog X.w X.outer X.H₀ X.s₀ E (.ref x) s'') E' { s with heap := h3 } := by
  have kB : (PySem.W.hideAll s.heap (frs X.stack)).StaysIn s.heap := fun c o q => PySem.W.of_hideAll _ q
  have ff : s.heap.FunFrames (PySem.W.hideAll s.heap (frs X.stack)) (X.env :: X.outer) := by
    have := I.stack
    rw [b.st] at this ⊢
    exact PySem.W.funFrames_hide this fun env he c hc => List.mem_filterMap.mpr ⟨env, he, hc⟩
  have inB : ∀ c o, s.heap.get? c = some o → c ∉ frs X.stack → (PySem.W.hideAll s.heap (frs X.stack)).get? c = some o := fun c o e hc => PySem.W.hideAll_get _ e hc
  have tr : ∀ c u, H c = some u → ∃ o, (PySem.W.hideAll s.heap (frs X.stack)).get? c = some o := fun c u q => by
    have : ∃ o, s.heap.get? c = some o := by
      have z := I.hok c u q
      cases u with
      | lst xs => obtain ⟨_, _, _, _, e⟩ := z; exact ⟨_, e⟩
      | tup xs => obtain ⟨_, _, _, o, e, _⟩ := z; exact ⟨_, e⟩
      | dK kvs => obtain ⟨_, _, _, _, o, _, _, e, _⟩ := z; exact ⟨_, e⟩
      | dT kvs => obtain ⟨_, _, _, _, o, _, _, e, _⟩ := z; exact ⟨_, e⟩
      | set S n => obtain ⟨o, _, _, _, e, _⟩ := z; exact ⟨_, e⟩
      | ins C dx fs => obtain ⟨_, _, _, e, _⟩ := z; exact ⟨_, e⟩
      | own y => exact z
      | xd fs => obtain ⟨_, ⟨_, _, _, e, _⟩, _⟩ := z; exact ⟨_, e⟩
      | rng lo hi => obtain ⟨_, _, _, e⟩ := z; exact ⟨_, e⟩
      | frz ob u => obtain ⟨e, _⟩ := z; exact ⟨_, e⟩
      | tbl ps => exact ⟨_, z⟩
      | tab q => obtain ⟨_, e, _⟩ := z; exact ⟨_, e⟩
      | met f y => exact ⟨_, z⟩
      | ext φ => obtain ⟨_, e, _⟩ := z; exact e
    obtain ⟨o, e⟩ := this
    exact ⟨o, inB c o e fun z => by rw [I.stkFree c z] at q; cases q⟩
  refine wpAny_leaves_madeW (by rw [I.ok.frames, b.st]) b.fr kB ff hm fun h' t f' _ _ up => ?_
  have k3 : ∀ c o, s.heap.get? c = some o → h3.get? c = some o := hm.keeps
  have kB3 : (PySem.W.hideAll s.heap (frs X.stack)).StaysIn h3 := fun c o q => k3 c o (kB c o q)
  have hok3 : HOk X.prog X.w H h3 := I.hok.kept k3
  refine ⟨x, C, H, rfl, ⟨_, _, I.os, I.bare, left_un I b.ex b.frs (Un.kept k3) kB3 f'.1 f'.2.2.1 up fun c o e hc => ⟨o, inB c o e hc⟩, hok_of_B hok3 kB3 f'.1 tr, f', tr, fun c o e hc => ?_⟩, hE⟩
  obtain ⟨o1, e1⟩ := I.base.there c o e (by rw [b.ex]; simp)
  refine ⟨o1, inB c o1 e1 fun z => ?_⟩
  rw [b.frs] at z
  exact (List.mem_cons.mp z).elim (Nat.ne_of_lt (Nat.lt_of_lt_of_le (Heap.lt_size e) I.ok.above)) hc
end
/-! ### raise -/
theorem body_of {CX : CXT} {P : Program} {w : World} {K : PySem.W.Frag} {mg : Str → Option Value} {base : Heap} {N : List Str} {qual : Str} {scope : Scope} {f : Addr} {cd : Value} {A : Around} {outer : List Env} {s : Shared} {H : Hp} {E : XK} :
    Body (cxOf CX P w K mg base N qual scope f cd A outer s H E) := ⟨rfl, rfl, rfl⟩
/-- what an exception that is made here must do -/
noncomputable def Raises (X : Cx) (E : XK) : Prop := ∀ (pins : List (Addr × Obj)) (σ : St) (H : Hp) (s : Shared) (h3 : Heap) (x C : Addr) (vs : List Value), Inv X pins σ H s → Heap.MadeExcOf s.heap h3 x (.ref C) vs → E (.ref C) none H → X.xe (.ref x) { s with heap := h3 }
section
variable {P : Program} {w : World} {K : PySem.W.Frag} {mg : Str → Option Value} {base : Heap} {N : List Str} {qual : Str} {scope : Scope} {f : Addr} {cd : Value} {A : Around} {outer : List Env} {s : Shared} {H : Hp} {E : XK}
theorem raises1 : Raises (cxOf (CX1 P w) P w K mg base N qual scope f cd A outer s H E) E := fun pins σ H1 s1 h3 x C vs I hm hE => made_leave body_of I hm hE
theorem passes1 : Passes (CX1 P w) (cxOf (CX1 P w) P w K mg base N qual scope f cd A outer s H E) E := fun pins σ H1 s1 e s' I h => by
  obtain ⟨x, C, H', rfl, F, hE⟩ := h
  exact fly_leave body_of I F hE
end
noncomputable abbrev bmVE : List Value := [.type "ValueError", .type "Exception", .type "BaseException", .type "object"]
open PySem.W in
theorem exc_obj {K : Frag} {h : Heap} {C : Addr} {bmB : List Value} {ni : String} (X : K.In h) (z : excIn K C bmB ni = true) :
    ∃ bm N nm qn bs hd sn sub ab col dd k0 k1 k2 k3 k5 mN, h.get? C = some (excClassObj nm qn C N bs bm hd sn sub ab col dd k0 k1 k2 k3 k5 ni) ∧ h.Ns N mN ∧ mN "__init__" = none ∧ OwnTail h bmB bm := by
  unfold excIn at z
  split at z
  · rename_i dd cd sl ho
    split at z
    · rename_i C' bm k0 k1 k2 k3 n k5 hm hs
      simp only [Bool.and_eq_true, beq_iff_eq, Bool.not_eq_true'] at z
      obtain ⟨⟨⟨⟨⟨z1, z2⟩, z3⟩, z4⟩, z5⟩, z6⟩ := z
      subst z1
      subst z2
      obtain ⟨nm, bs, mro, ns, qn, hd, sn, sub, ab, col, del⟩ := cd
      dsimp only at hm z3 z5 z6
      subst hm
      subst z3
      have e : sl = #[k0, k1, k2, k3, some (.builtin n), k5] := by
        cases sl with
        | mk l => simp only at hs; rw [hs]
      subst e
      refine ⟨bm, ns, nm, qn, bs, hd, sn, sub, ab, col, dd, k0, k1, k2, k3, k5, h.nsMap ns, X _ _ ho, ?_, ?_, tail_of_in X z4⟩
      · exact .of_isNs (isNs_of_in X z5)
      · exact nsMap_none_of_in X z5 z6
    · cases z
  · cases z
noncomputable def tRaise (C : Addr) (E : XK) (t : TA) : TS := fun _ σ H => t σ H fun vs H1 => vs.length ≤ sizeLine ∧ E (.ref C) none H1
theorem ps_raise {X : Cx} {E : XK} {C : Addr} {x : Str} {e : Expr} {es : List Expr} {t : TA} {np cpos pos : Pos} (R : Raises X E) (hc : X.calm = true) (z : PySem.W.excIn X.K C bmVE "ValueError.__new__" = true) (hg : Gl X x) (hm : X.mg x = some (.ref C)) (ha : PA X (e :: es) t)
    (hd : (x == ("__debug__" : Str)) = false := by decide) (he : starEach (e :: es) X.env = (false, eval e X.env) :: starEach es X.env := by rfl) (hpl : (backTo cpos (starEach es X.env)).any (·.1) = false := by rfl) :
    PS X (.Raise (some (.Call (.Name x np) (e :: es) [] cpos)) none pos) (tRaise C E t) := by
  intro pins s σ H D I h
  obtain ⟨bm, N, nm, qn, bs, hdc, sn, sub, ab, col, dd, k0, k1, k2, k3, k5, mN, hC, hN, hni, T⟩ := exc_obj I.mod.kin z
  refine wpAny_Raise_call_subT (C := C) (nm := nm) (q := qn) (N := N) (bs := bs) (bm := bm) (hdct := hdc) (sn := sn) (sub := sub) (ab := ab) (col := col) (dd := dd) (k0 := k0) (k1 := k1) (k2 := k2) (k3 := k3) (k5 := k5)
    F.excBase_ValueError (mN := mN) (T.hasType F.excBase_ValueError.hasBase) (I.ok.hd hc) ?_ hni (ld_glob I hg hm ⟨rfl, ?_⟩ hd)
  · rw [he]
    show (false || (backTo cpos (starEach es X.env)).any (·.1)) = false
    rw [hpl]
    rfl
  · have h1 := ha cpos pins s σ H _ I h
    rw [he] at h1 ⊢
    exact Calls.evalArgs_plain (thn h1 fun us s2 ⟨vs, H2, I2, r, hz, hE⟩ => ⟨rfl, by rw [← r.length]; exact hz, I2.bk _ _ hC, hN.keeps I2.bk, T.keeps I2.bk, fun h' x' hm' => R pins σ H2 s2 h' x' C us I2 hm' hE⟩)
end L2

set_option Elab.async false
set_option linter.all false
set_option maxRecDepth 100000
set_option maxHeartbeats 4000000
/-! ### try .. except -/
namespace L2
open PySem PySem.Spec PyProof.Rows
section
variable {P : Program} {w : World} {outer : List Env} {H H' : Hp} {s s' : Shared} {x C : Addr} {B : Heap} {a0 : Value}
/-- the flight goes on to another heap -/
theorem FlyB.move {h5 : Heap} (F : FlyB B a0 P w outer H s x C H' s') (ff : s.heap.FunFrames B outer) (f' : Heap.FlyingW B outer x (.ref C) a0 h5) (up : s'.heap.UpToSlots h5) : FlyB B a0 P w outer H s x C H' { s' with heap := h5 } := by
  refine ⟨F.os, F.bare, ⟨fun b o e n hb _ => ?_, fun b o e n hb _ => ?_, F.un.free, fun b o e _ => ?_, F.un.tups, F.un.frzs, F.un.tbls⟩, hok_of_B F.hok F.fl.1 f'.1 F.tr, f', F.tr, F.pre⟩
  · have e2 := F.un.keep b o e n hb (by simp)
    obtain ⟨o', e3⟩ := F.pre b o e hb
    have e4 := F.fl.1 b o' e3
    rw [e2] at e4
    cases e4
    exact f'.1 b o e3
  · obtain ⟨sl, e2⟩ := F.un.slot b o e n hb (by simp)
    obtain ⟨_, o3, e3, hd⟩ := ff.mem hb
    rw [e] at e3
    cases e3
    obtain ⟨sl3, e4⟩ := up b _ e2 hd
    exact ⟨sl3, e4⟩
  · by_cases hb : b ∈ frs outer
    · obtain ⟨_, o2, e2, _⟩ := f'.2.2.1.mem hb
      exact ⟨o2, e2⟩
    · obtain ⟨o2, e2⟩ := F.pre b o e hb
      exact ⟨o2, f'.1 b o2 e2⟩
theorem FlyB.ne (F : FlyB B a0 P w outer H s x C H' s') {b : Addr} {u : HO} (e : H' b = some u) : b ≠ x := fun z => by
  obtain ⟨o, e'⟩ := F.tr b u e
  rw [z, F.fl.2.1] at e'
  cases e'
theorem FlyB.at (F : FlyB B a0 P w outer H s x C H' s') : ExcAt x C s'.heap := by
  obtain ⟨o, e, c⟩ := F.fl.there
  exact ⟨o, e, c⟩
/-- the thing as an object of its own -/
noncomputable abbrev excO (x C : Addr) : HO := .ext (ExcAt x C)
theorem excO_ok {h : Heap} (z : ExcAt x C h) : ObjOk P w H h x (excO x C) := by
  obtain ⟨o, e, c⟩ := z
  refine ⟨⟨o, e, c⟩, ⟨o, e⟩, fun h1 h2 ⟨o1, e1, c1⟩ k => ⟨o1, k o1 e1, c1⟩⟩
theorem FlyB.fresh (F : FlyB B a0 P w outer H s x C H' s') : s.heap.get? x = none := by
  cases e : s.heap.get? x with
  | none => rfl
  | some o =>
    by_cases hb : x ∈ frs outer
    · obtain ⟨_, o2, e2, hd⟩ := F.fl.2.2.1.mem hb
      obtain ⟨o3, vs, e3, _, hd3, _⟩ := F.fl.first
      rw [e2] at e3
      cases e3
      exact absurd hd3 (hd vs)
    · obtain ⟨o', e'⟩ := F.pre x o e hb
      rw [F.fl.2.1] at e'
      cases e'
theorem FlyB.free (F : FlyB B a0 P w outer H s x C H' s') : H' x = none := by
  cases e : H' x with
  | none => rfl
  | some u => exact absurd rfl (F.ne e)
theorem FlyB.un2 (F : FlyB B a0 P w outer H s x C H' s') : Un (frs outer) [] H (upd H' x (excO x C)) s.heap s'.heap where
  keep := F.un.keep
  slot := F.un.slot
  free := fun b o e n he => by
    rw [upd_ne fun z => by rw [z, F.fresh] at e; cases e]
    exact F.un.free b o e n he
  there := F.un.there
  tups := fun b xs q => by rw [upd_ne (F.ne (F.un.tups b xs q))]; exact F.un.tups b xs q
  frzs := fun b o u q => by rw [upd_ne (F.ne (F.un.frzs b o u q))]; exact F.un.frzs b o u q
  tbls := fun b ps q => by
    obtain ⟨m, e⟩ := F.un.tbls b ps q
    exact ⟨m, by rw [upd_ne (F.ne e)]; exact e⟩
theorem FlyB.hok2 (F : FlyB B a0 P w outer H s x C H' s') : HOk P w (upd H' x (excO x C)) s'.heap := fun b u q => by
  by_cases hb : b = x
  · subst hb
    rw [upd_same] at q
    cases q
    exact excO_ok F.at
  · rw [upd_ne hb] at q
    exact (F.hok b u q).stay (fun _ _ _ z => z) (fun c z => by rw [upd_ne (F.ne z)]; exact z) (fun c xs z => by rw [upd_ne (F.ne z)]; exact z) fun c ob z => by rw [upd_ne (F.ne z)]; exact z
end
section
variable {X : Cx} {pins : List (Addr × Obj)} {σ : St} {H H' : Hp} {s s' : Shared} {x C : Addr} {B : Heap} {a0 : Value}
theorem FlyB.inv (I : Inv X pins σ H s) (F : FlyB B a0 X.prog X.w X.stack H s x C H' s') : Inv X pins σ H' s' := I.call' F.os F.un F.hok F.bare fun b z => absurd z (by simp)
theorem FlyB.land (I : Inv X pins σ H s) (F : FlyB B a0 X.prog X.w X.stack H s x C H' s') : Inv X pins σ (upd H' x (excO x C)) s' := I.call' F.os F.un2 F.hok2 F.bare fun b z => absurd z (by simp)
/-- within the suite of an except -/
noncomputable abbrev Cx.mark (X : Cx) (x : Addr) : Cx := { X with A := X.A.mark (some (.ref x)), calm := false, xe := fun _ _ => False }
theorem Inv.mark (I : Inv X pins σ H s) (x : Addr) : Inv (X.mark x) pins σ H s :=
  ⟨⟨I.ok.mod, I.ok.kind, I.ok.glob, I.ok.blt, I.ok.above, I.ok.inj, I.ok.has, I.ok.cab, (fun z => Bool.noConfusion z), I.ok.frames, I.ok.stk, I.ok.exf, I.ok.bs, I.ok.bsz, I.ok.noex, I.ok.exfs, I.ok.funs, I.ok.frf⟩, I.os, I.bare, I.base, I.loc, I.cell, I.free, I.freeC, I.pin, I.hok, I.len⟩
theorem Inv.unmark (K : X.Ok) (I : Inv (X.mark x) pins σ H s) : Inv X pins σ H s := ⟨K, I.os, I.bare, I.base, I.loc, I.cell, I.free, I.freeC, I.pin, I.hok, I.len⟩
/-- a name of ours goes -/
theorem unname_ok {M : Model} {A : Around} {E : Value → Shared → Prop} {i : Nat} {n : Str} {pos : Pos} {Q : Unit → Shared → Prop} (I : Inv X pins σ H s) (hN : X.N.Nodup) (hi : X.N[i]? = some n) (hl : X.env.scope.names.lookup n = some .local)
    (q : ∀ s', Inv X pins (σ.set i none) H s' → Q () s') : wpAny M A (do bindName X.env n .none; unbindBehindTheSuite X.env n pos) Q E s := by
  obtain ⟨m, hn, hlk⟩ := id I.loc
  have hcls : (X.env.scope.kind == .class || (X.env.scope.kind == .module && X.env.locals != X.env.globals)) = false := by rw [I.ok.kind]; rfl
  refine wpAny_nameGoes_keeps hl hn hcls fun h' v hn' hs => ?_
  obtain ⟨oL, _, _, hoL, _⟩ := id hn
  have low : ∀ b o, X.s₀.heap.get? b = some o → b ≠ X.env.locals := fun b o e => Nat.ne_of_lt (Nat.lt_of_lt_of_le (Heap.lt_size e) I.ok.above)
  refine q _ ⟨I.ok, I.os, I.bare, ⟨fun b o e n' hb hx => ?_, fun b o e n' hb hx => ?_, I.base.free, fun b o e hx => ?_, I.base.tups, I.base.frzs, I.base.tbls⟩, ⟨_, hn', fun j y v' e1 e2 e3 => ?_⟩, fun y c e => ?_, I.free, I.freeC, fun p hp => ?_, fun b ob e => ?_, by simpa using I.len⟩
  · exact (hs.2 b (low b o e)).trans (I.base.keep b o e n' hb hx)
  · obtain ⟨sl, e1⟩ := I.base.slot b o e n' hb hx
    exact ⟨sl, (hs.2 b (low b o e)).trans e1⟩
  · obtain ⟨o', e1⟩ := I.base.there b o e hx
    exact ⟨o', (hs.2 b (low b o e)).trans e1⟩
  · by_cases hj : j = i
    · subst hj
      have : j < σ.length := by rw [I.len]; exact (List.getElem?_eq_some_iff.mp hi).1
      rw [List.getElem?_set_self this] at e2
      cases e2
    · rw [List.getElem?_set_ne (Ne.symm hj)] at e2
      obtain ⟨u', r', lk⟩ := hlk j y v' e1 e2 e3
      refine ⟨u', r', ?_⟩
      rcases lk with ⟨k, e⟩ | ⟨k, c, e, z⟩
      · refine .inl ⟨k, ?_⟩
        have : y ≠ n := fun e => hj (nodup_ix hN e1 (e ▸ hi))
        show (if y = n then v else m y) = some u'
        rw [if_neg this]
        exact e
      · exact .inr ⟨k, c, e, z.sameBut hs (I.cne y c e)⟩
  · obtain ⟨w', z⟩ := I.cell y c e
    exact ⟨w', z.sameBut hs (I.cne y c e)⟩
  · obtain ⟨e, n', ne, nf, d⟩ := I.pin p hp
    exact ⟨(hs.2 p.1 ne).trans e, n', ne, nf, d⟩
  · refine (I.hok b ob e).stay (fun c w' hc q => (hs.2 c ?_).trans q) (fun _ q => q) fun _ _ q => q
    rintro rfl
    rcases hc with z | z
    · subst z; rw [I.free] at e; cases e
    · rw [I.free] at z; cases z
end
/-! ### what may raise: an expression, a statement -/
noncomputable def FX (X : Cx) (pins : List (Addr × Obj)) (EX : St → Addr → Hp → Prop) (e : Value) (s' : Shared) : Prop :=
  ∃ x C σ H H' s, e = .ref x ∧ Inv X pins σ H s ∧ Fly X.prog X.w X.stack H s x C H' s' ∧ EX σ C H'
noncomputable abbrev TEX := St → Hp → VK → (Addr → Hp → Prop) → Prop
noncomputable abbrev TSX := Ends → (St → Addr → Hp → Prop) → St → Hp → Prop
noncomputable def PEX (X : Cx) (e : Expr) (t : TEX) : Prop :=
  ∀ (pins : List (Addr × Obj)) (s : Shared) (σ : St) (H : Hp) (Q : VK) (EX : St → Addr → Hp → Prop), Inv X pins σ H s → t σ H Q (EX σ) → wpAny (model X.prog X.w) X.A (eval e X.env) (EP X pins σ Q) (FX X pins EX) s
noncomputable def PSX (X : Cx) (st : List Stmt) (t : TSX) : Prop :=
  ∀ (pins : List (Addr × Obj)) (s : Shared) (σ : St) (H : Hp) (D : Ends) (EX : St → Addr → Hp → Prop), Inv X pins σ H s → t D EX σ H → wpAny (model X.prog X.w) X.A (execs st X.env) (SP X pins D) (FX X pins EX) s
theorem execs_one {M : Model} {A : Around} {E : Value → Shared → Prop} {st : Stmt} {env : Env} {Q : Flow → Shared → Prop} {s : Shared} (h : wpAny M A (exec st env) Q E s) : wpAny M A (execs [st] env) Q E s := by
  refine wpAny_execs_cons (thn h fun f s1 q => ?_)
  cases f with
  | next => exact wpAny_execs_nil q
  | ret v => exact q
  | brk => exact q
  | cont => exact q
section
variable {X : Cx}
noncomputable def sxSet (i : Nat) (te : TEX) : TSX := fun D EX σ H => te σ H (fun v H1 => D.nx (σ.set i (some v)) H1) (EX σ)
theorem psx_set {i : Nat} {x : Str} {e : Expr} {te : TEX} {pos pos' : Pos} (hN : X.N.Nodup) (hi : X.N[i]? = some x) (hx : Loc X.env.scope x) (he : PEX X e te) (hs : swapsWith e (some (.Name x pos')) pos.line X.env = pure false := by rfl)
    (hf : X.fn x = true ∨ X.env.scope.names.lookup x = some .local := by first | exact .inl rfl | exact .inr rfl | assumption) : PSX X [.Assign [.Name x pos'] e pos] (sxSet i te) := by
  intro pins s σ H D EX I h
  refine execs_one (wpAny_Assign_Name (wpAny_mono (he pins s σ H _ EX I h) (fun v s1 ⟨x1, H1, I1, r, q⟩ => ?_) fun _ _ z => z) hs)
  exact store_ok I1 hN hi hx r (fun s2 I2 => ⟨_, H1, I2, q⟩) hf
end
/-! ### the statement -/
/-- try: body except c as n: suite -/
noncomputable def tTryAs (K : PySem.W.Frag) (cv : Value) (m : Nat) (tb : TSX) (ts : TS) : TS := fun D σ H => tb D (fun σ' C H' => PySem.W.exmOne K (.ref C) cv = some true ∧ ∀ p, H' p = none →
  ts { nx := fun σ2 H2 => D.nx (σ2.set m none) H2, rt := D.rt, bk := fun σ2 H2 => D.bk (σ2.set m none) H2, ct := fun σ2 H2 => D.ct (σ2.set m none) H2 } (σ'.set m (some (.ref p))) (upd H' p (excO p C))) σ H
theorem ps_tryAs {X : Cx} {body suite : List Stmt} {b0 : Stmt} {c n : Str} {np hp pos : Pos} {cv : Value} {m : Nat} {tb : TSX} {ts : TS} (hB : Body X) (hN : X.N.Nodup) (hm : X.N[m]? = some n) (hl : X.env.scope.names.lookup n = some .local) (hg : Gl X c) (hcv : X.mg c = some cv)
    (hb : PSX X body tb) (hs : ∀ x, PSs (X.mark x) (b0 :: suite) ts) (hd : (c == ("__debug__" : Str)) = false := by decide) :
    PS X (.Try body [.ExceptHandler (some (.Name c np)) (some n) (b0 :: suite) hp] [] [] pos) (tTryAs X.K cv m tb ts) := by
  intro pins s σ H D I h
  refine wpAny_Try_except (wpAny_mono (hb pins s σ H D _ I h) (fun f s1 q => ?_) fun e s1 z => ?_)
  · cases f with
    | next => exact wpAny_execs_nil q
    | ret v => exact q
    | brk => exact q
    | cont => exact q
  · obtain ⟨x, C, σ', H1, H', s0, rfl, I0, ⟨B, a0, F⟩, hk, hq⟩ := z
    have stk : s0.heap.FunFrames B X.stack := by
      have h1 := I0.stack
      have all : ∀ l : List Env, (∀ b ∈ frs l, b ∈ frs X.stack) → s0.heap.FunFrames X.base l → s1.heap.FunFrames B l → s0.heap.FunFrames B l := by
        intro l
        induction l with
        | nil => intro _ _ _; trivial
        | cons env r ih =>
          intro hs hl hf
          obtain ⟨k1, ⟨L, o, f1, _, ho, hd1⟩, hr⟩ := hl
          obtain ⟨_, ⟨L2, o2, f2, hn2, _, _⟩, hr2⟩ := hf
          rw [f1] at f2
          cases f2
          exact ⟨k1, ⟨L, o, f1, hn2, ho, hd1⟩, ih (fun b hb => hs b (by unfold frs; rw [List.filterMap_cons, f1]; exact List.mem_cons_of_mem _ hb)) hr hr2⟩
      exact all X.stack (fun _ hb => hb) h1 F.fl.2.2.1
    have fl := F.fl
    have fl' := F.fl
    rw [hB.st] at fl'
    refine wpAny_looks_onW (by rw [I.ok.frames, hB.st]) hB.fr fl' fun h4 held4 up4 => wpAny_landsW held4 fun h5 fl5 up5 => ?_
    have fl5' := fl5
    rw [← hB.st] at fl5'
    have F5 := F.move stk fl5' (up4.trans up5)
    have I5 := F5.inv I0
    have Im := I5.mark x
    refine wpAny_handleBy_cons (codeAny_handlers_test (ld_glob Im hg hcv ?_ hd)) (by intro q; cases q)
    refine (PySem.W.exm_one Im.kIn F5.at.type hk).here ?_
    refine codeAny_handlers_suite_as (lands_againW fl5' fun h6 fl6 up6 => ?_)
    have F6 := F5.move stk fl6 up6
    have I6 := F6.land I0
    refine store_ok I6 hN hm (.inl hl) (v := .ref x) rfl (fun s7 I7 => ?_) (.inr hl)
    refine wpAny_mono (hs x pins s7 _ _ _ (I7.mark x) (hq x F6.free)) (fun f s8 q => ?_) fun _ _ z => False.elim z
    cases f with
    | next =>
      obtain ⟨σ8, H8, I8, q8⟩ := q
      exact unname_ok (I8.unmark I.ok) hN hm hl fun s9 I9 => ⟨_, H8, I9, q8⟩
    | ret v =>
      obtain ⟨v8, σ8, H8, I8, r8, q8⟩ := q
      exact unname_ok (I8.unmark I.ok) hN hm hl fun s9 I9 => ⟨v8, _, H8, I9, r8, q8⟩
    | brk =>
      obtain ⟨σ8, H8, I8, q8⟩ := q
      exact unname_ok (I8.unmark I.ok) hN hm hl fun s9 I9 => ⟨_, H8, I9, q8⟩
    | cont =>
      obtain ⟨σ8, H8, I8, q8⟩ := q
      exact unname_ok (I8.unmark I.ok) hN hm hl fun s9 I9 => ⟨_, H8, I9, q8⟩
end L2

set_option Elab.async false
set_option linter.all false
set_option maxRecDepth 100000
set_option maxHeartbeats 4000000
/-! ### lambdas -/
namespace L2
open PySem PySem.Spec PyProof.Rows
/-- an object that is known and stays; a cell that is known for a while -/
noncomputable abbrev fz (o : Obj) : HO := .frz o (.own 0)
noncomputable abbrev fc (o : Obj) : HO := .frz o (.own 1)
noncomputable def dropC (cs : List Addr) (H : Hp) : Hp := fun b => if b ∈ cs then none else H b
noncomputable def frzC (h : Heap) (cs : List Addr) (H : Hp) : Hp := fun b => if b ∈ cs then (h.get? b).map fc else H b
noncomputable def backC (cs : List Addr) (H H2 : Hp) : Hp := fun b => if b ∈ cs then H b else H2 b
section
variable {cs : List Addr} {H H' H2 : Hp} {h h' : Heap} {b : Addr}
theorem dropC_in (e : b ∈ cs) : dropC cs H b = none := if_pos e
theorem dropC_out (e : b ∉ cs) : dropC cs H b = H b := if_neg e
theorem frzC_in {o : Obj} (e : b ∈ cs) (q : h.get? b = some o) : frzC h cs H b = some (fc o) := by unfold frzC; rw [if_pos e, q]; rfl
theorem frzC_out (e : b ∉ cs) : frzC h cs H b = H b := if_neg e
theorem backC_in (e : b ∈ cs) : backC cs H H2 b = H b := if_pos e
theorem backC_out (e : b ∉ cs) : backC cs H H2 b = H2 b := if_neg e
/-- the cells are there, untracked -/
noncomputable def CellsIn (cs : List Addr) (H : Hp) (h : Heap) : Prop := ∀ c ∈ cs, H c = none ∧ ∃ o, h.get? c = some o
/-- the cells are known -/
noncomputable def CellsAt (cs : List Addr) (H : Hp) : Prop := ∀ c ∈ cs, ∃ o, H c = some (fc o)
theorem CellsIn.frz (x : CellsIn cs H h) : CellsAt cs (frzC h cs H) := fun c hc => let ⟨_, o, e⟩ := x c hc; ⟨o, frzC_in hc e⟩
theorem out_of {u : HO} (x : CellsIn cs H h) (e : H b = some u) : b ∉ cs := fun z => by rw [(x b z).1] at e; cases e
theorem out_at {u : HO} (x : CellsAt cs H) (e : H b = some u) (n : ∀ o, u ≠ fc o) : b ∉ cs := fun z => by
  obtain ⟨o, q⟩ := x b z
  rw [q] at e
  cases e
  exact n o rfl
variable {P : Program} {w : World} {fs : List Addr}
theorem hok_frz (x : CellsIn cs H h) (ok : HOk P w H h) : HOk P w (frzC h cs H) h := fun b u q => by
  by_cases hb : b ∈ cs
  · obtain ⟨_, o, e⟩ := x b hb
    rw [frzC_in hb e] at q
    cases q
    exact ⟨e, o, e⟩
  · rw [frzC_out hb] at q
    exact (ok b u q).stay (fun _ _ _ z => z) (fun c z => by rw [frzC_out (out_of x z)]; exact z) (fun c xs z => by rw [frzC_out (out_of x z)]; exact z) fun c ob z => by rw [frzC_out (out_of x z)]; exact z
theorem un_frz (x : CellsIn cs H h) (u : Un fs [] (frzC h cs H) H' h h') (ok : HOk P w H' h') : Un fs [] H (dropC cs H') h h' where
  keep := fun b o e n hb he => by
    by_cases hc : b ∈ cs
    · have q := u.frzs b o _ (frzC_in (H := H) hc e)
      exact (ok b _ q).1
    · exact u.keep b o e (by rw [frzC_out hc]; exact n) hb he
  slot := fun b o e n hb he => by
    by_cases hc : b ∈ cs
    · have q := u.frzs b o _ (frzC_in (H := H) hc e)
      exact ⟨o.slots, (ok b _ q).1⟩
    · exact u.slot b o e (by rw [frzC_out hc]; exact n) hb he
  free := fun b o e n he => by
    by_cases hc : b ∈ cs
    · exact dropC_in hc
    · rw [dropC_out hc]
      exact u.free b o e (by rw [frzC_out hc]; exact n) he
  there := u.there
  tups := fun b xs q => by
    have hc := out_of x q
    rw [dropC_out hc]
    exact u.tups b xs (by rw [frzC_out hc]; exact q)
  frzs := fun b o v q => by
    have hc := out_of x q
    rw [dropC_out hc]
    exact u.frzs b o v (by rw [frzC_out hc]; exact q)
  tbls := fun b ps q => by
    have hc := out_of x q
    obtain ⟨m, e⟩ := u.tbls b ps (by rw [frzC_out hc]; exact q)
    exact ⟨m, by rw [dropC_out hc]; exact e⟩
theorem hok_drop (x : CellsAt cs H') (ok : HOk P w H' h') : HOk P w (dropC cs H') h' := fun b u q => by
  by_cases hb : b ∈ cs
  · rw [dropC_in hb] at q
    cases q
  · rw [dropC_out hb] at q
    exact (ok b u q).stay (fun _ _ _ z => z) (fun c z => by rw [dropC_out (out_at x z fun _ => by simp)]; exact z) (fun c xs z => by rw [dropC_out (out_at x z fun _ => by simp)]; exact z)
      fun c ob z => by rw [dropC_out (out_at x z fun _ => by simp)]; exact z
theorem at_of_un (x : CellsAt cs H) (u : Un fs [] H H' h h') : CellsAt cs H' := fun c hc => let ⟨o, e⟩ := x c hc; ⟨o, u.frzs c o _ e⟩
/-- into the lambda's body and back: the cells are not tracked there -/
theorem un_back (x : CellsAt cs H) (u : Un fs [] (dropC cs H) H2 h h') : Un fs [] H (backC cs H H2) h h' := by
  have out : ∀ {b : Addr}, H b = none → b ∉ cs := fun {b} n z => by obtain ⟨o, e⟩ := x b z; rw [n] at e; cases e
  refine ⟨fun b o e n hb he => u.keep b o e (by rw [dropC_out (out n)]; exact n) hb he, fun b o e n hb he => u.slot b o e (by rw [dropC_out (out n)]; exact n) hb he,
    fun b o e n he => by rw [backC_out (out n)]; exact u.free b o e (by rw [dropC_out (out n)]; exact n) he, u.there, fun b xs q => ?_, fun b o v q => ?_, fun b ps q => ?_⟩
  · have hc := out_at x q fun _ => by simp
    rw [backC_out hc]
    exact u.tups b xs (by rw [dropC_out hc]; exact q)
  · by_cases hc : b ∈ cs
    · rw [backC_in hc]; exact q
    · rw [backC_out hc]; exact u.frzs b o v (by rw [dropC_out hc]; exact q)
  · have hc := out_at x q fun _ => by simp
    obtain ⟨m, e⟩ := u.tbls b ps (by rw [dropC_out hc]; exact q)
    exact ⟨m, by rw [backC_out hc]; exact e⟩
theorem hok_back (x : CellsAt cs H) (ok0 : HOk P w H h) (nf : ∀ c ∈ cs, c ∉ fs) (u : Un fs [] (dropC cs H) H2 h h') (ok : HOk P w H2 h') : HOk P w (backC cs H H2) h' := by
  have no : ∀ c ∈ cs, H2 c = none := fun c hc => by
    obtain ⟨o, e⟩ := x c hc
    exact u.free c o (ok0 c _ e).1 (dropC_in hc) (by simp)
  have out : ∀ {b : Addr} {v : HO}, H2 b = some v → b ∉ cs := fun {b v} e z => by rw [no b z] at e; cases e
  intro b v q
  by_cases hc : b ∈ cs
  · rw [backC_in hc] at q
    obtain ⟨o, e⟩ := x b hc
    rw [q] at e
    cases e
    have e2 := u.keep b o (ok0 b _ q).1 (dropC_in hc) (nf b hc) (by simp)
    exact ⟨e2, o, e2⟩
  · rw [backC_out hc] at q
    exact (ok b v q).stay (fun _ _ _ z => z) (fun c z => by rw [backC_out (out z)]; exact z) (fun c xs z => by rw [backC_out (out z)]; exact z) fun c ob z => by rw [backC_out (out z)]; exact z
end
/-- a call's end, seen with the cells known -/
theorem cr_back {P : Program} {w : World} {outer : List Env} {cs : List Addr} {H : Hp} {s s' : Shared} {Q Q' : VK} {E E' : XK} {r : Result} (x : CellsAt cs H) (ok0 : HOk P w H s.heap) (nf : ∀ c ∈ cs, c ∉ frs outer)
    (hQ : ∀ v H2, (∀ c ∈ cs, H2 c = none) → Q v H2 → Q' v (backC cs H H2)) (hE : ∀ c d H2, (∀ c ∈ cs, H2 c = none) → E c d H2 → E' c d (backC cs H H2))
    (h : CR (CX1 P w) outer P w (dropC cs H) s Q E r s') : CR (CX1 P w) outer P w H s Q' E' r s' := by
  have no : ∀ {H2 : Hp}, Un (frs outer) [] (dropC cs H) H2 s.heap s'.heap → ∀ c ∈ cs, H2 c = none := fun u c hc => by
    obtain ⟨o, e⟩ := x c hc
    exact u.free c o (ok0 c _ e).1 (dropC_in hc) (by simp)
  cases r with
  | error e =>
    obtain ⟨y, C, H2, rfl, ⟨B, a0, F⟩, hx⟩ := h
    refine ⟨y, C, backC cs H H2, rfl, ⟨B, a0, F.os, F.bare, un_back x F.un, hok_back x ok0 nf F.un F.hok, F.fl, fun b u q => ?_, F.pre⟩, hE _ _ _ (no F.un) hx⟩
    by_cases hc : b ∈ cs
    · obtain ⟨o, e⟩ := x b hc
      exact F.pre b o (ok0 b _ e).1 (nf b hc)
    · rw [backC_out hc] at q
      exact F.tr b u q
  | ok fl =>
    cases fl with
    | ret u =>
      obtain ⟨v, H2, os, bare, un, hok, rv, q⟩ := h
      exact ⟨v, backC cs H H2, os, bare, un_back x un, hok_back x ok0 nf un hok, rv, hQ v H2 (no un) q⟩
    | next => exact h
    | brk => exact h
    | cont => exact h
end L2

set_option Elab.async false
set_option linter.all false
set_option maxRecDepth 100000
set_option maxHeartbeats 4000000
/-! ### a lambda without arguments, handed to a def that calls it -/
namespace L2
open PySem PySem.Spec PyProof.Rows
noncomputable abbrev Sp0 := Hp → VK → XK → Prop
noncomputable def ClOk (P : Program) (w : World) (K : PySem.W.Frag) (mg : Str → Option Value) (base : Heap) (k : Nat) (f : Addr) (sp : Sp0) : Prop :=
  ∀ (A : Around) (outer : List Env) (s : Shared) (H : Hp) (Q : VK) (E : XK), Room k A → Env0 P w K mg base A outer s H → sp H Q E → codeAny (model P w) A (.call (.ref f) ⟨[], []⟩) (CR (CX1 P w) outer P w H s Q E) s
/-- the context of a lambda's body -/
noncomputable def cxLam (P : Program) (w : World) (K : PySem.W.Frag) (mg : Str → Option Value) (base : Heap) (N : List Str) (qual : Str) (scope : Scope) (cl : List (Str × Addr)) (f : Addr) (cd : Value) (A : Around) (outer : List Env) (s : Shared) (H : Hp) (E : XK) : Cx where
  prog := P
  w := w
  K := K
  mg := mg
  base := base
  A := A.deeper (PySem.W.envX qual scope s.heap.objs.size f cd cl)
  N := N
  s₀ := s
  H₀ := H
  env := PySem.W.envX qual scope s.heap.objs.size f cd cl
  outer := outer
  stack := PySem.W.envX qual scope s.heap.objs.size f cd cl :: outer
  ex := []
  calm := true
  fn := fun _ => false
  pn := []
  xe := fun e s' => wpAny (model P w) (A.deeper (PySem.W.envX qual scope s.heap.objs.size f cd cl)) (leaving (PySem.W.envX qual scope s.heap.objs.size f cd cl) e) (fun _ s'' => CX1 P w outer H s E e s'') (fun e' s'' => CX1 P w outer H s E e' s'') s'
section
variable {P : Program} {w : World} {K : PySem.W.Frag} {mg : Str → Option Value} {base : Heap} {N : List Str} {qual : Str} {scope : Scope} {cl : List (Str × Addr)} {f c' : Addr} {cd : Value}
theorem body_lam {A : Around} {outer : List Env} {s : Shared} {H : Hp} {E : XK} : Body (cxLam P w K mg base N qual scope cl f cd A outer s H E) := ⟨rfl, rfl, rfl⟩
theorem passesL {A : Around} {outer : List Env} {s : Shared} {H : Hp} {E : XK} : Passes (CX1 P w) (cxLam P w K mg base N qual scope cl f cd A outer s H E) E := fun pins σ H1 s1 e s' I h => by
  obtain ⟨x, C, H', rfl, F, hE⟩ := h
  exact fly_leave body_lam I F hE
/-- what the call of the lambda promises -/
noncomputable def spLam (cs : List Addr) (Hc : Hp) (f c' : Addr) (te : XK → TE) (σl : St) : Sp0 := fun H' Q' E' => H' f = Hc f ∧ H' c' = Hc c' ∧ (∀ c ∈ cs, H' c = Hc c) ∧ ∃ Qu Eu, te Eu σl (dropC cs H') Qu ∧
  (∀ v H2, (∀ c ∈ cs, H2 c = none) → Qu v H2 → Q' v (backC cs H' H2)) ∧ (∀ c d H2, (∀ c ∈ cs, H2 c = none) → Eu c d H2 → E' c d (backC cs H' H2))
theorem lam_run {k : Nat} {params : Arguments} {body : Expr} {pm ctv : Value} {cs : List Addr} {Hc : Hp} {σl : St} {oc : Obj} {vs : Array Value} {t : Tok} {te : XK → TE}
    (hkind : scope.kind = .function) (hco : scope.isCoroutine = false) (hgen : scope.isGenerator = false) (hcell : ∀ y ∈ scope.names, y.2 ≠ .cell)
    (hcl1 : ∀ x c, cl.lookup x = some c → c ∈ cs) (inj : ∀ x y c, cl.lookup x = some c → cl.lookup y = some c → x = y) (hcl2 : ∀ x, (x, NameKind.free) ∈ scope.names → ∃ c, cl.lookup x = some c)
    (len : σl.length = N.length) (vals : ∀ (i : Nat) x v, N[i]? = some x → σl[i]? = some (some v) → scope.names.lookup x = some .free ∧ ∃ c o u, cl.lookup x = some c ∧ Hc c = some (fc o) ∧ o.data = .cell (some u) ∧ RelV v u)
    (cells : ∀ c ∈ cs, ∃ o v, Hc c = some (fc o) ∧ o.data = .cell v)
    (hf : Hc f = some (fz (PySem.W.kla_obj "<lambda>" qual params body scope cl pm c' ctv))) (hc : Hc c' = some (fz oc)) (hd : oc.data = .fields vs) (hv : vs[1]? = some (.str qual t))
    (hbind : bindArgs (PySem.W.kla_fn "<lambda>" qual params body scope cl pm (.ref c') ctv) ⟨[], []⟩ = pure [])
    (hbody : ∀ (A : Around) (outer : List Env) (s : Shared) (H : Hp) (E : XK), Room k (A.deeper (PySem.W.envX qual scope s.heap.objs.size f (.ref c') cl)) → PE (cxLam P w K mg base N qual scope cl f (.ref c') A outer s H E) body (te E)) :
    ClOk P w K mg base (k + 1) f (spLam cs Hc f c' te σl) := by
  intro A outer s H' Q' E' hr e0 h
  obtain ⟨ef, ec, ecs, Qu, Eu, ht, hQ, hE⟩ := h
  have x : CellsAt cs H' := fun c hcc => by
    obtain ⟨o, v, e, _⟩ := cells c hcc
    exact ⟨o, by rw [ecs c hcc]; exact e⟩
  have nf : ∀ c ∈ cs, c ∉ frs outer := fun c hcc z => by
    obtain ⟨o, e⟩ := x c hcc
    rw [e0.frf c z] at e
    cases e
  refine codeAny_mono (R := CR (CX1 P w) outer P w (dropC cs H') s Qu Eu) ?_ fun r s' h => cr_back x e0.hok nf hQ hE h
  have ho : s.heap.get? f = some (PySem.W.kla_obj "<lambda>" qual params body scope cl pm c' ctv) := (e0.hok f _ (ef.trans hf)).1
  have hoc : s.heap.get? c' = some oc := (e0.hok c' _ (ec.trans hc)).1
  have nolim : s.heap.NoLimit := e0.mod.nolimit.keeps fun b o e => (e0.bs b o e).1
  refine PySem.W.kla_callFunE hr.depth ho rfl hco hgen rfl ⟨c', oc, vs, t, rfl, hoc, hd, hv⟩ ?_
  rw [hbind]
  refine wpAny_pure (wpAny_newFunctionEnv hcell (fun y hy => absurd hy (by simp)) (fun h1 hns hsb => ⟨nolim.fresh _ hsb, ?_⟩) hkind)
  show codeAny _ _ (.expr body (PySem.W.envX qual scope s.heap.objs.size f (.ref c') cl)) _ _
  have keep : ∀ b u, s.heap.get? b = some u → h1.get? b = some u := fun b u q =>
    hsb.extBut b u (Nat.ne_of_lt (Heap.lt_size q)) (Heap.get?_push_of_some _ q)
  have dn : ∀ {b : Addr}, H' b = none → dropC cs H' b = none := fun {b} n => by
    by_cases hb : b ∈ cs
    · exact dropC_in hb
    · rw [dropC_out hb]; exact n
  have okd : HOk P w (dropC cs H') s.heap := hok_drop x e0.hok
  have noA : ∀ b : Addr, b ∉ (cxLam P w K mg base N qual scope cl f (.ref c') A outer s (dropC cs H') Eu).ex := fun b z => absurd (show b ∈ ([] : List Addr) from z) (by simp)
  have cellAt : ∀ c ∈ cs, ∃ o v, s.heap.get? c = some o ∧ o.data = .cell v ∧ Hc c = some (fc o) := fun c hcc => by
    obtain ⟨o, v, e, d⟩ := cells c hcc
    exact ⟨o, v, (e0.hok c _ ((ecs c hcc).trans e)).1, d, e⟩
  have I : Inv (cxLam P w K mg base N qual scope cl f (.ref c') A outer s (dropC cs H') Eu) [] σl (dropC cs H') { s with heap := h1, toks := s.toks + ([] : List (Str × Value)).length } := by
    refine ⟨⟨e0.mod, hkind, rfl, rfl, Nat.le_refl _, inj, fun y hy => ?_, fun y c z => Bool.noConfusion (show false = true from z), fun _ => hr.hd, Around.frames_deeper e0.frames, .inr ⟨rfl, rfl⟩, fun b z => absurd z (noA b), fun b o e => ⟨(e0.bs b o e).1, dn (e0.bs b o e).2⟩, e0.bsz, fun b _ _ => noA b, fun b z => absurd z (noA b), e0.funs, fun b hb => dn (e0.frf b hb)⟩,
      rfl, e0.bare, Un.kept keep, ⟨_, hns, fun i y v e1 e2 e3 => ?_⟩, fun y c h => ?_, okd.fresh (Nat.le_refl _), fun y c h => dropC_in (hcl1 y c h), fun p hp => absurd (show p ∈ ([] : List (Addr × Obj)) from hp) (by simp), okd.kept keep, len⟩
    · have hy : scope.names.lookup y = some .cell ∨ scope.names.lookup y = some .free := hy
      rcases hy with hy | hy
      · exact absurd rfl (hcell _ (PySem.mem_of_lookup hy))
      · exact hcl2 y (PySem.mem_of_lookup hy)
    · obtain ⟨l1, c, o, u, l2, l3, l4, l5⟩ := vals i y v e1 e2
      obtain ⟨o2, v2, g1, g2, g3⟩ := cellAt c (hcl1 y c l2)
      rw [l3] at g3
      cases g3
      exact ⟨u, l5, .inr ⟨.inr l1, c, l2, o, keep _ _ g1, l4⟩⟩
    · obtain ⟨o2, v2, g1, g2, _⟩ := cellAt c (hcl1 y c h)
      exact ⟨v2, o2, keep _ _ g1, g2⟩
  exact PySem.W.kla_codeExpr (wpAny_mono (hbody A outer s (dropC cs H') Eu (hr.deeper _) [] _ σl (dropC cs H') Qu I ht) (fun v s' ⟨v', H2, J, r, q⟩ => ⟨v', H2, J.os, J.bare, J.base, J.hok, r, q⟩) fun e s' z => z)
end
/-! ### the lambda is made -/
structure LamB (mg : Str → Option Value) (base : Heap) (c P : Addr) : Prop where
  cd : PySem.W.CodeHd base c P
  bm : ∃ bm ob, mg "__builtins__" = some (.ref bm) ∧ bm ≠ builtinsNs ∧ base.get? bm = some ob ∧ ob.cls = .type "module" ∧ ob.dict = some builtinsNs ∧ ob.data = .plain
theorem among_snoc {pos : Pos} {a b : Nat} {c cv : Value} : ∀ (l : List Value), TriplesOk l → codeAmong pos (l ++ [rawInt a, rawInt b, c]) = some cv → codeAmong pos l = some cv ∨ cv = c := fun l => by
  fun_induction TriplesOk l with
  | case1 =>
    intro _ h
    right
    simp only [List.nil_append, rawInt, codeAmong] at h
    split at h
    · exact (Option.some.inj h).symm
    · cases h
  | case2 i1 t1 i2 t2 v rest ih =>
    intro ok h
    simp only [List.cons_append, codeAmong] at h ⊢
    split at h
    · rename_i z
      rw [if_pos z]
      exact .inl h
    · rename_i z
      rw [if_neg z]
      exact ih ok h
  | case3 l h1 h2 => intro ok; exact ok.elim
theorem triples_snoc {a b : Nat} {c : Value} : ∀ (l : List Value), TriplesOk l → TriplesOk (l ++ [rawInt a, rawInt b, c]) := fun l => by
  fun_induction TriplesOk l with
  | case1 => intro _; exact True.intro
  | case2 i1 t1 i2 t2 v rest ih => intro ok; exact ih ok
  | case3 l h1 h2 => intro ok; exact ok.elim
section
variable {X : Cx} {pins : List (Addr × Obj)} {σ : St} {H : Hp} {s : Shared} {c P : Addr} {q : Str} {params : Arguments} {body : Expr} {scope : Scope} {pos : Pos} {cl : List (Str × Addr)}
theorem lam_made {E : Value → Shared → Prop} {M : Model} {A : Around} (L : LamB X.mg X.base c P) (hcode : X.env.code = .ref c) (hq : X.env.qual ++ "<lambda>" = q) (hdef : defaultsOf params X.env = ([], [])) (hcl : closureFor scope X.env = pure cl) (I : Inv X pins σ H s) (hP : H P = some (.tab q)) :
    wpAny M A (eval (.Lambda params body scope pos) X.env) (fun v s1 => ∃ f c' oc vs t pm ctv H1, v = .ref f ∧ Inv X pins σ H1 s1 ∧ Same H H1 ∧ H1 f = some (fz (PySem.W.kla_obj "<lambda>" q params body scope cl pm c' ctv)) ∧ H1 c' = some (fz oc) ∧ oc.data = .fields vs ∧ vs[1]? = some (.str q t)) E s := by
  refine PySem.W.kla_eval hdef ?_
  rw [hq]
  obtain ⟨ps, eP, tr, cs⟩ := I.hok P _ hP
  have hgs : s.heap.Ns mainGlobals X.mg := I.mod.glob.keeps I.bk
  obtain ⟨bm, ob, b1, b2, b3, b4, b5, b6⟩ := L.bm
  have hgP : mainGlobals ≠ P := fun z => by
    obtain ⟨o, es, ep, e, hd, _⟩ := hgs
    rw [z, eP] at e; cases e; cases hd
  have hbP : bm ≠ P := fun z => by
    have e := I.bk _ _ b3
    rw [z, eP] at e; cases e; cases b4
  have hbG : bm ≠ mainGlobals := fun z => by
    obtain ⟨o, es, ep, e, hd, _⟩ := I.mod.glob
    rw [z, e] at b3; cases b3; rw [hd] at b6; cases b6
  have hB : s.heap.BuiltinsAt X.mg P := ⟨bm, ob, b1, b2, hbG, hbP, I.bk _ _ b3, b4, b5, b6⟩
  cases hf : codeAmong pos ps.toList with
  | some cv =>
    obtain ⟨c', oc, vs, t, rfl, e1, e2, e3⟩ := cs pos cv hf
    refine PySem.W.kla_makeFunctionHit hcl I.ok.glob hgs hcode (L.cd.keeps I.bk) eP tr hf hB fun ctv h' tk hk hsz => ?_
    have hn : H h'.objs.size = none := I.hok.fresh hsz
    refine ⟨h'.objs.size, c', oc, vs, t, (X.mg "__name__").getD .none, ctv, upd H h'.objs.size (fz _), rfl, I.laid (t' := tk) (fun b u e => Heap.get?_push_of_some _ (hk b u e)) hsz ⟨Heap.get?_push_size _ rfl, _, Heap.get?_push_size _ rfl⟩, same_new hn _, upd_same, ?_, e2, e3⟩
    rw [upd_ne (ne_of_none e1 hn)]
    exact e1
  | none =>
    refine PySem.W.kla_makeFunction hcl I.ok.glob hgs hcode (L.cd.keeps I.bk) eP tr hf hgP hB fun c' ctv h' tk hx hge hlt hrec htb => ?_
    obtain ⟨c2, oc, vs, t, e2, hoc, hd, hv⟩ := hrec
    cases e2
    generalize hfo : PySem.W.kla_obj "<lambda>" q params body scope cl ((X.mg "__name__").getD .none) c' ctv = fo
    have hn1 : H c' = none := I.hok.fresh hge
    have hsz : s.heap.objs.size ≤ h'.objs.size := Nat.le_of_lt (Nat.lt_of_le_of_lt hge hlt)
    have hfc : h'.objs.size ≠ c' := Nat.ne_of_gt hlt
    have hn2 : upd H c' (fz oc) h'.objs.size = none := by rw [upd_ne hfc]; exact I.hok.fresh hsz
    have sm : Same H (upd (upd H c' (fz oc)) h'.objs.size (fz fo)) := (same_new hn1 _).trans (same_new hn2 _)
    have kp : ∀ b o, b ≠ P → s.heap.get? b = some o → (h'.push fo).get? b = some o := fun b o hb e => Heap.get?_push_of_some _ (hx b o hb e)
    have nP : ∀ b, H b = none → b ≠ P := fun b n z => by rw [z, hP] at n; cases n
    have new : ∀ b o, s.heap.get? b = some o → upd (upd H c' (fz oc)) h'.objs.size (fz fo) b = H b := fun b o e => by
      have l := Heap.lt_size e
      rw [upd_ne (Nat.ne_of_lt (Nat.lt_of_lt_of_le l hsz)), upd_ne (Nat.ne_of_lt (Nat.lt_of_lt_of_le l hge))]
    have eP2 : (h'.push fo).get? P = some { cls := .none, data := .fields (ps ++ #[rawInt pos.line, rawInt pos.col, .ref c']) } := Heap.get?_push_of_some _ htb
    have c'P : c' ≠ P := fun z => by rw [z, hP] at hn1; cases hn1
    refine ⟨h'.objs.size, c', oc, vs, t, (X.mg "__name__").getD .none, ctv, upd (upd H c' (fz oc)) h'.objs.size (fz fo), rfl, I.un (h' := h'.push fo) (t' := tk) ⟨fun b o e n _ _ => kp b o (nP b n) e, fun b o e n _ _ => ⟨o.slots, kp b o (nP b n) e⟩, fun b o e n _ => by rw [new b o e]; exact n, fun b o e _ => ?_, fun b xs z => sm b _ z, fun b o u z => sm b _ z, fun b ps z => ⟨#[], by rw [sm b _ z]; simp⟩⟩ fun b u z => ?_, sm, by rw [hfo]; exact upd_same, by rw [upd_ne (Ne.symm hfc)]; exact upd_same, hd, hv⟩
    · by_cases hb : b = P
      · rw [hb]; exact ⟨_, eP2⟩
      · exact ⟨o, kp b o hb e⟩
    · by_cases hb : b = h'.objs.size
      · rw [hb, upd_same] at z
        cases z
        rw [hb]
        exact ⟨Heap.get?_push_size _ (by rw [← hfo]; rfl), _, Heap.get?_push_size _ (by rw [← hfo]; rfl)⟩
      · rw [upd_ne hb] at z
        by_cases hc : b = c'
        · rw [hc, upd_same] at z
          cases z
          rw [hc]
          exact ⟨Heap.get?_push_of_some _ hoc, _, Heap.get?_push_of_some _ hoc⟩
        · rw [upd_ne hc] at z
          by_cases hbP' : b = P
          · subst hbP'
            rw [hP] at z
            cases z
            refine ⟨_, eP2, ?_, fun pos2 cv h2 => ?_⟩
            · rw [Array.toList_append]
              exact triples_snoc _ tr
            · rw [Array.toList_append] at h2
              rcases among_snoc _ tr h2 with h3 | h3
              · obtain ⟨c3, oc3, vs3, t3, g1, g2, g3⟩ := cs pos2 cv h3
                exact ⟨c3, oc3, vs3, t3, g1, sm _ _ g2, g3⟩
              · exact ⟨c', oc, vs, t, h3, by rw [upd_ne (Ne.symm hfc)]; exact upd_same, hd, hv⟩
          · refine (I.hok b u z).stay (fun d v hdd e => kp d v ?_ e) (fun d e => sm _ _ e) (fun d xs e => sm _ _ e) fun d ob e => sm _ _ e
            rcases hdd with y | y
            · rw [y]; exact hbP'
            · intro y2
              rw [y2, hP] at y
              cases y
end
end L2

set_option Elab.async false
set_option linter.all false
set_option maxRecDepth 100000
set_option maxHeartbeats 4000000
namespace L2
open PySem PySem.Spec PyProof.Rows
/-- what a def makes of what it is handed: of what the closure tells, of what it raises -/
structure HSpec where
  kV : V → Hp → VK → Prop
  kE : Value → Hp → VK → Prop
  comV : ∀ (cs : List Addr) (H : Hp) (Q : VK) (v : V), (∀ c ∈ cs, H c ≠ none) → kV v (dropC cs H) Q → kV v H (fun v H => Q v (dropC cs H))
  comE : ∀ (cs : List Addr) (H : Hp) (Q : VK) (c : Value), (∀ c ∈ cs, H c ≠ none) → kE c (dropC cs H) Q → kE c H (fun v H => Q v (dropC cs H))
/-- a promise may be weakened -/
noncomputable def Mono0 (sp : Sp0) : Prop := ∀ (H : Hp) (Q Q' : VK) (E E' : XK), (∀ v H, Q v H → Q' v H) → (∀ c d H, E c d H → E' c d H) → sp H Q E → sp H Q' E'
theorem mono_lam {cs : List Addr} {Hc : Hp} {f c' : Addr} {te : XK → TE} {σl : St} : Mono0 (spLam cs Hc f c' te σl) := by
  intro H Q Q' E E' hQ hE h
  obtain ⟨h1, h2, h3, Qu, Eu, ht, hq, he⟩ := h
  exact ⟨h1, h2, h3, Qu, Eu, ht, fun v H2 n z => hQ _ _ (hq v H2 n z), fun c d H2 n z => hE _ _ _ (he c d H2 n z)⟩
noncomputable def spH (P : Program) (w : World) (K : PySem.W.Frag) (mg : Str → Option Value) (base : Heap) (kc : Nat) (hs : HSpec) : Sp := fun vs H Q _ => ∃ a o fd sp0, vs = [.ref a] ∧ H a = some (fz o) ∧ o.data = .func fd ∧ ClOk P w K mg base kc a sp0 ∧ Mono0 sp0 ∧
  sp0 H (fun v H' => hs.kV v H' Q) (fun c _ H' => hs.kE c H' Q)
noncomputable def tCallLam (hs : HSpec) (P : Addr) (q : Str) (σ0 : St → St) (te : XK → TE) : TE := fun σ H Q => H P = some (.tab q) ∧ ∀ H1, Same H H1 → te (fun c _ H' => hs.kE c H' Q) (σ0 σ) H1 (fun v H' => hs.kV v H' Q)
theorem drop_frz {cs : List Addr} {H : Hp} {h : Heap} (x : CellsIn cs H h) : dropC cs (frzC h cs H) = H := by
  funext b
  by_cases hb : b ∈ cs
  · rw [dropC_in hb, (x b hb).1]
  · rw [dropC_out hb, frzC_out hb]
theorem drop_back {cs : List Addr} {H H2 : Hp} (x : ∀ c ∈ cs, H2 c = none) : dropC cs (backC cs H H2) = H2 := by
  funext b
  by_cases hb : b ∈ cs
  · rw [dropC_in hb, x b hb]
  · rw [dropC_out hb, backC_out hb]
theorem pe_callLam {X : Cx} {fn : Str} {ps : List Str} {k kc : Nat} {hs : HSpec} {c P : Addr} {q : Str} {params : Arguments} {body : Expr} {scope : Scope} {lpos p pos : Pos} {N : List Str} {σ0 : St → St} {te : XK → TE}
    (cal : Cal X.prog X.w X.K X.mg X.base fn ps k (spH X.prog X.w X.K X.mg X.base (kc + 1) hs)) (hr : Room k X.A) (L : LamB X.mg X.base c P) (hcode : X.env.code = .ref c) (hq : X.env.qual ++ "<lambda>" = q) (hfn : ∀ x, X.fn x = true)
    (hdef : defaultsOf params X.env = ([], [])) (hkind : scope.kind = .function) (hco : scope.isCoroutine = false) (hgen : scope.isGenerator = false) (hcell : ∀ y ∈ scope.names, y.2 ≠ .cell)
    (hfr : ∀ y ∈ scope.names, y.2 = .free → X.env.kindOf y.1 = some .cell ∨ X.env.kindOf y.1 = some .free) (hσ : Sees X scope N σ0)
    (hbind : ∀ (cl : List (Str × Addr)) (pm ctv cd : Value), bindArgs (PySem.W.kla_fn "<lambda>" q params body scope cl pm cd ctv) ⟨[], []⟩ = pure [])
    (hbody : ∀ (cl : List (Str × Addr)) (f c' : Addr) (A : Around) (outer : List Env) (s : Shared) (H : Hp) (E : XK), Room kc (A.deeper (PySem.W.envX q scope s.heap.objs.size f (.ref c') cl)) → PE (cxLam X.prog X.w X.K X.mg X.base N q scope cl f (.ref c') A outer s H E) body (te E))
    (hg : Gl X fn := by rfl) (hd : (fn == ("__debug__" : Str)) = false := by decide)
    (he : starEach [.Lambda params body scope lpos] X.env = (false, eval (.Lambda params body scope lpos) X.env) :: starEach [] X.env := by rfl) (hpl : (backTo pos (starEach [] X.env)).any (·.1) = false := by rfl) :
    PE X (.Call (.Name fn p) [.Lambda params body scope lpos] [] pos) (tCallLam hs P q σ0 te) := by
  intro pins s σ H Q I h
  obtain ⟨hP, hte⟩ := h
  obtain ⟨g, fd, F, m, kp, hb⟩ := cal.ex
  obtain ⟨cl, hclos, hcl1, hcl2⟩ := closure_of (env := X.env) (scope := scope) fun y hy hf => I.ok.has y.1 (hfr y hy hf)
  refine wpAny_Call_Name_kw (ld_glob I hg m ?_ hd)
  refine PySem.W.callWith_K (h₀ := X.base) I.ok.mod.kin kp (spliced_more (thn (lam_made L hcode hq hdef hclos I hP) fun v s1 h1 => spliced_none ?_) he) he hpl
  obtain ⟨f, c', oc, vs, t, pm, ctv, H1, rfl, I1, sm, ef, ec, hd1, hv1⟩ := h1
  refine ⟨I1.kIn, ?_⟩
  -- the cells
  have inC : ∀ x c, cl.lookup x = some c → c ∈ cl.filterMap fun p => cl.lookup p.1 := fun x c e => List.mem_filterMap.mpr ⟨(x, c), PySem.mem_of_lookup e, e⟩
  have ofC : ∀ c ∈ cl.filterMap (fun p => cl.lookup p.1), ∃ x, cl.lookup x = some c ∧ X.env.cells.lookup x = some c := fun c hc => by
    obtain ⟨p, _, e⟩ := List.mem_filterMap.mp hc
    exact ⟨p.1, e, hcl1 _ _ e⟩
  generalize hcs : (cl.filterMap fun p => cl.lookup p.1) = cs at *
  have xin : CellsIn cs H1 s1.heap := fun c hc => by
    obtain ⟨x, _, e⟩ := ofC c hc
    obtain ⟨v, o, eo, _⟩ := I1.cell x c e
    exact ⟨I1.freeC x c e, o, eo⟩
  have low : ∀ c ∈ cs, X.s₀.heap.objs.size ≤ c := fun c hc => by
    obtain ⟨x, _, e⟩ := ofC c hc
    exact I1.ok.cab x c (hfn x) e
  have nS : ∀ c ∈ cs, c ∉ frs X.stack := fun c hc z => by
    obtain ⟨x, _, e⟩ := ofC c hc
    rcases List.mem_cons.mp (I1.stkSub c z) with y | y
    · exact I1.cne x c e y
    · obtain ⟨_, o, eo, _⟩ := I1.ok.funs.mem y
      exact absurd (Nat.lt_of_lt_of_le (Heap.lt_size eo) (low c hc)) (Nat.lt_irrefl _)
  have fo : f ∉ cs := out_of xin ef
  have co : c' ∉ cs := out_of xin ec
  have e0 : Env0 X.prog X.w X.K X.mg X.base X.A X.stack s1 (frzC s1.heap cs H1) := by
    refine ⟨I1.ok.frames, I1.ok.mod, fun b o e => ⟨I1.bk b o e, ?_⟩, Nat.le_trans I1.ok.bsz I1.sz, I1.stack, fun b hb => ?_, hok_frz xin I1.hok, I1.bare⟩
    · have : b ∉ cs := fun z => absurd (Nat.lt_of_lt_of_le (Heap.lt_size e) (Nat.le_trans I1.ok.bsz (low b z))) (Nat.lt_irrefl _)
      rw [frzC_out this]
      exact (I1.bs b o e).2
    · rw [frzC_out fun z => nS b z hb]
      exact I1.stkFree b hb
  have ob : ∀ c ∈ cs, ∃ o v, frzC s1.heap cs H1 c = some (fc o) ∧ o.data = .cell v := fun c hc => by
    obtain ⟨x, _, e⟩ := ofC c hc
    obtain ⟨v, o, eo, d⟩ := I1.cell x c e
    exact ⟨o, v, frzC_in hc eo, d⟩
  have cok : ClOk X.prog X.w X.K X.mg X.base (kc + 1) f (spLam cs (frzC s1.heap cs H1) f c' te (σ0 σ)) := by
    refine lam_run (N := N) hkind hco hgen hcell inC (fun x y c a b => I1.ok.inj x y c (hcl1 x c a) (hcl1 y c b)) hcl2 (hσ σ).1 (fun i x v e1 e2 => ?_) ob (by rw [frzC_out fo]; exact ef) (by rw [frzC_out co]; exact ec) hd1 hv1 (hbind cl pm ctv (.ref c')) fun A outer s H E hr => hbody cl f c' A outer s H E hr
    obtain ⟨hf, j, hj, hv⟩ := (hσ σ).2 i x v e1 e2
    refine ⟨hf, ?_⟩
    have hm := mem_of_lookupF hf
    obtain ⟨m', hn, hl⟩ := id I1.loc
    have hk := hfr _ hm rfl
    have hvis : Vis X.env.scope x := hk.elim (fun z => .inr (.inl z)) fun z => .inr (.inr z)
    obtain ⟨u, r, lk⟩ := hl j x v hj hv hvis
    obtain ⟨c2, hc2⟩ := hcl2 x hm
    have hx := hcl1 x c2 hc2
    rcases lk with ⟨kl, _⟩ | ⟨_, c3, e3, o3, ho3, hd3⟩
    · rcases hk with z | z <;> rw [kl] at z <;> cases z
    · rw [hx] at e3
      cases e3
      exact ⟨c2, o3, u, hc2, frzC_in (inC x c2 hc2) ho3, hd3, r⟩
  have hsp : spH X.prog X.w X.K X.mg X.base (kc + 1) hs [.ref f] (frzC s1.heap cs H1) (fun v H' => Q v (dropC cs H')) E0 := by
    refine ⟨f, _, _, _, rfl, by rw [frzC_out fo]; exact ef, rfl, cok, mono_lam, rfl, rfl, fun _ _ => rfl, fun v H' => hs.kV v H' Q, fun c _ H' => hs.kE c H' Q, ?_, fun v H2 n z => ?_, fun c d H2 n z => ?_⟩
    · rw [drop_frz xin]
      exact hte H1 sm
    · refine hs.comV cs _ Q v (fun c hc => ?_) (by rw [drop_back n]; exact z)
      obtain ⟨o, v', e, _⟩ := ob c hc
      rw [backC_in hc, e]
      simp
    · refine hs.comE cs _ Q c (fun c2 hc => ?_) (by rw [drop_back n]; exact z)
      obtain ⟨o, v', e, _⟩ := ob c2 hc
      rw [backC_in hc, e]
      simp
  have hl : ([Value.ref f] ++ ([] : List Value)).length = ps.length := (F.len _ _ _ _ hsp).symm ▸ rfl
  have bt := hb s1 [.ref f] I1.kIn hl
  refine wpAny_call (codeAny_mono (F.run X.A X.stack s1 _ ⟨[.ref f], []⟩ [.ref f] [.ref f] _ E0 hr e0 bt (.cons rfl .nil) hsp) fun r s' hz => ?_)
  cases r with
  | error e => exact False.elim hz
  | ok fl =>
    cases fl with
    | ret u =>
      obtain ⟨v, H', os, bare, un, hok, rv, qq⟩ := hz
      exact ⟨v, dropC cs H', I1.call' os (un_frz xin un hok) (hok_drop (at_of_un xin.frz un) hok) bare fun b z => absurd z (by simp), rv, qq⟩
    | next => exact False.elim hz
    | brk => exact False.elim hz
    | cont => exact False.elim hz
/-! ### the closure is called, within a try -/
noncomputable def xVar0 (P : Program) (w : World) (K : PySem.W.Frag) (mg : Str → Option Value) (base : Heap) (k i : Nat) : TEX := fun σ H Q EX => ∃ a o fd sp0, σ[i]? = some (some (.ref a)) ∧ H a = some (fz o) ∧ o.data = .func fd ∧ ClOk P w K mg base k a sp0 ∧
  sp0 H Q (fun c _ H' => ∃ C, c = .ref C ∧ EX C H')
theorem pex_var0 {X : Cx} {i k : Nat} {x : Str} {p pos : Pos} (hr : Room k X.A) (hN : X.N[i]? = some x) (hv : Vis X.env.scope x) (hd : (x == ("__debug__" : Str)) = false := by decide) (hcd : (x == ("__classdict__" : Str)) = false := by decide) :
    PEX X (.Call (.Name x p) [] [] pos) (xVar0 X.prog X.w X.K X.mg X.base k i) := by
  intro pins s σ H Q EX I h
  obtain ⟨a, o, fd, sp0, e1, e2, e3, cok, hs⟩ := h
  have hn := pe_var (X := X.nox) (pos := p) hN hv hd hcd
  refine wpAny_Call_Name_kw (wpAny_mono (hn pins s σ H (fun v H' => v = .ref a ∧ H' = H) (I.wish _) ⟨.ref a, e1, rfl, rfl⟩) (fun u s1 h1 => ?_) fun _ _ z => False.elim z)
  obtain ⟨v, H1, I1, r, rfl, rfl⟩ := h1
  obtain rfl : u = Value.ref a := r
  have I1 := I1.unwish
  have ea := (I1.hok a _ e2).1
  obtain ⟨oc, od, oda, osl⟩ := o
  dsimp only at e3
  subst e3
  refine PySem.W.callWith_F0 ⟨oc, od, fd, osl, ea⟩ ?_
  refine wpAny_call (codeAny_mono (cok X.A X.stack s1 _ Q _ hr I1.env0 hs) fun r s' hz => ?_)
  cases r with
  | error e =>
    obtain ⟨y, C, H', rfl, F, C2, ec, hx⟩ := hz
    cases ec
    exact ⟨y, C, σ, _, H', s1, rfl, I1, F, hx⟩
  | ok fl =>
    cases fl with
    | ret u => exact I1.after hz
    | next => exact False.elim hz
    | brk => exact False.elim hz
    | cont => exact False.elim hz
/-! ### isinstance(x, c): c by its name -/
/-- .. x an own exception -/
noncomputable def rIsiE (K : PySem.W.Frag) : List V → Hp → VK → Prop := fun xs H Q => ∃ e C y cv b, xs = [.ref e, y] ∧ RelV y cv ∧ H e = some (excO e C) ∧ ExcK K C ∧ PySem.W.kitOne K (.ref C) cv = some b ∧ Q (.bl b) H
theorem call_isiE {X : Cx} : CallR X (.builtin "isinstance") (rIsiE X.K) := by
  intro pins s σ H xs us Q I r h
  obtain ⟨e, C, y, cv, b, rfl, ry, he, z, kb, q⟩ := h
  obtain ⟨u, w', rfl, ru, rw'⟩ := vals2 r
  obtain rfl : u = Value.ref e := ru
  have ew : w' = cv := by
    cases y <;> first | exact (show _ = _ from rw').trans (show _ = _ from ry).symm | skip
    all_goals
      obtain ⟨t1, z1⟩ := rw'
      obtain ⟨t2, z2⟩ := ry
      skip
    all_goals
      subst z1 z2
      unfold PySem.W.kitOne at kb
      simp [PySem.W.kitCls] at kb
  subst ew
  exact PySem.W.kia_one (kitx_exc z) I.kIn (I.hok e _ he).1 kb (fun z => nomatch z) fun tk => ⟨.bl b, H, I.tok _, rfl, q⟩
end L2

set_option Elab.async false
set_option linter.all false
set_option maxRecDepth 100000
set_option maxHeartbeats 4000000
/-! ### the head of a law one of whose defs makes lambdas -/
namespace L2
open PySem PySem.Spec PyProof.Rows
noncomputable def qLam (x : Str) : Str := (x ++ ".<locals>.") ++ "<lambda>"
/-- the def by the name x: its code, its table of lambdas -/
structure LamFor (mg : Str → Option Value) (base : Heap) (x : Str) (c P : Addr) : Prop where
  fn : ∃ f o fd, mg x = some (.ref f) ∧ base.get? f = some o ∧ o.data = .func fd ∧ fd.code = .ref c
  lb : LamB mg base c P
theorem FunAt.calL {P : Program} {w : World} {K : PySem.W.Frag} {mg : Str → Option Value} {base : Heap} {x : Str} {ps N : List Str} {st : Stmt} {k : Nat} {sp : Sp} {c T : Addr} (F : FunAt K mg x ps st) (kb : K.In base) (L : LamFor mg base x c T) (S : FnScope N ps (defScope st)) (len : ∀ vs H Q E, sp vs H Q E → vs.length = ps.length)
    (hbody : ∀ (f : Addr) (A : Around) (outer : List Env) (s : Shared) (H : Hp) (vs : List V) (Q : VK) (E : XK), Room k (A.deeper (envOfC x (defScope st) s.heap.objs.size f (.ref c))) → sp vs H Q E →
      ∃ t, PSs (cxOf CX0 P w K mg base N x (defScope st) f (.ref c) A outer s H E).nox (defBody st) t ∧ t { nx := fun _ H' => Q .non H', rt := Q } (start N vs) H) : Cal P w K mg base x ps (k + 1) sp := by
  obtain ⟨f, fd, F1, m, b⟩ := F.ex
  refine ⟨f, fd, ?_, m, F1.kp, b⟩
  obtain ⟨oc, od, kV, doc, pm, an, cdv, ct, osl, rfl, lk, hcd⟩ := F1.ex
  have e : cdv = .ref c := by
    obtain ⟨f2, o2, fd2, m2, g2, d2, c2⟩ := L.fn
    rw [m] at m2
    cases m2
    rw [kb _ _ lk] at g2
    cases g2
    cases d2
    exact c2
  subst e
  refine fn_of lk hcd S len fun A outer s H vs Q E hr hsp => ?_
  obtain ⟨t, h, q⟩ := hbody f A outer s H vs Q E hr hsp
  exact ⟨t, h.nox, q⟩
theorem law_callT {P : Program} {w : World} {K : PySem.W.Frag} {mg mb : Str → Option Value} {k : Nat} {fa a : Addr} {fd : FuncData} {x : Str} {sp : Sp} {s₁ : Shared} {vs : List Value} {ns : List Int} {lams : List Str} {cp : Str → Addr × Addr}
    (KX : K.In s₁.heap) (hns : s₁.heap.Ns mainGlobals mg) (hb : s₁.heap.Ns builtinsNs mb) (hbb : ∀ x : Str, x ≠ "__name__" → mb x = bootBuiltins x) (hlim : s₁.heap.NoLimit) (hg : s₁.gens = #[])
    (hbm : ∃ bm ob, mg "__builtins__" = some (.ref bm) ∧ bm ≠ builtinsNs ∧ s₁.heap.get? bm = some ob ∧ ob.cls = .type "module" ∧ ob.dict = some builtinsNs ∧ ob.data = .plain)
    (ha : s₁.heap.get? a = some { cls := .type "list", data := .seq vs.toArray }) (hi : IntsAre vs ns) (hl : ns.length ≤ sizeLine) (hr : Room k callerA) (noT : PySem.W.noTabs K = true)
    (hT : ∀ y ∈ lams, (∃ f o fd, mg y = some (.ref f) ∧ s₁.heap.get? f = some o ∧ o.data = .func fd ∧ fd.code = .ref (cp y).1) ∧ PySem.W.CodeHd s₁.heap (cp y).1 (cp y).2 ∧ s₁.heap.get? (cp y).2 = some (PySem.W.tabObj #[]))
    (hinj : ∀ y ∈ lams, ∀ z ∈ lams, (cp y).2 = (cp z).2 → y = z)
    (F : ∀ base : Heap, K.In base → base.Ns mainGlobals mg → (∀ y ∈ lams, LamFor mg base y (cp y).1 (cp y).2) → FnOk P w K mg base CX0 k fa fd [x] sp) (hbind : ∀ (s : Shared) (u : Value), BindsTo s fd ⟨[u], []⟩ [(x, u)])
    (hsp : ∀ H : Hp, SqL K H a (ns.map V.int) → (∀ y ∈ lams, H (cp y).2 = some (.tab (qLam y))) → sp [.ref a] H (fun v H' => v = .bl true ∧ ∀ y ∈ lams, H' (cp y).2 = some (.tab (qLam y))) fun _ _ _ => False) :
    codeAny (model P w) callerA (.call (.ref fa) ⟨[.ref a], []⟩) (fun r s' => r = .ok (.ret (.bool true)) ∧ OldK s₁.heap s'.heap ∧ s'.os = s₁.os ∧ AllBare s'.gens) s₁ := by
  have rv := vals_ints hi
  have lenV := hi.length
  have kT : ∀ y ∈ lams, K.lookup (cp y).2 = none := fun y hy => by
    cases e : K.lookup (cp y).2 with
    | none => rfl
    | some o =>
      have e2 := KX _ _ e
      rw [(hT y hy).2.2] at e2
      cases e2
      have := List.all_eq_true.mp noT _ (PySem.W.mem_of_lookupK e)
      exact absurd (show false = true from this) Bool.false_ne_true
  have aT : ∀ y ∈ lams, (cp y).2 ≠ a := fun y hy z => by
    have e := (hT y hy).2.2
    rw [z, ha] at e
    cases e
  have core : ∀ H : Hp, SqL K H a (ns.map V.int) → (∀ y ∈ lams, H (cp y).2 = some (.tab (qLam y))) → HOk P w H s₁.heap → (∀ b u, H b = some u → (b = a ∧ K.lookup a = none ∧ ∃ o v, u = .frz o v) ∨ ∃ y ∈ lams, b = (cp y).2) →
      codeAny (model P w) callerA (.call (.ref fa) ⟨[.ref a], []⟩) (fun r s' => r = .ok (.ret (.bool true)) ∧ OldK s₁.heap s'.heap ∧ s'.os = s₁.os ∧ AllBare s'.gens) s₁ := by
    intro H hS hTab hok hA
    have non : ∀ {b : Addr} {o : Obj}, s₁.heap.get? b = some o → (∀ ps, o ≠ PySem.W.tabObj ps) → (K.lookup a = none → b ≠ a) → H b = none := fun {b o} e n na => by
      cases q : H b with
      | none => rfl
      | some u =>
        rcases hA b u q with ⟨z, kz, _⟩ | ⟨y, hy, z⟩
        · exact absurd z (na kz)
        · rw [z, (hT y hy).2.2] at e
          cases e
          exact absurd rfl (n #[])
    have noA : ∀ {b : Addr} {o : Obj} {es : Array DictEntry} {ep : Nat}, s₁.heap.get? b = some o → o.data = .dict es ep → H b = none := fun {b o es ep} e d => by
      refine non e (fun ps z => by rw [z] at d; cases d) fun _ z => ?_
      rw [z, ha] at e
      cases e
      cases d
    have nsK : ∀ {b : Addr} {m : Str → Option Value}, s₁.heap.Ns b m → (hidT s₁.heap H).Ns b m := fun {b m} ⟨o, es, ep, e, d, r⟩ => ⟨o, es, ep, hidT_get e (noA e d), d, r⟩
    have hKb : K.In (hidT s₁.heap H) := fun b o e => hidT_get (KX b o e) (by
      cases q : H b with
      | none => rfl
      | some u =>
        rcases hA b u q with ⟨z, kz, _⟩ | ⟨y, hy, z⟩
        · rw [z, kz] at e; cases e
        · rw [z, kT y hy] at e; cases e)
    have hM : Mod K mg (hidT s₁.heap H) := ⟨hKb, nsK hns, ⟨mb, nsK hb, hbb⟩, let ⟨mc, h1, h2⟩ := hlim; ⟨mc, nsK h1, h2⟩⟩
    have e0 : Env0 P w K mg (hidT s₁.heap H) callerA [] s₁ H := ⟨rfl, hM, fun b o e => of_hidT e, Nat.le_of_eq (hidT_size _ _), trivial, fun b hb => absurd (show b ∈ ([] : List Addr) from hb) (by simp), hok, .of_eq hg⟩
    have lamB : ∀ y ∈ lams, LamFor mg (hidT s₁.heap H) y (cp y).1 (cp y).2 := fun y hy => by
      obtain ⟨⟨f, o, fd', m1, g1, d1, c1⟩, ⟨o2, vs2, file, tf, flags, tg, inF, text, tt, p1, p2, p3, r⟩, _⟩ := hT y hy
      obtain ⟨bm, ob, q1, q2, q3, q4, q5⟩ := hbm
      refine ⟨⟨f, o, fd', m1, hidT_get g1 (non g1 (fun ps z => by rw [z] at d1; cases d1) fun _ z => by rw [z, ha] at g1; cases g1; cases d1), d1, c1⟩, ⟨o2, vs2, file, tf, flags, tg, inF, text, tt, hidT_get p1 (non p1 (fun ps z => by rw [z] at p2; cases p2) fun _ z => by rw [z, ha] at p1; cases p1; exact absurd p2 (by simp)), p2, p3, r⟩, bm, ob, q1, q2, hidT_get q3 (non q3 (fun ps z => by rw [z] at q4; cases q4) fun _ z => by rw [z, ha] at q3; cases q3; exact absurd q4 (by simp)), q4, q5⟩
    refine codeAny_mono ((F _ hKb (nsK hns) lamB).run callerA [] s₁ H ⟨[.ref a], []⟩ [.ref a] [.ref a] _ _ hr e0 (hbind s₁ (.ref a)) (.cons rfl .nil) (hsp H hS hTab)) fun r s' h => ?_
    cases r with
    | error e => exact False.elim h
    | ok fl =>
      cases fl with
      | next => exact False.elim h
      | brk => exact False.elim h
      | cont => exact False.elim h
      | ret u =>
        obtain ⟨v, H', os, bare, un, hok', r', q⟩ := h
        obtain ⟨q', qT⟩ : v = .bl true ∧ ∀ y ∈ lams, H' (cp y).2 = some (.tab (qLam y)) := q
        subst q'
        obtain rfl : u = Value.bool true := r'
        refine ⟨rfl, ⟨fun b o e => ?_, fun b o e => un.there b o e (by simp)⟩, os, bare⟩
        cases q : H b with
        | none => exact .inl (un.keep b o e q (by intro z; exact absurd (show b ∈ ([] : List Addr) from z) (by simp)) (by simp))
        | some u =>
          rcases hA b u q with ⟨z, kz, ob, v, rfl⟩ | ⟨y, hy, z⟩
          · have z2 := un.frzs b ob _ q
            obtain ⟨e1, _⟩ := hok b _ q
            obtain ⟨e2, _⟩ := hok' b _ z2
            rw [e] at e1; cases e1
            exact .inl e2
          · subst z
            have e2 := (hT y hy).2.2
            rw [e] at e2
            cases e2
            obtain ⟨ps, e3, _⟩ := hok' _ _ (qT y hy)
            exact .inr (.inl ⟨((hT y hy).2.1.tab (hT y hy).2.2).isCodeTable, rfl, #[], ps, rfl, by rw [Array.empty_append]; exact e3⟩)
  have fnd : ∀ y ∈ lams, lams.find? (fun z => decide ((cp z).2 = (cp y).2)) = some y := fun y hy => by
    cases e : lams.find? (fun z => decide ((cp z).2 = (cp y).2)) with
    | none => exact absurd (decide_eq_true rfl) (List.find?_eq_none.mp e y hy)
    | some z =>
      have h1 := List.mem_of_find?_eq_some e
      have h2 := of_decide_eq_true (List.find?_some (p := fun z => decide ((cp z).2 = (cp y).2)) e)
      rw [hinj z h1 y hy h2]
  have tabOk : ∀ (H : Hp) (y : Str), y ∈ lams → ObjOk P w H s₁.heap (cp y).2 (.tab (qLam y)) := fun H y hy => ⟨#[], (hT y hy).2.2, True.intro, fun pos cv h => by cases (show (none : Option Value) = some cv from h)⟩
  cases hk : K.lookup a with
  | some o =>
    have e := KX a o hk
    rw [ha] at e
    cases e
    refine core (fun b => (lams.find? fun z => decide ((cp z).2 = b)).map fun y => .tab (qLam y)) (.inr ⟨_, vs.toArray, _, hk, rfl, rfl, rfl, by rw [List.size_toArray, lenV]; exact hl, by simpa using rv⟩) (fun y hy => by rw [fnd y hy]; rfl) (fun b u z => ?_) fun b u z => ?_
    · obtain ⟨y, e1, rfl⟩ := Option.map_eq_some_iff.mp z
      have h1 := List.mem_of_find?_eq_some e1
      have h2 := of_decide_eq_true (List.find?_some (p := fun z => decide ((cp z).2 = b)) e1)
      rw [← h2]
      exact tabOk _ y h1
    · obtain ⟨y, e1, rfl⟩ := Option.map_eq_some_iff.mp z
      exact .inr ⟨y, List.mem_of_find?_eq_some e1, (of_decide_eq_true (List.find?_some (p := fun z => decide ((cp z).2 = b)) e1)).symm⟩
  | none =>
    refine core (fun b => if b = a then some (.frz { cls := .type "list", data := .seq vs.toArray } (.lst (ns.map V.int))) else (lams.find? fun z => decide ((cp z).2 = b)).map fun y => .tab (qLam y)) (.inl (.inr ⟨{ cls := .type "list", data := .seq vs.toArray }, if_pos rfl⟩)) (fun y hy => by rw [if_neg (aT y hy), fnd y hy]; rfl) (fun b u z => ?_) fun b u z => ?_
    · by_cases hb : b = a
      · have z' := (if_pos hb).symm.trans z
        cases z'
        subst hb
        exact ⟨ha, by rw [List.length_map]; exact hl, vs, _, rv, ha⟩
      · have z' := (if_neg hb).symm.trans z
        obtain ⟨y, e1, rfl⟩ := Option.map_eq_some_iff.mp z'
        have h1 := List.mem_of_find?_eq_some e1
        have h2 := of_decide_eq_true (List.find?_some (p := fun z => decide ((cp z).2 = b)) e1)
        rw [← h2]
        exact tabOk _ y h1
    · by_cases hb : b = a
      · have z' := (if_pos hb).symm.trans z
        cases z'
        exact .inl ⟨hb, hk, _, _, rfl⟩
      · have z' := (if_neg hb).symm.trans z
        obtain ⟨y, e1, rfl⟩ := Option.map_eq_some_iff.mp z'
        exact .inr ⟨y, List.mem_of_find?_eq_some e1, (of_decide_eq_true (List.find?_some (p := fun z => decide ((cp z).2 = b)) e1)).symm⟩
theorem walk_ofT {l : PySem.W.OpenLaw} {n k : Nat} {q : Program} {loose : List Str} {XP : (Str → Option Value) → Heap → Prop} {YP : World → Heap → Prop} {d : DefRec} {K : Params → PySem.W.Frag} {sp : World → (Str → Addr × Addr) → Sp} {x : Str} {lams : List Str}
    (hn : l.most = some n) (hn2 : n ≤ sizeLine) (hdf : d.params.defaults = []) (hr : Room k callerA) (noT : ∀ p, PySem.W.noTabs (K p) = true) (hlam : ∀ y ∈ lams, ∃ e ∈ recsOf q, e.name = y)
    (hY : ∀ (w : World) (h : Heap), YP w h → (K w.params).In h)
    (hinj : ∀ (w : World) (mg : Str → Option Value) (h : Heap) (cp : Str → Addr × Addr), (K w.params).In h → h.Ns mainGlobals mg →
      (∀ y ∈ lams, (∃ f o fd, mg y = some (.ref f) ∧ h.get? f = some o ∧ o.data = .func fd ∧ fd.code = .ref (cp y).1) ∧ PySem.W.CodeHd h (cp y).1 (cp y).2 ∧ h.get? (cp y).2 = some (PySem.W.tabObj #[])) → ∀ y ∈ lams, ∀ z ∈ lams, (cp y).2 = (cp z).2 → y = z)
    (F : ∀ (w : World) (mg : Str → Option Value) (fa : Addr) (h : Heap), (K w.params).In h → h.Ns mainGlobals mg → mg d.name = some (.ref fa) →
      ∃ fd : FuncData, (∀ (s : Shared) (u : Value), BindsTo s fd ⟨[u], []⟩ [(x, u)]) ∧
        ∀ (cp : Str → Addr × Addr) (base : Heap), (K w.params).In base → base.Ns mainGlobals mg → (∀ y ∈ lams, LamFor mg base y (cp y).1 (cp y).2) → FnOk l.prog w (K w.params) mg base CX0 k fa fd [x] (sp w cp))
    (hsp : ∀ (w : World) (cp : Str → Addr × Addr) (H : Hp) (a : Addr) (ns : List Int), ns.length ≤ n → SqL (K w.params) H a (ns.map V.int) → (∀ y ∈ lams, H (cp y).2 = some (.tab (qLam y))) →
      sp w cp [.ref a] H (fun v H' => v = .bl true ∧ ∀ y ∈ lams, H' (cp y).2 = some (.tab (qLam y))) fun _ _ _ => False) :
    PySem.W.WalkO q loose XP YP l.row.toRowW d [] (fun f vs => PySem.call f vs) := by
  refine Att.attach_call hn hdf fun w s₀ s₁ mg mb fa o pm cd doc a vs ns G Y ho hd hcd hmg hobj hints hlen hg => ?_
  have KX := hY w _ Y
  obtain ⟨fd, hb, hF⟩ := F w mg fa _ KX G.T.g hmg
  have ex : ∀ y : Str, ∃ cp : Addr × Addr, y ∈ lams → (∃ f o fd, mg y = some (.ref f) ∧ s₁.heap.get? f = some o ∧ o.data = .func fd ∧ fd.code = .ref cp.1) ∧ PySem.W.CodeHd s₁.heap cp.1 cp.2 ∧ s₁.heap.get? cp.2 = some (PySem.W.tabObj #[]) := fun y => by
    by_cases hy : y ∈ lams
    · obtain ⟨e, he, rfl⟩ := hlam y hy
      obtain ⟨a', o', fd', c, P, h1, h2, h3, h4, h5, h6⟩ := G.T.tab e he
      exact ⟨(c, P), fun _ => ⟨⟨a', o', fd', h1, h2, h3, h4⟩, PySem.W.CodeHd.of h5 h6, h6.2⟩⟩
    · exact ⟨(0, 0), fun z => absurd z hy⟩
  obtain ⟨cp, hcp⟩ := Classical.axiomOfChoice ex
  exact law_callT KX G.T.g G.T.b G.T.builtins G.T.nolimit hg G.T.bmain hobj hints (Nat.le_trans hlen hn2) hr (noT _) hcp (hinj w mg _ cp KX G.T.g hcp) (hF cp) hb fun H hS hT => hsp w cp H a ns hlen hS hT
end L2
namespace L2
theorem body_nox {X : Cx} (b : Body X := by exact ⟨rfl, rfl, rfl⟩) : Body X := b
end L2

set_option Elab.async false
set_option linter.all false
set_option maxRecDepth 100000
set_option maxHeartbeats 4000000
namespace My
open PySem L2 MA
/-- the own classes by their names -/
structure Errs where
  ball : Addr
  c0 : Addr
  c1 : Addr
  c2 : Addr
  c3 : Addr
  c4 : Addr
  c5 : Addr
  c6 : Addr
  c7 : Addr
  c8 : Addr
structure ErrN (mg : Str → Option Value) (e : Errs) : Prop where
  ball : mg "BallError" = some (.ref e.ball)
  m0 : mg "NoShare" = some (.ref e.c0)
  m1 : mg "NoBall" = some (.ref e.c1)
  m2 : mg "Unlike" = some (.ref e.c2)
  m3 : mg "Fuller" = some (.ref e.c3)
  m4 : mg "TooMany" = some (.ref e.c4)
  m5 : mg "NoBack" = some (.ref e.c5)
  m6 : mg "NoName" = some (.ref e.c6)
  m7 : mg "NoText" = some (.ref e.c7)
  m8 : mg "NoRow" = some (.ref e.c8)
/-- the class at C is the i-th of the nine -/
structure ErrI (K : PySem.W.Frag) (e : Errs) (C : Addr) (i : Nat) : Prop where
  lt : i < 9
  ek : ExcK K C
  ball : PySem.W.exmOne K (.ref C) (.ref e.ball) = some true
  i0 : PySem.W.kitOne K (.ref C) (.ref e.c0) = some (decide (i = 0))
  i1 : PySem.W.kitOne K (.ref C) (.ref e.c1) = some (decide (i = 1))
  i2 : PySem.W.kitOne K (.ref C) (.ref e.c2) = some (decide (i = 2))
  i3 : PySem.W.kitOne K (.ref C) (.ref e.c3) = some (decide (i = 3))
  i4 : PySem.W.kitOne K (.ref C) (.ref e.c4) = some (decide (i = 4))
  i5 : PySem.W.kitOne K (.ref C) (.ref e.c5) = some (decide (i = 5))
  i6 : PySem.W.kitOne K (.ref C) (.ref e.c6) = some (decide (i = 6))
  i7 : PySem.W.kitOne K (.ref C) (.ref e.c7) = some (decide (i = 7))
  i8 : PySem.W.kitOne K (.ref C) (.ref e.c8) = some (decide (i = 8))
  ve : PySem.W.kitOne K (.ref C) (.type "ValueError") = some true
noncomputable def heardWord (i : Nat) : Str := (["share", "ball", "unlike", "fuller", "many", "back", "name", "text", "row"] : List Str).getD i ""
theorem same_drop {cs : List Addr} {H H' : Hp} (s : Same H H') : Same (dropC cs H) (dropC cs H') := fun b o e => by
  by_cases hb : b ∈ cs
  · rw [dropC_in hb] at e; cases e
  · rw [dropC_out hb] at e ⊢; exact s b o e
theorem drop_upd {cs : List Addr} {H : Hp} {p : Addr} {o : HO} (n : p ∉ cs) : dropC cs (upd H p o) = upd (dropC cs H) p o := by
  funext b
  by_cases hb : b = p
  · subst hb
    rw [dropC_out n, upd_same, upd_same]
  · rw [upd_ne hb]
    by_cases hc : b ∈ cs
    · rw [dropC_in hc, dropC_in hc]
    · rw [dropC_out hc, dropC_out hc, upd_ne hb]
noncomputable def hHeard (K : PySem.W.Frag) (e : Errs) : HSpec where
  kV := fun v H Q => ∀ p, H p = none → Q (.ref p) (upd H p (.lst [v]))
  kE := fun c H Q => ∃ C i, c = .ref C ∧ ErrI K e C i ∧ ∀ H', Same H H' → Q (.str (heardWord i)) H'
  comV := fun cs H Q v x k p hp => by
    have n : p ∉ cs := fun z => x p z hp
    show Q (.ref p) (dropC cs (upd H p (.lst [v])))
    rw [drop_upd n]
    exact k p (by rw [dropC_out n]; exact hp)
  comE := fun cs H Q c x k => by
    obtain ⟨C, i, rfl, h, k⟩ := k
    exact ⟨C, i, rfl, h, fun H' s => k _ (same_drop s)⟩
theorem bt_ValueError : bootBuiltins "ValueError" = some (.type "ValueError") := by decide +kernel
/-- the marks: just one, at its place -/
noncomputable abbrev nineB (i : Nat) : List V := [.bl (decide (i = 0)), .bl (decide (i = 1)), .bl (decide (i = 2)), .bl (decide (i = 3)), .bl (decide (i = 4)), .bl (decide (i = 5)), .bl (decide (i = 6)), .bl (decide (i = 7)), .bl (decide (i = 8))]
theorem nine_count : ∀ i, i < 9 → ((nineB i).countP fun z => eqV z (.bl true)) = 1 := by decide
theorem nine_at : ∀ i, i < 9 → eqV ((nineB i).getD i .non) (.bl true) = true := by decide
theorem nine_ahead : ∀ i, i < 9 → ∀ m, m < i → eqV ((nineB i).getD m .non) (.bl true) = false := by decide
theorem nine_word : ∀ i, i < 9 → atI ([.str "share", .str "ball", .str "unlike", .str "fuller", .str "many", .str "back", .str "name", .str "text", .str "row"] : List V) ((i : Nat) : Int) = some (.str (heardWord i)) := by decide
end My
namespace L2
end L2
namespace My
open PySem L2 MA
end My
namespace My
open PySem L2 MA
theorem lam_rec {q : Program} {x : Str} {d : PySem.DefRec} (hr : (PyProof.Rows.recsOf q).find? (fun e => e.name == x) = some d) : ∃ e ∈ PyProof.Rows.recsOf q, e.name = x :=
  ⟨d, List.mem_of_find?_eq_some hr, beq_iff_eq.mp (List.find?_some (p := fun e : PySem.DefRec => e.name == x) hr)⟩
theorem errN_mk {K : PySem.W.Frag} {h : Heap} {mg : Str → Option Value} {b c0 c1 c2 c3 c4 c5 c6 c7 c8 : Addr} (X : K.In h) (G : h.Ns mainGlobals mg) (a : PySem.W.nsIn K mainGlobals "BallError" = some (some (.ref b)))
    (a0 : PySem.W.nsIn K mainGlobals "NoShare" = some (some (.ref c0))) (a1 : PySem.W.nsIn K mainGlobals "NoBall" = some (some (.ref c1))) (a2 : PySem.W.nsIn K mainGlobals "Unlike" = some (some (.ref c2)))
    (a3 : PySem.W.nsIn K mainGlobals "Fuller" = some (some (.ref c3))) (a4 : PySem.W.nsIn K mainGlobals "TooMany" = some (some (.ref c4))) (a5 : PySem.W.nsIn K mainGlobals "NoBack" = some (some (.ref c5)))
    (a6 : PySem.W.nsIn K mainGlobals "NoName" = some (some (.ref c6))) (a7 : PySem.W.nsIn K mainGlobals "NoText" = some (some (.ref c7))) (a8 : PySem.W.nsIn K mainGlobals "NoRow" = some (some (.ref c8))) : ErrN mg ⟨b, c0, c1, c2, c3, c4, c5, c6, c7, c8⟩ :=
  ⟨PySem.W.mg_of X G a, PySem.W.mg_of X G a0, PySem.W.mg_of X G a1, PySem.W.mg_of X G a2, PySem.W.mg_of X G a3, PySem.W.mg_of X G a4, PySem.W.mg_of X G a5, PySem.W.mg_of X G a6, PySem.W.mg_of X G a7, PySem.W.mg_of X G a8⟩
/-- all that is wanted of the class at C, the i-th, by one look -/
noncomputable def errOk (K : PySem.W.Frag) (e : Errs) (C : Addr) (i : Nat) : Bool :=
  decide (i < 9) && (PySem.W.findIn K (.ref C) "__getattribute__" == some (some (.builtin "BaseException.__getattribute__"))) && (PySem.W.findIn K (.ref C) "__getattr__" == some none) && (PySem.W.findIn K (.ref C) "__class__" == some (some (.builtin "object.__class__"))) &&
  (PySem.W.specialIn K (.builtin "object.__class__") "__get__" == some (some (.builtin "getset_descriptor.__get__"))) && (PySem.W.takesIn K (.builtin "object.__class__") == some true) && (PySem.W.clsIn K C).isSome && (PySem.W.mroIn K C (.type "object") == some true) && (PySem.W.mroIn K C (.type "BaseException") == some true) &&
  (PySem.W.exmOne K (.ref C) (.ref e.ball) == some true) && ((([e.c0, e.c1, e.c2, e.c3, e.c4, e.c5, e.c6, e.c7, e.c8] : List Addr).zipIdx.all fun p => PySem.W.kitOne K (.ref C) (.ref p.1) == some (decide (i = p.2)))) && (PySem.W.kitOne K (.ref C) (.type "ValueError") == some true) && PySem.W.excIn K C bmVE "ValueError.__new__"
theorem errOk_of {K : PySem.W.Frag} {e : Errs} {C : Addr} {i : Nat} (h : errOk K e C i = true) : ErrI K e C i ∧ PySem.W.excIn K C bmVE "ValueError.__new__" = true := by
  unfold errOk at h
  simp only [Bool.and_eq_true, beq_iff_eq, decide_eq_true_eq, List.zipIdx_cons, List.zipIdx_nil, List.all_cons, List.all_nil, and_true] at h
  obtain ⟨⟨⟨⟨⟨⟨⟨⟨⟨⟨⟨⟨h1, h2⟩, h3⟩, h4⟩, h5⟩, h6⟩, h7⟩, h8⟩, h9⟩, h10⟩, k0, k1, k2, k3, k4, k5, k6, k7, k8⟩, h12⟩, h13⟩ := h
  exact ⟨⟨h1, ⟨h2, h3, h4, h5, h6, h7, h8, h9⟩, h10, k0, k1, k2, k3, k4, k5, k6, k7, k8, h12⟩, h13⟩
end My

set_option Elab.async false
set_option linter.all false
set_option maxRecDepth 100000
set_option maxHeartbeats 4000000
namespace L2
open PySem PySem.Spec PyProof.Rows
section
variable {X : Cx}
/-- == of two lists of flat things, as long as one another -/
theorem op_eqLf (hu : X.A.units < cLine) : OpR X (compareOp .Eq) (fun x y H Q => ∃ p q xs ys, x = .ref p ∧ y = .ref q ∧ H p = some (.lst xs) ∧ H q = some (.lst ys) ∧ xs.length = ys.length ∧ xs.all flatV = true ∧ ys.all flatV = true ∧ Q (.bl ((List.range xs.length).all fun j => eqV (xs.getD j .non) (ys.getD j .non))) H) := by
  intro pins s σ H x y v u Q I rx ry h
  obtain ⟨p, q, xs, ys, rfl, rfl, h1, h2, hl, f1, f2, k⟩ := h
  cases rx
  cases ry
  obtain ⟨us, r1, t1, z1⟩ := I.list (SqL.of h1)
  obtain ⟨ws, r2, t2, z2⟩ := I.list (SqL.of h2)
  refine SeqAt.eq_listAt t1.isList t2.isList (by simp; rw [← r1.length, ← r2.length]; exact hl) hu (fun j a b => ?_) (fin_bl I k ?_) (e := fun j => eqV (xs.getD j .non) (ys.getD j .non))
  · exact eqAt_V (rel_at r1 a) (rel_at r2 b) (all_at f1 (by have := r1.length; have := a; simp at this; omega)) (all_at f2 (by have := r2.length; have := b; simp at this; omega))
  · rw [List.size_toArray, r1.length]
/-- == of two lists of the same flat things -/
theorem all_self (xs : List V) (h : xs.all (fun v => eqV v v) = true) : ((List.range xs.length).all fun j => eqV (xs.getD j .non) (xs.getD j .non)) = true := by
  rw [List.all_eq_true]
  intro j hj
  have hj : j < xs.length := by simpa using hj
  rw [getD_of hj]
  exact List.all_eq_true.mp h _ (List.getElem_mem hj)
theorem op_eqLs (hu : X.A.units < cLine) : OpR X (compareOp .Eq) (fun x y H Q => ∃ p q xs, x = .ref p ∧ y = .ref q ∧ H p = some (.lst xs) ∧ H q = some (.lst xs) ∧ xs.all flatV = true ∧ xs.all (fun v => eqV v v) = true ∧ Q (.bl true) H) := by
  intro pins s σ H x y v u Q I rx ry h
  obtain ⟨p, q, xs, rfl, rfl, h1, h2, f1, f2, k⟩ := h
  exact op_eqLf hu pins s σ H _ _ v u Q I rx ry ⟨p, q, xs, xs, rfl, rfl, h1, h2, rfl, f1, f1, by rw [all_self xs f2]; exact k⟩
/-- == of a list that is not empty and [] -/
theorem op_eqLE (hu : X.A.units < cLine) : OpR X (compareOp .Eq) (fun x y H Q => ∃ p q xs, x = .ref p ∧ y = .ref q ∧ H p = some (.lst xs) ∧ H q = some (.lst []) ∧ xs ≠ [] ∧ Q (.bl false) H) := by
  intro pins s σ H x y v u Q I rx ry h
  obtain ⟨p, q, xs, rfl, rfl, h1, h2, hx, k⟩ := h
  cases rx
  cases ry
  obtain ⟨us, r1, t1, z1⟩ := I.list (SqL.of h1)
  obtain ⟨ws, r2, t2, z2⟩ := I.list (SqL.of h2)
  cases r2
  have hl := r1.length
  exact SeqAt.eq_list_lengthsAt t1.isList t2.isList (by simp; intro z; rw [z] at hl; simp at hl; exact hx hl) hu (fin_bl I k rfl)
end
theorem desc_eq {l m : List Int} (h : l.Perm m) (a : l.Pairwise (· ≥ ·)) (b : m.Pairwise (· ≥ ·)) : l = m := h.eq_of_pairwise (fun x y _ _ h1 h2 => Int.le_antisymm h2 h1) a b
end L2
namespace My
open PySem L2 MA
theorem same_updN {H H' : Hp} {l : Addr} (hl : H l = none) (s : Same H H') (o : HO) : Same H (upd H' l o) := fun b u q => by rw [upd_ne (ne_of_none q hl)]; exact s _ _ q
theorem ixN_nat {n j : Nat} (h : j < n) : ixN n ((j : Nat) : Int) = some j := by
  unfold ixN
  rw [if_pos (by omega), if_pos (by omega)]
  simp
theorem iv_set (ns : List Int) (j : Nat) (y : Int) : (iv ns).set j (.int y) = iv (ns.set j y) := by show (ns.map V.int).set j (.int y) = (ns.set j y).map V.int; rw [List.map_set]
end My
namespace My
open PySem L2 MA
theorem iv_app (a b : List Int) : iv (a ++ b) = iv a ++ iv b := List.map_append
end My

set_option Elab.async false
set_option linter.all false
set_option maxRecDepth 100000
set_option maxHeartbeats 4000000
namespace L2
open PySem PySem.Spec PyProof.Rows
theorem PS.nox {X : Cx} {st : Stmt} {t : TS} (h : PS X.nox st t) : PS X st t := fun pins s σ H D I hw =>
  wpAny_mono (h pins s σ H D (I.wish _) hw) (fun _ _ q => q.unwish) fun _ _ z => False.elim z
end L2
namespace My
open PySem L2 MA
end My

set_option Elab.async false
set_option linter.all false
set_option maxRecDepth 100000
set_option maxHeartbeats 4000000
namespace L2
open PySem PySem.Spec PyProof.Rows
end L2

set_option Elab.async false
set_option linter.all false
set_option maxRecDepth 100000
set_option maxHeartbeats 4000000
namespace L2
open PySem PySem.Spec PyProof.Rows
end L2

set_option Elab.async false
set_option linter.all false
set_option maxRecDepth 100000
set_option maxHeartbeats 4000000
namespace L2
open PySem PySem.Spec PyProof.Rows
end L2

set_option Elab.async false
set_option linter.all false
set_option maxRecDepth 100000
set_option maxHeartbeats 4000000
namespace L2
open PySem PySem.Spec PyProof.Rows
end L2

set_option Elab.async false
set_option linter.all false
set_option maxRecDepth 100000
set_option maxHeartbeats 4000000
namespace L2
open PySem PySem.Spec PyProof.Rows
end L2

set_option Elab.async false
set_option linter.all false
set_option maxRecDepth 100000
set_option maxHeartbeats 4000000
namespace L2
open PySem PySem.Spec PyProof.Rows
end L2

set_option Elab.async false
set_option linter.all false
set_option maxRecDepth 100000
set_option maxHeartbeats 4000000
namespace L2
open PySem PySem.Spec PyProof.Rows
end L2

set_option Elab.async false
set_option linter.all false
set_option maxRecDepth 100000
set_option maxHeartbeats 4000000
namespace L2
open PySem PySem.Spec PyProof.Rows MA
section
variable {X : Cx}
/-- != of a list and the empty list -/
theorem op_neE (hu : X.A.units < cLine) : OpR X (compareOp .NotEq) (fun x y H Q => ∃ p q xs, x = .ref p ∧ y = .ref q ∧ H p = some (.lst xs) ∧ H q = some (.lst []) ∧ Q (.bl (decide (xs ≠ []))) H) := by
  intro pins s σ H x y v u Q I rx ry h
  obtain ⟨p, q, xs, rfl, rfl, h1, h2, k⟩ := h
  cases rx
  cases ry
  obtain ⟨us, r1, t1, z1⟩ := I.list (SqL.of h1)
  obtain ⟨ws, r2, t2, z2⟩ := I.list (SqL.of h2)
  cases r2
  by_cases e : xs = []
  · subst e
    cases r1
    refine PySem.W.cmp_ofNotEq (SeqAt.RcNeAt.lists (e := fun _ => true) t1.isList t2.isList rfl hu (fun j a b => absurd a (by simp)) X.prog X.w X.xe _ (fin_bl I k ?_))
    simp
  · have hl := r1.length
    have hx : 0 < xs.length := List.length_pos_iff.mpr e
    refine PySem.W.cmp_ofNotEq (SeqAt.RcNeAt.lists_lengths t1.isList t2.isList (by simp; intro z; rw [z] at hl; simp at hl; exact e hl) hu X.prog X.w X.xe _ (fin_bl I k ?_))
    simp [e]
end
end L2

set_option Elab.async false
set_option linter.all false
set_option maxRecDepth 100000
set_option maxHeartbeats 4000000
namespace My
open PySem L2 MA
end My

set_option Elab.async false
set_option linter.all false
set_option maxRecDepth 100000
set_option maxHeartbeats 4000000
namespace L2
open PySem PySem.Spec PyProof.Rows MA SeqAt
end L2

set_option Elab.async false
set_option linter.all false
set_option maxRecDepth 100000
set_option maxHeartbeats 4000000
namespace My
open PySem L2 MA
end My

set_option Elab.async false
set_option linter.all false
set_option maxRecDepth 100000
set_option maxHeartbeats 4000000
namespace My
open PySem L2 MA
end My

set_option Elab.async false
set_option linter.all false
set_option maxRecDepth 100000
set_option maxHeartbeats 4000000
namespace My
open PySem L2 MA
end My

set_option Elab.async false
set_option linter.all false
set_option maxRecDepth 100000
set_option maxHeartbeats 4000000
/-! ### min(xs, key=lambda x: ..), over a list or a tuple -/
namespace L2
open PySem PySem.Spec PyProof.Rows
noncomputable def ClOk1 (P : Program) (w : World) (K : PySem.W.Frag) (mg : Str → Option Value) (base : Heap) (k : Nat) (f : Addr) (sp : V → Sp0) : Prop :=
  ∀ (A : Around) (outer : List Env) (s : Shared) (H : Hp) (v : V) (u : Value) (Q : VK) (E : XK), Room k A → Env0 P w K mg base A outer s H → RelV v u → sp v H Q E → codeAny (model P w) A (.call (.ref f) ⟨[u], []⟩) (CR (CX1 P w) outer P w H s Q E) s
section
variable {P : Program} {w : World} {K : PySem.W.Frag} {mg : Str → Option Value} {base : Heap} {N : List Str} {qual : Str} {scope : Scope} {cl : List (Str × Addr)} {f c' : Addr} {cd : Value}
theorem lam_run1 {k : Nat} {params : Arguments} {body : Expr} {pm ctv : Value} {cs : List Addr} {Hc : Hp} {σl : St} {oc : Obj} {vs : Array Value} {t : Tok} {te : TE} {px : Str}
    (hkind : scope.kind = .function) (hco : scope.isCoroutine = false) (hgen : scope.isGenerator = false) (hcell : ∀ y ∈ scope.names, y.2 ≠ .cell) (hx : scope.names.lookup px = some .local)
    (hcl1 : ∀ x c, cl.lookup x = some c → c ∈ cs) (inj : ∀ x y c, cl.lookup x = some c → cl.lookup y = some c → x = y) (hcl2 : ∀ x, (x, NameKind.free) ∈ scope.names → ∃ c, cl.lookup x = some c)
    (len : σl.length = N.length) (vals : ∀ (i : Nat) x v, N[i]? = some x → σl[i]? = some (some v) → scope.names.lookup x = some .free ∧ ∃ c o u, cl.lookup x = some c ∧ Hc c = some (fc o) ∧ o.data = .cell (some u) ∧ RelV v u)
    (cells : ∀ c ∈ cs, ∃ o v, Hc c = some (fc o) ∧ o.data = .cell v)
    (hf : Hc f = some (fz (PySem.W.kla_obj "<lambda>" qual params body scope cl pm c' ctv))) (hc : Hc c' = some (fz oc)) (hd : oc.data = .fields vs) (hv : vs[1]? = some (.str qual t))
    (hbind : ∀ u, bindArgs (PySem.W.kla_fn "<lambda>" qual params body scope cl pm (.ref c') ctv) ⟨[u], []⟩ = pure [(px, u)])
    (hbody : ∀ (A : Around) (outer : List Env) (s : Shared) (H : Hp) (E : XK), Room k (A.deeper (PySem.W.envX qual scope s.heap.objs.size f (.ref c') cl)) → PE (cxLam P w K mg base (px :: N) qual scope cl f (.ref c') A outer s H E) body te) :
    ClOk1 P w K mg base (k + 1) f (fun v => spLam cs Hc f c' (fun _ => te) (some v :: σl)) := by
  intro A outer s H' va ua Q' E' hr e0 rva h
  obtain ⟨ef, ec, ecs, Qu, Eu, ht, hQ, hE⟩ := h
  have x : CellsAt cs H' := fun c hcc => by
    obtain ⟨o, v, e, _⟩ := cells c hcc
    exact ⟨o, by rw [ecs c hcc]; exact e⟩
  have nf : ∀ c ∈ cs, c ∉ frs outer := fun c hcc z => by
    obtain ⟨o, e⟩ := x c hcc
    rw [e0.frf c z] at e
    cases e
  refine codeAny_mono (R := CR (CX1 P w) outer P w (dropC cs H') s Qu Eu) ?_ fun r s' h => cr_back x e0.hok nf hQ hE h
  have ho : s.heap.get? f = some (PySem.W.kla_obj "<lambda>" qual params body scope cl pm c' ctv) := (e0.hok f _ (ef.trans hf)).1
  have hoc : s.heap.get? c' = some oc := (e0.hok c' _ (ec.trans hc)).1
  have nolim : s.heap.NoLimit := e0.mod.nolimit.keeps fun b o e => (e0.bs b o e).1
  refine PySem.W.kla_callFunE hr.depth ho rfl hco hgen rfl ⟨c', oc, vs, t, rfl, hoc, hd, hv⟩ ?_
  rw [hbind]
  refine wpAny_pure (wpAny_newFunctionEnv hcell (fun y hy => by rw [List.mem_singleton.mp hy]; exact hx) (fun h1 hns hsb => ⟨nolim.fresh _ hsb, ?_⟩) hkind)
  show codeAny _ _ (.expr body (PySem.W.envX qual scope s.heap.objs.size f (.ref c') cl)) _ _
  have keep : ∀ b u, s.heap.get? b = some u → h1.get? b = some u := fun b u q =>
    hsb.extBut b u (Nat.ne_of_lt (Heap.lt_size q)) (Heap.get?_push_of_some _ q)
  have dn : ∀ {b : Addr}, H' b = none → dropC cs H' b = none := fun {b} n => by
    by_cases hb : b ∈ cs
    · exact dropC_in hb
    · rw [dropC_out hb]; exact n
  have okd : HOk P w (dropC cs H') s.heap := hok_drop x e0.hok
  have noA : ∀ b : Addr, b ∉ (cxLam P w K mg base (px :: N) qual scope cl f (.ref c') A outer s (dropC cs H') Eu).ex := fun b z => absurd (show b ∈ ([] : List Addr) from z) (by simp)
  have cellAt : ∀ c ∈ cs, ∃ o v, s.heap.get? c = some o ∧ o.data = .cell v ∧ Hc c = some (fc o) := fun c hcc => by
    obtain ⟨o, v, e, d⟩ := cells c hcc
    exact ⟨o, v, (e0.hok c _ ((ecs c hcc).trans e)).1, d, e⟩
  have I : Inv (cxLam P w K mg base (px :: N) qual scope cl f (.ref c') A outer s (dropC cs H') Eu) [] (some va :: σl) (dropC cs H') { s with heap := h1, toks := s.toks + ([(px, ua)] : List (Str × Value)).length } := by
    refine ⟨⟨e0.mod, hkind, rfl, rfl, Nat.le_refl _, inj, fun y hy => ?_, fun y c z => Bool.noConfusion (show false = true from z), fun _ => hr.hd, Around.frames_deeper e0.frames, .inr ⟨rfl, rfl⟩, fun b z => absurd z (noA b), fun b o e => ⟨(e0.bs b o e).1, dn (e0.bs b o e).2⟩, e0.bsz, fun b _ _ => noA b, fun b z => absurd z (noA b), e0.funs, fun b hb => dn (e0.frf b hb)⟩,
      rfl, e0.bare, Un.kept keep, ⟨_, hns, fun i y v e1 e2 e3 => ?_⟩, fun y c h => ?_, okd.fresh (Nat.le_refl _), fun y c h => dropC_in (hcl1 y c h), fun p hp => absurd (show p ∈ ([] : List (Addr × Obj)) from hp) (by simp), okd.kept keep, ?_⟩
    · have hy : scope.names.lookup y = some .cell ∨ scope.names.lookup y = some .free := hy
      rcases hy with hy | hy
      · exact absurd rfl (hcell _ (PySem.mem_of_lookup hy))
      · exact hcl2 y (PySem.mem_of_lookup hy)
    · cases i with
      | zero =>
        have ey : px = y := Option.some.inj e1
        have ev : va = v := Option.some.inj (Option.some.inj e2)
        subst ey ev
        exact ⟨ua, rva, .inl ⟨hx, by simp⟩⟩
      | succ i =>
        obtain ⟨l1, c, o, u, l2, l3, l4, l5⟩ := vals i y v e1 e2
        obtain ⟨o2, v2, g1, g2, g3⟩ := cellAt c (hcl1 y c l2)
        rw [l3] at g3
        cases g3
        exact ⟨u, l5, .inr ⟨.inr l1, c, l2, o, keep _ _ g1, l4⟩⟩
    · obtain ⟨o2, v2, g1, g2, _⟩ := cellAt c (hcl1 y c h)
      exact ⟨v2, o2, keep _ _ g1, g2⟩
    · show (some va :: σl).length = (px :: N).length
      simp [len]
  exact PySem.W.kla_codeExpr (wpAny_mono (hbody A outer s (dropC cs H') Eu (hr.deeper _) [] _ (some va :: σl) (dropC cs H') Qu I ht) (fun v s' ⟨v', H2, J, r, q⟩ => ⟨v', H2, J.os, J.bare, J.base, J.hok, r, q⟩) fun e s' z => z)
end
section
variable {X : Cx} {pins : List (Addr × Obj)} {σ : St} {H : Hp} {b : Bool} {l I S f : Addr} {xs : List V} {kf : Nat → Int} {R : Result → Shared → Prop}
theorem minKey_loop (hh : X.A.in1.handled = none) (sq : SqB X.K H b l xs) (hlI : l ≠ I) (hSI : S ≠ I) (fI : FpOk X pins H I) (fS : FpOk X pins H S)
    (turn : ∀ (pins' : List (Addr × Obj)) (s' : Shared) (i : Nat) (v : V) (u : Value), Inv X pins' σ H s' → xs[i]? = some v → RelV v u → wpAny (model X.prog X.w) X.A.in1 (call (.ref f) [u]) (fun r s2 => ∃ t, r = .int (kf i) t ∧ Inv X pins' σ H s2) (fun _ _ => False) s')
    (hR : ∀ (i : Nat) (v : V) (u : Value) (s' : Shared), xs[i]? = some v → RelV v u → (∀ j, j < xs.length → kf i ≤ kf j ∧ (j < i → kf i < kf j)) → Inv X pins σ H s' → R (.ok (.ret u)) s') :
    ∀ (r j i : Nat) (s : Shared) (vb : V) (ub : Value) (tb : Tok) (c : Nat), xs.length - (j + 1) = r → j + 1 ≤ xs.length → Inv X pins σ H s → IterB s.heap b I l (j + 1) → s.heap.get? S = some (seqObj "list" #[ub, .int (kf i) tb] c) →
      xs[i]? = some vb → RelV vb ub → i ≤ j → (∀ j', j' ≤ j → kf i ≤ kf j' ∧ (j' < i → kf i < kf j')) → codeAny (model X.prog X.w) X.A (.builtin "min.loop" ⟨[.ref I, .ref f, .ref S], []⟩) R s := by
  have hname : (toString "min" ++ toString ".loop" : String) = "min.loop" := by decide
  have fpI : ∀ b ∈ [I], FpOk X pins H b := fun b hb => by rw [List.mem_singleton.mp hb]; exact fI
  have fpS : ∀ b ∈ [S], FpOk X pins H b := fun b hb => by rw [List.mem_singleton.mp hb]; exact fS
  have fpB : ∀ b ∈ [I, S], FpOk X pins H b := fun b hb => by
    rcases List.mem_cons.mp hb with rfl | hb
    · exact fI
    · exact fpS b hb
  intro r
  induction r with
  | zero =>
    intro j i s vb ub tb c hr hj J hit hS hvb rvb hij hbest
    obtain ⟨its, rv, p, hz⟩ := J.seqB sq
    have hlen := rv.length
    have hin : j + 1 = its.toArray.size := by rw [List.size_toArray]; omega
    refine codeAny_builtin PySem.F.entry_min_loop ?_
    rw [Around.under_plainId PySem.F.plain_min_loop _]
    show wpAny _ X.A.in1 (seqItems? (.ref S) >>= _) _ _ _
    refine wpAny_bind (wpAny_seqItems hS rfl ?_)
    show wpAny _ X.A.in1 (tryCatch (pyNext (.ref I)) _ >>= _) _ _ _
    refine wpAny_bind (wpAny_tryCatch ((walksB hh b I l hlI its.toArray).done _ _ _ ⟨by rw [← hin]; exact hit, p⟩ fun h' tk' hk' => ?_))
    have J1 : Inv X pins σ H { s with heap := h', toks := tk' } := J.turnedL (t' := tk') fpI fun b o hb e => hk' b o hb e
    have hS' := hk' S _ (by simpa using hSI) hS
    have s1 := Heap.SameBut.update h' S (Obj.mapSeq fun _ => (#[] : Array Value))
    show wpAny _ X.A.in1 (updateSeq S (fun _ => #[]) >>= _) _ _ _
    refine wpAny_bind ?_
    refine wpAny_updateSeq hS' rfl (wpAny_bind (wpAny_letGo (wpAny_pure ?_)))
    exact hR i vb ub _ hvb rvb (fun j' hj' => hbest j' (by omega)) (J1.turnedL (t' := tk') fpS fun b o hb e => (s1.2 b (by simpa using hb)).trans e)
  | succ r ih =>
    intro j i s vb ub tb c hr hj J hit hS hvb rvb hij hbest
    obtain ⟨its, rv, p, hz⟩ := J.seqB sq
    have hlen := rv.length
    have hlt : j + 1 < xs.length := by omega
    refine codeAny_builtin PySem.F.entry_min_loop ?_
    rw [Around.under_plainId PySem.F.plain_min_loop _]
    show wpAny _ X.A.in1 (seqItems? (.ref S) >>= _) _ _ _
    refine wpAny_bind (wpAny_seqItems hS rfl ?_)
    show wpAny _ X.A.in1 (tryCatch (pyNext (.ref I)) _ >>= _) _ _ _
    refine wpAny_bind (wpAny_tryCatch ((walksB hh b I l hlI its.toArray).item (j + 1) _ _ _ (by rw [List.size_toArray]; omega) ⟨hit, p⟩ fun v h' tk' hP hst' hk' => ?_))
    have J1 : Inv X pins σ H { s with heap := h', toks := tk' } := J.turnedL (t' := tk') fpI fun b o hb e => hk' b o hb e
    have hS' := hk' S _ (by simpa using hSI) hS
    have hxv : xs[j + 1]? = some xs[j + 1] := List.getElem?_eq_getElem hlt
    obtain ⟨v', ev, rvv⟩ := rv.get hxv
    have ev' : v' = v := by
      have hP : its[j + 1]? = some v := by simpa using hP
      rw [ev] at hP
      exact Option.some.inj hP
    subst ev'
    have ho : ∀ b ∈ [I, S], ∃ o, h'.get? b = some o ∧ ∀ v, o.data ≠ .cell v := fun b hb => by
      rcases List.mem_cons.mp hb with rfl | hb
      · exact hst'.1.ob
      · rw [List.mem_singleton.mp hb]; exact ⟨_, hS', fun v z => by cases z⟩
    have J1p := J1.pinned fpB ho
    show wpAny _ X.A.in1 (tryCatch (holding [v'] (call (.ref f) [v'])) _ >>= _) _ _ _
    refine wpAny_bind (wpAny_tryCatch (wpAny_holding (wpAny_mono (turn _ _ (j + 1) _ v' J1p hxv rvv) (fun x s2 he => ?_) fun _ _ hF => hF.elim)))
    obtain ⟨t2, rfl, J2p⟩ := he
    have J2 := J2p.unpinned
    have hS2 : s2.heap.get? S = some (seqObj "list" #[ub, .int (kf i) tb] c) := (J2p.pin (S, _) (List.mem_append_right _ (List.mem_append_right _ (mem_pinsAt (by simp) hS')))).1
    have hit2 : IterB s2.heap b I l (j + 1 + 1) := hst'.1.at fun o e => (J2p.pin (I, o) (List.mem_append_right _ (List.mem_append_right _ (mem_pinsAt (by simp) e)))).1
    show wpAny _ X.A.in1 (tryCatch (holding [v', .int (kf (j + 1)) t2] (richCompare .Lt (.int (kf (j + 1)) t2) (.int (kf i) tb) >>= _)) _ >>= _) _ _ _
    refine wpAny_bind (wpAny_tryCatch (wpAny_holding (wpAny_bind (CmpOf.ints_lt (prog := X.prog) (w := X.w) (A := X.A.in1) (P := fun i v => ∃ t, v = .int (kf i) t) kf (fun i v h => h) (j + 1) i _ _ _ _ _ ⟨t2, rfl⟩ ⟨tb, rfl⟩ ?_))))
    refine wpAny_bind (wpAny_holding (wpAny_truthy_bool ?_))
    refine wpAny_bind (wpAny_letGo (wpAny_pure ?_))
    by_cases hb' : kf (j + 1) < kf i
    · have s1 := Heap.SameBut.update s2.heap S (Obj.mapSeq fun _ => #[v', .int (kf (j + 1)) t2])
      obtain ⟨c2, hc2⟩ : ∃ c2, (s2.heap.update S (Obj.mapSeq fun _ => #[v', .int (kf (j + 1)) t2])).get? S = some (seqObj "list" #[v', .int (kf (j + 1)) t2] c2) := ⟨_, get?_update_seq hS2 fun _ => #[v', .int (kf (j + 1)) t2]⟩
      simp only [hb', decide_true, if_true]
      refine wpAny_bind ?_
      refine wpAny_updateSeq hS2 rfl (wpAny_bind (wpAny_letGo ?_))
      rw [hname]
      refine wpAny_pure ⟨plainId_quiet PySem.F.plain_min_loop _, ih (j + 1) (j + 1) _ xs[j + 1] v' t2 c2 (by omega) hlt (J2.turnedL (t' := s2.toks) fpS fun b o hb e => (s1.2 b (by simpa using hb)).trans e) (hit2.at fun o e => (s1.2 I hSI.symm).trans e) hc2 hxv rvv (Nat.le_refl _) fun j' hj' => ?_⟩
      by_cases e : j' = j + 1
      · subst e
        exact ⟨by omega, fun _ => by omega⟩
      · have hb1 := hbest j' (by omega)
        have hb2 := hb1.1
        exact ⟨by omega, fun _ => by omega⟩
    · simp only [hb', decide_false, Bool.false_eq_true, if_false]
      refine wpAny_bind (wpAny_letGo ?_)
      rw [hname]
      refine wpAny_pure ⟨plainId_quiet PySem.F.plain_min_loop _, ih (j + 1) i _ vb ub tb c (by omega) hlt J2 hit2 hS2 hvb rvb (by omega) fun j' hj' => ?_⟩
      by_cases e : j' = j + 1
      · subst e
        exact ⟨by omega, fun _ => by omega⟩
      · exact hbest j' (by omega)
theorem minKey_call {s : Shared} {Q : Value → Shared → Prop} {E : Value → Shared → Prop} (hc : X.calm = true) (J : Inv X pins σ H s) (sq : SqB X.K H b l xs) (hne : xs ≠ [])
    (turn : ∀ (pins' : List (Addr × Obj)) (s' : Shared) (i : Nat) (v : V) (u : Value), Inv X pins' σ H s' → xs[i]? = some v → RelV v u → wpAny (model X.prog X.w) X.A.in1 (call (.ref f) [u]) (fun r s2 => ∃ t, r = .int (kf i) t ∧ Inv X pins' σ H s2) (fun _ _ => False) s')
    (hQ : ∀ (i : Nat) (v : V) (u : Value) (s' : Shared), xs[i]? = some v → RelV v u → (∀ j, j < xs.length → kf i ≤ kf j ∧ (j < i → kf i < kf j)) → Inv X pins σ H s' → Q u s') :
    wpAny (model X.prog X.w) X.A (call (.builtin "min") [.ref l] [(Str.ofString "key", .ref f)]) Q E s := by
  have hname : (toString "min" ++ toString ".loop" : String) = "min.loop" := by decide
  have hh : X.A.in1.handled = none := J.ok.hd hc
  have hpos : 0 < xs.length := List.length_pos_iff.mpr hne
  obtain ⟨its, rv, p, hz⟩ := J.seqB sq
  have hlen := rv.length
  have hll := p.lt
  refine kmk_tree PySem.F.kind_min PySem.F.plain_min PySem.F.entry_min (kmk_min_key _ _) ?_
  show wpAny _ X.A.in1 (Builtin.Builtins.bindParams "min" ["key", "default"] 0 ⟨[], [(Str.ofString "key", .ref f)]⟩ >>= _) _ _ s
  refine wpAny_bind (wpAny_of_eq (show Builtin.Builtins.bindParams "min" ["key", "default"] 0 ⟨[], [(Str.ofString "key", .ref f)]⟩ = pure [some (.ref f), none] from rfl) ?_)
  refine wpAny_bind (wpAny_pure ?_)
  refine wpAny_bind (iterB p fun h0 it0 sz0 k0 => ?_)
  refine wpAny_bind (wpAny_newList ?_ (Nat.zero_le _))
  rw [hname]
  have J0 : Inv X pins σ H { s with heap := h0, toks := s.toks } := J.kept (t' := s.toks) k0
  have JS : Inv X pins σ H { s with heap := h0.push (seqObj "list" #[] 0), toks := s.toks } := J.kept (t' := s.toks) fun b u e => Heap.get?_push_of_some _ (k0 b u e)
  have gS : (h0.push (seqObj "list" #[] 0)).get? h0.objs.size = some (seqObj "list" #[] 0) := Heap.get?_push_size _ rfl
  have hSI : h0.objs.size ≠ s.heap.objs.size := by rw [sz0]; exact Nat.ne_of_gt (Nat.lt_succ_self _)
  have hlI : l ≠ s.heap.objs.size := Nat.ne_of_lt hll
  have fI : FpOk X pins H s.heap.objs.size := J.fpOk (Nat.le_refl _) (J.hok.fresh (Nat.le_refl _))
  have fS : FpOk X pins H h0.objs.size := J.fpOk (by rw [sz0]; exact Nat.le_succ _) (J.hok.fresh (by rw [sz0]; exact Nat.le_succ _))
  have fpI : ∀ b ∈ [s.heap.objs.size], FpOk X pins H b := fun b hb => by rw [List.mem_singleton.mp hb]; exact fI
  have fpS : ∀ b ∈ [h0.objs.size], FpOk X pins H b := fun b hb => by rw [List.mem_singleton.mp hb]; exact fS
  have fpB : ∀ b ∈ [s.heap.objs.size, h0.objs.size], FpOk X pins H b := fun b hb => by
    rcases List.mem_cons.mp hb with rfl | hb
    · exact fI
    · exact fpS b hb
  refine wpAny_pure ⟨plainId_quiet PySem.F.plain_min_loop _, ?_⟩
  generalize hI : s.heap.objs.size = I at *
  generalize hSS : h0.objs.size = S at *
  refine codeAny_builtin PySem.F.entry_min_loop ?_
  rw [Around.under_plainId PySem.F.plain_min_loop _]
  show wpAny _ X.A.in1 (seqItems? (.ref S) >>= _) _ _ _
  refine wpAny_bind (wpAny_seqItems gS rfl ?_)
  show wpAny _ X.A.in1 (tryCatch (pyNext (.ref I)) _ >>= _) _ _ _
  refine wpAny_bind (wpAny_tryCatch ((walksB hh b I l hlI its.toArray).item 0 _ _ _ (by rw [List.size_toArray]; omega) ⟨it0.at fun o e => Heap.get?_push_of_some _ e, p.at fun o e => Heap.get?_push_of_some _ (k0 _ _ e)⟩ fun v h' tk' hP hst' hk' => ?_))
  have J1 : Inv X pins σ H { s with heap := h', toks := tk' } := JS.turnedL (t' := tk') fpI fun b o hb e => hk' b o hb e
  have hS' := hk' S _ (by simpa using hSI) gS
  have hxv : xs[0]? = some xs[0] := List.getElem?_eq_getElem hpos
  obtain ⟨v', ev, rvv⟩ := rv.get hxv
  have ev' : v' = v := by
    have hP : its[0]? = some v := by simpa using hP
    rw [ev] at hP
    exact Option.some.inj hP
  subst ev'
  have ho : ∀ b ∈ [I, S], ∃ o, h'.get? b = some o ∧ ∀ v, o.data ≠ .cell v := fun b hb => by
    rcases List.mem_cons.mp hb with rfl | hb
    · exact hst'.1.ob
    · rw [List.mem_singleton.mp hb]; exact ⟨_, hS', fun v z => by cases z⟩
  have J1p := J1.pinned fpB ho
  show wpAny _ X.A.in1 (tryCatch (holding [v'] (call (.ref f) [v'])) _ >>= _) _ _ _
  refine wpAny_bind (wpAny_tryCatch (wpAny_holding (wpAny_mono (turn _ _ 0 _ v' J1p hxv rvv) (fun x s2 he => ?_) fun _ _ hF => hF.elim)))
  obtain ⟨t2, rfl, J2p⟩ := he
  have J2 := J2p.unpinned
  have hS2 : s2.heap.get? S = some (seqObj "list" #[] 0) := (J2p.pin (S, _) (List.mem_append_right _ (List.mem_append_right _ (mem_pinsAt (by simp) hS')))).1
  have hit2 : IterB s2.heap b I l (0 + 1) := hst'.1.at fun o e => (J2p.pin (I, o) (List.mem_append_right _ (List.mem_append_right _ (mem_pinsAt (by simp) e)))).1
  have s1 := Heap.SameBut.update s2.heap S (Obj.mapSeq fun _ => #[v', .int (kf 0) t2])
  obtain ⟨c2, hc2⟩ : ∃ c2, (s2.heap.update S (Obj.mapSeq fun _ => #[v', .int (kf 0) t2])).get? S = some (seqObj "list" #[v', .int (kf 0) t2] c2) := ⟨_, get?_update_seq hS2 fun _ => #[v', .int (kf 0) t2]⟩
  show wpAny _ X.A.in1 (updateSeq S (fun _ => #[v', .int (kf 0) t2]) >>= _) _ _ _
  refine wpAny_bind ?_
  refine wpAny_updateSeq hS2 rfl ?_
  rw [hname]
  refine wpAny_pure ⟨plainId_quiet PySem.F.plain_min_loop _, minKey_loop hh sq hlI hSI fI fS turn hQ _ 0 0 _ xs[0] v' t2 c2 rfl hpos (J2.turnedL (t' := s2.toks) fpS fun b o hb e => (s1.2 b (by simpa using hb)).trans e) (hit2.at fun o e => (s1.2 I hSI.symm).trans e) hc2 hxv rvv (Nat.le_refl _) fun j' hj' => ?_⟩
  have : j' = 0 := by omega
  subst this
  exact ⟨Int.le_refl _, fun z => absurd z (Nat.lt_irrefl _)⟩
end
end L2

set_option Elab.async false
set_option linter.all false
set_option maxRecDepth 100000
set_option maxHeartbeats 4000000
namespace L2
open PySem PySem.Spec PyProof.Rows
/-- min(e, key=lambda x: ..): the key tells an int and leaves everything as it is -/
noncomputable def tMinKey (b : Bool) (K : PySem.W.Frag) (P : Addr) (q : Str) (σ0 : St → St) (te : TE) (t : TA) : TE := fun σ H Q => t σ H fun vs H1 => ∃ l xs, vs = [.ref l] ∧ SqB K H1 b l xs ∧ xs ≠ [] ∧ H1 P = some (.tab q) ∧
  ∀ H2, Same H1 H2 → ∃ kf : Nat → Int, (∀ i v, xs[i]? = some v → te (some v :: σ0 σ) H2 (fun u H' => u = .int (kf i) ∧ H' = H2)) ∧ ∀ i v, xs[i]? = some v → (∀ j, j < xs.length → kf i ≤ kf j ∧ (j < i → kf i < kf j)) → Q v H2
theorem SqB.same {K : PySem.W.Frag} {H H1 : Hp} (sm : Same H H1) {b : Bool} {l : Addr} {xs : List V} (h : SqB K H b l xs) : SqB K H1 b l xs := by
  cases b with
  | true =>
    rcases h with (h | ⟨ob, h⟩) | h
    · exact .inl (.inl (sm _ _ h))
    · exact .inl (.inr ⟨ob, sm _ _ h⟩)
    · exact .inr h
  | false =>
    rcases h with (h | ⟨ob, h⟩) | h
    · exact .inl (.inl (sm _ _ h))
    · exact .inl (.inr ⟨ob, sm _ _ h⟩)
    · exact .inr h
theorem pe_minKey {X : Cx} (b : Bool) {k kc : Nat} {c P : Addr} {q px : Str} {params : Arguments} {body e : Expr} {scope : Scope} {lpos p p4 pos : Pos} {N : List Str} {σ0 : St → St} {te : TE} {t : TA}
    (hr : Room (kc + 2) X.A) (hca : X.calm = true) (L : LamB X.mg X.base c P) (hcode : X.env.code = .ref c) (hq : X.env.qual ++ "<lambda>" = q) (hfn : ∀ x, X.fn x = true)
    (hdef : defaultsOf params X.env = ([], [])) (hkind : scope.kind = .function) (hco : scope.isCoroutine = false) (hgen : scope.isGenerator = false) (hcell : ∀ y ∈ scope.names, y.2 ≠ .cell) (hpx : scope.names.lookup px = some .local)
    (hfr : ∀ y ∈ scope.names, y.2 = .free → X.env.kindOf y.1 = some .cell ∨ X.env.kindOf y.1 = some .free) (hσ : Sees X scope N σ0)
    (hbind : ∀ (cl : List (Str × Addr)) (pm ctv cd u : Value), bindArgs (PySem.W.kla_fn "<lambda>" q params body scope cl pm cd ctv) ⟨[u], []⟩ = pure [(px, u)])
    (hg : Gl X "min") (hm : X.mg "min" = none) (ha : PA X [e] t)
    (hbody : ∀ (cl : List (Str × Addr)) (f c' : Addr) (A : Around) (outer : List Env) (s : Shared) (H : Hp) (E : XK), Room kc (A.deeper (PySem.W.envX q scope s.heap.objs.size f (.ref c') cl)) → PE (cxLam X.prog X.w X.K X.mg X.base (px :: N) q scope cl f (.ref c') A outer s H E) body te)
    (he : backTo pos (starEach [e] X.env) = (false, eval e X.env) :: backTo pos (starEach [] X.env) := by rfl) (hpl : (backTo pos (starEach [e] X.env)).any (·.1) = false := by rfl) :
    PE X (.Call (.Name "min" p) [e] [⟨some "key", .Lambda params body scope lpos, p4⟩] pos) (tMinKey b X.K P q σ0 te t) := by
  intro pins s σ H Q I h
  refine wpAny_Call_Name_kw (ld_blt I hg hm bt_min ?_ (by decide) (by decide))
  refine callWith_kw (thn (ha pos pins s σ H _ I h) fun us s1 ⟨vs, H1, I1, r1, q1⟩ => ?_) he hpl
  obtain ⟨l, xs, rfl, sq, hne, hP, hte⟩ := q1
  obtain ⟨u, rfl, ru⟩ := vals1 r1
  cases ru
  obtain ⟨cl, hclos, hcl1, hcl2⟩ := closure_of (env := X.env) (scope := scope) fun y hy hf => I.ok.has y.1 (hfr y hy hf)
  show wpAny _ X.A (evalAll [(do let v ← eval (.Lambda params body scope lpos) X.env; standAt pos; pure v)]) _ _ s1
  refine wpAny_evalAll_cons (wpAny_bind (thn (lam_made L hcode hq hdef hclos I1 hP) fun v s2 h2 => wpAny_bind (wpAny_standAt (wpAny_pure (wpAny_evalAll_nil ?_)))))
  obtain ⟨f, c', oc, vs, tt, pm, ctv, H2, rfl, I2, sm, ef, ec, hd1, hv1⟩ := h2
  show wpAny _ X.A (call (.builtin "min") [.ref l] [(Str.ofString "key", .ref f)]) _ _ _
  obtain ⟨kf, hkey, hQ⟩ := hte H2 sm
  refine minKey_call (kf := kf) hca I2 (sq.same sm) hne (fun pins' s' i v u J hv rv => ?_) fun i v u s' hv rv hb J => ⟨v, H2, J, rv, hQ i v hv hb⟩
  -- the key is asked
  have inC : ∀ x c, cl.lookup x = some c → c ∈ cl.filterMap fun p => cl.lookup p.1 := fun x c e => List.mem_filterMap.mpr ⟨(x, c), PySem.mem_of_lookup e, e⟩
  have ofC : ∀ c ∈ cl.filterMap (fun p => cl.lookup p.1), ∃ x, cl.lookup x = some c ∧ X.env.cells.lookup x = some c := fun c hc => by
    obtain ⟨p, _, e⟩ := List.mem_filterMap.mp hc
    exact ⟨p.1, e, hcl1 _ _ e⟩
  generalize hcs : (cl.filterMap fun p => cl.lookup p.1) = cs at *
  have xin : CellsIn cs H2 s'.heap := fun c hc => by
    obtain ⟨x, _, e⟩ := ofC c hc
    obtain ⟨v, o, eo, _⟩ := J.cell x c e
    exact ⟨J.freeC x c e, o, eo⟩
  have low : ∀ c ∈ cs, X.s₀.heap.objs.size ≤ c := fun c hc => by
    obtain ⟨x, _, e⟩ := ofC c hc
    exact J.ok.cab x c (hfn x) e
  have nS : ∀ c ∈ cs, c ∉ frs X.stack := fun c hc z => by
    obtain ⟨x, _, e⟩ := ofC c hc
    rcases List.mem_cons.mp (J.stkSub c z) with y | y
    · exact J.cne x c e y
    · obtain ⟨_, o, eo, _⟩ := J.ok.funs.mem y
      exact absurd (Nat.lt_of_lt_of_le (Heap.lt_size eo) (low c hc)) (Nat.lt_irrefl _)
  have fo : f ∉ cs := out_of xin ef
  have co : c' ∉ cs := out_of xin ec
  have e0 : Env0 X.prog X.w X.K X.mg X.base X.A X.stack s' (frzC s'.heap cs H2) := by
    refine ⟨J.ok.frames, J.ok.mod, fun b o e => ⟨J.bk b o e, ?_⟩, Nat.le_trans J.ok.bsz J.sz, J.stack, fun b hb => ?_, hok_frz xin J.hok, J.bare⟩
    · have : b ∉ cs := fun z => absurd (Nat.lt_of_lt_of_le (Heap.lt_size e) (Nat.le_trans J.ok.bsz (low b z))) (Nat.lt_irrefl _)
      rw [frzC_out this]
      exact (J.bs b o e).2
    · rw [frzC_out fun z => nS b z hb]
      exact J.stkFree b hb
  have ob : ∀ c ∈ cs, ∃ o v, frzC s'.heap cs H2 c = some (fc o) ∧ o.data = .cell v := fun c hc => by
    obtain ⟨x, _, e⟩ := ofC c hc
    obtain ⟨v, o, eo, d⟩ := J.cell x c e
    exact ⟨o, v, frzC_in hc eo, d⟩
  have cok : ClOk1 X.prog X.w X.K X.mg X.base (kc + 1) f (fun v => spLam cs (frzC s'.heap cs H2) f c' (fun _ => te) (some v :: σ0 σ)) := by
    refine lam_run1 (N := N) hkind hco hgen hcell hpx inC (fun x y c a b => J.ok.inj x y c (hcl1 x c a) (hcl1 y c b)) hcl2 (hσ σ).1 (fun i x v e1 e2 => ?_) ob (by rw [frzC_out fo]; exact ef) (by rw [frzC_out co]; exact ec) hd1 hv1 (fun u => hbind cl pm ctv (.ref c') u) fun A outer s H E hr => hbody cl f c' A outer s H E hr
    obtain ⟨hf, j, hj, hv⟩ := (hσ σ).2 i x v e1 e2
    refine ⟨hf, ?_⟩
    have hm := mem_of_lookupF hf
    obtain ⟨m', hn, hl⟩ := id J.loc
    have hk := hfr _ hm rfl
    have hvis : Vis X.env.scope x := hk.elim (fun z => .inr (.inl z)) fun z => .inr (.inr z)
    obtain ⟨u, r, lk⟩ := hl j x v hj hv hvis
    obtain ⟨c2, hc2⟩ := hcl2 x hm
    have hx := hcl1 x c2 hc2
    rcases lk with ⟨kl, _⟩ | ⟨_, c3, e3, o3, ho3, hd3⟩
    · rcases hk with z | z <;> rw [kl] at z <;> cases z
    · rw [hx] at e3
      cases e3
      exact ⟨c2, o3, u, hc2, frzC_in (inC x c2 hc2) ho3, hd3, r⟩
  have hsp : spLam cs (frzC s'.heap cs H2) f c' (fun _ => te) (some v :: σ0 σ) (frzC s'.heap cs H2) (fun u H' => u = .int (kf i) ∧ dropC cs H' = H2) (fun _ _ _ => False) := by
    refine ⟨rfl, rfl, fun _ _ => rfl, fun u H' => u = .int (kf i) ∧ H' = H2, fun _ _ _ => False, ?_, fun v H3 n z => ⟨z.1, by rw [drop_back n]; exact z.2⟩, fun c d H3 n z => z⟩
    rw [drop_frz xin]
    exact hkey i v hv
  refine wpAny_call (codeAny_mono (cok X.A.in1 X.stack s' _ v u _ _ hr.in1 e0.in1 rv hsp) fun r s'' hz => ?_)
  cases r with
  | error e =>
    obtain ⟨x, C, H', rfl, F, hE⟩ := hz
    exact False.elim hE
  | ok fl =>
    cases fl with
    | ret u =>
      obtain ⟨v, H', os, bare, un, hok, rv', rfl, hdrop⟩ := hz
      obtain ⟨t2, rfl⟩ := rv'
      have J' := J.call' os (un_frz xin un hok) (hok_drop (at_of_un xin.frz un) hok) bare fun b z => absurd z (by simp)
      rw [hdrop] at J'
      exact ⟨t2, rfl, J'⟩
    | next => exact False.elim hz
    | brk => exact False.elim hz
    | cont => exact False.elim hz
end L2

set_option Elab.async false
set_option linter.all false
set_option maxRecDepth 100000
set_option maxHeartbeats 4000000
/-! ### == and != of data: ints, texts, tuples and lists of them, nested -/
namespace L2
open PySem PySem.Spec PyProof.Rows MA SeqAt
theorem pairs_ext : ∀ {a b : List (PyData × PyData)}, a.map (·.1) = b.map (·.1) → a.map (·.2) = b.map (·.2) → a = b
  | [], [], _, _ => rfl
  | [], _ :: _, x, _ => by simp at x
  | _ :: _, [], x, _ => by simp at x
  | p :: r, p' :: r', x, y => by
    simp at x y
    rw [pairs_ext x.2 y.2, Prod.ext x.1 y.1]
mutual
theorem DataV.inj {H : Hp} : ∀ {v : V} {d d' : PyData}, DataV H v d → DataV H v d' → d = d'
  | _, _, _, .non, h => by cases h; rfl
  | _, _, _, .bl b, h => by cases h; rfl
  | _, _, _, .int i, h => by cases h; rfl
  | _, _, _, .str x, h => by cases h; rfl
  | _, _, _, .lst e r, h => by
    cases h with
    | lst e' r' => rw [e] at e'; cases e'; rw [DataL.inj r r']
    | tup e' r' => rw [e] at e'; cases e'
    | dict e' r' q' => rw [e] at e'; cases e'
  | _, _, _, .tup e r, h => by
    cases h with
    | lst e' r' => rw [e] at e'; cases e'
    | tup e' r' => rw [e] at e'; cases e'; rw [DataL.inj r r']
    | dict e' r' q' => rw [e] at e'; cases e'
  | _, _, _, .dict e r q, h => by
    cases h with
    | lst e' r' => rw [e] at e'; cases e'
    | tup e' r' => rw [e] at e'; cases e'
    | dict e' r' q' =>
      rw [e] at e'; cases e'
      have h1 := DataL.inj r r'
      have h2 := DataL.inj q q'
      exact congrArg PyData.dict (pairs_ext h1 h2)
theorem DataL.inj {H : Hp} : ∀ {vs : List V} {ds ds' : List PyData}, DataL H vs ds → DataL H vs ds' → ds = ds'
  | _, _, _, .nil, h => by cases h; rfl
  | _, _, _, .cons x r, h => by
    cases h with
    | cons x' r' => rw [DataV.inj x x', DataL.inj r r']
end
/-- what == compares without a word -/
noncomputable def cmpN : Nat → PyData → PyData → Prop
  | _, .int _, .int _ => True
  | _, .str _, .str _ => True
  | n + 1, .tuple xs, .tuple ys => ∀ p ∈ xs.zip ys, cmpN n p.1 p.2
  | n + 1, .list xs, .list ys => ∀ p ∈ xs.zip ys, cmpN n p.1 p.2
  | _, _, _ => False
noncomputable def cdec (p : Prop) : Bool := @decide p (Classical.propDecidable p)
theorem cdec_iff {p : Prop} : cdec p = true ↔ p := by unfold cdec; exact @decide_eq_true_iff p (Classical.propDecidable p)
theorem cdec_eq {p : Prop} {b : Bool} (h : b = true ↔ p) : b = cdec p := by rw [Bool.eq_iff_iff, h, cdec_iff]
theorem DataL.nth {H : Hp} : ∀ {vs : List V} {ds : List PyData}, DataL H vs ds → ∀ {j : Nat}, j < vs.length → DataV H (vs.getD j .non) (ds.getD j .none)
  | _, _, .cons x r, 0, _ => x
  | _, _, .cons x r, j + 1, h => DataL.nth r (j := j) (by simpa using h)
theorem zip_at {ds es : List PyData} {j : Nat} (h1 : j < ds.length) (h2 : j < es.length) : (ds.getD j .none, es.getD j .none) ∈ ds.zip es := by
  have e : (ds.zip es)[j]? = some (ds.getD j .none, es.getD j .none) := by
    rw [List.getElem?_zip_eq_some]
    exact ⟨by rw [List.getElem?_eq_getElem h1]; simp [List.getD_eq_getElem?_getD, List.getElem?_eq_getElem h1], by rw [List.getElem?_eq_getElem h2]; simp [List.getD_eq_getElem?_getD, List.getElem?_eq_getElem h2]⟩
  exact List.mem_of_getElem? e
theorem all_iff {ds es : List PyData} (hl : ds.length = es.length) : ((List.range ds.length).all fun j => cdec (ds.getD j .none = es.getD j .none)) = true ↔ ds = es := by
  rw [List.all_eq_true]
  constructor
  · intro h
    refine List.ext_getElem hl fun i h1 h2 => ?_
    have := cdec_iff.mp (h i (List.mem_range.mpr h1))
    simpa [List.getD_eq_getElem?_getD, List.getElem?_eq_getElem h1, List.getElem?_eq_getElem h2] using this
  · rintro rfl j hj
    exact cdec_iff.mpr rfl
theorem tup_res {ds es : List PyData} : ((List.range (min ds.length es.length)).all (fun j => cdec (ds.getD j .none = es.getD j .none)) && ds.length == es.length) = cdec (ds = es) := by
  refine cdec_eq ?_
  rw [Bool.and_eq_true, beq_iff_eq]
  constructor
  · rintro ⟨h, hl⟩
    rw [← hl, Nat.min_self] at h
    exact (all_iff hl).mp h
  · rintro rfl
    rw [Nat.min_self]
    exact ⟨(all_iff rfl).mpr rfl, rfl⟩
theorem cdec_tup {ds es : List PyData} : cdec (PyData.tuple ds = PyData.tuple es) = cdec (ds = es) := by
  refine (cdec_eq ?_).symm
  rw [cdec_iff]
  exact ⟨fun h => by rw [h], fun h => PyData.tuple.inj h⟩
theorem cdec_lst {ds es : List PyData} : cdec (PyData.list ds = PyData.list es) = cdec (ds = es) := by
  refine (cdec_eq ?_).symm
  rw [cdec_iff]
  exact ⟨fun h => by rw [h], fun h => PyData.list.inj h⟩
section
variable {X : Cx} {pins : List (Addr × Obj)} {σ : St} {H : Hp} {s : Shared}
theorem eqAt_D (I : Inv X pins σ H s) : ∀ (n : Nat) {A : Around} {x y : V} {d d' : PyData} {u v : Value}, A.units + n < cLine → DataV H x d → DataV H y d' → RelV x u → RelV y v → cmpN n d d' → EqAt A s u v (cdec (d = d')) := by
  intro n
  induction n with
  | zero =>
    intro A x y d d' u v hu h1 h2 r1 r2 hc
    cases h1 with
    | int i =>
      cases h2 with
      | int j =>
        have := eqAt_V (A := A) (s := s) r1 r2 rfl rfl
        rw [show eqV (.int i) (.int j) = cdec (PyData.int i = PyData.int j) from cdec_eq (by simp [eqV])] at this
        exact this
      | _ => exact False.elim hc
    | str i =>
      cases h2 with
      | str j =>
        have := eqAt_V (A := A) (s := s) r1 r2 rfl rfl
        rw [show eqV (.str i) (.str j) = cdec (PyData.str i = PyData.str j) from cdec_eq (by simp [eqV])] at this
        exact this
      | _ => exact False.elim hc
    | _ => first | exact False.elim hc | (cases h2 <;> exact False.elim hc)
  | succ n ih =>
    intro A x y d d' u v hu h1 h2 r1 r2 hc
    cases h1 with
    | int i =>
      cases h2 with
      | int j =>
        have := eqAt_V (A := A) (s := s) r1 r2 rfl rfl
        rw [show eqV (.int i) (.int j) = cdec (PyData.int i = PyData.int j) from cdec_eq (by simp [eqV])] at this
        exact this
      | _ => exact False.elim hc
    | str i =>
      cases h2 with
      | str j =>
        have := eqAt_V (A := A) (s := s) r1 r2 rfl rfl
        rw [show eqV (.str i) (.str j) = cdec (PyData.str i = PyData.str j) from cdec_eq (by simp [eqV])] at this
        exact this
      | _ => exact False.elim hc
    | @tup a xs ds e1 q1 =>
      cases h2 with
      | @tup b ys es e2 q2 =>
        cases r1
        cases r2
        by_cases e : a = b
        · subst e
          rw [e1] at e2
          cases e2
          rw [DataL.inj q1 q2, show cdec (PyData.tuple es = PyData.tuple es) = true from cdec_iff.mpr rfl]
          exact EqAt.same _
        obtain ⟨us, v1, t1, z1⟩ := I.tuple (SqT.of e1)
        obtain ⟨ws, v2, t2, z2⟩ := I.tuple (SqT.of e2)
        have l1 := q1.length
        have l2 := q2.length
        have m1 := v1.length
        have m2 := v2.length
        refine EqAt.of_refs e ?_
        have key := RcAt.tuples (A := A) (s := s) (e := fun j => cdec (ds.getD j .none = es.getD j .none)) (show s.heap.IsTuple a us.toArray from t1) (show s.heap.IsTuple b ws.toArray from t2) (by omega) (fun j x y => ?_)
        · rw [List.size_toArray, List.size_toArray, ← m1, ← m2, l1, l2, tup_res, ← cdec_tup] at key
          exact key
        · have hx : j < xs.length := by have := x; rw [List.size_toArray] at this; omega
          have hy : j < ys.length := by have := y; rw [List.size_toArray] at this; omega
          exact ih (by show A.in1.units + n < cLine; have : A.in1.units = A.units + 1 := rfl; omega) (q1.nth hx) (q2.nth hy) (rel_at v1 x) (rel_at v2 y) (hc _ (zip_at (by omega) (by omega)))
      | _ => exact False.elim hc
    | @lst a xs ds e1 q1 =>
      cases h2 with
      | @lst b ys es e2 q2 =>
        cases r1
        cases r2
        by_cases e : a = b
        · subst e
          rw [e1] at e2
          cases e2
          rw [DataL.inj q1 q2, show cdec (PyData.list es = PyData.list es) = true from cdec_iff.mpr rfl]
          exact EqAt.same _
        obtain ⟨us, v1, t1, z1⟩ := I.list (SqL.of e1)
        obtain ⟨ws, v2, t2, z2⟩ := I.list (SqL.of e2)
        have l1 := q1.length
        have l2 := q2.length
        have m1 := v1.length
        have m2 := v2.length
        refine EqAt.of_refs e ?_
        by_cases hl : xs.length = ys.length
        · have key := RcAt.lists (A := A) (s := s) (e := fun j => cdec (ds.getD j .none = es.getD j .none)) t1.isList t2.isList (by rw [List.size_toArray, List.size_toArray]; omega) (by omega) (fun j x y => ?_)
          · rw [List.size_toArray, ← m1, l1, show ((List.range ds.length).all fun j => cdec (ds.getD j .none = es.getD j .none)) = cdec (ds = es) from cdec_eq (all_iff (by omega)), ← cdec_lst] at key
            exact key
          · have hx : j < xs.length := by have := x; rw [List.size_toArray] at this; omega
            have hy : j < ys.length := by have := y; rw [List.size_toArray] at this; omega
            exact ih (by show A.in1.units + n < cLine; have : A.in1.units = A.units + 1 := rfl; omega) (q1.nth hx) (q2.nth hy) (rel_at v1 x) (rel_at v2 y) (hc _ (zip_at (by omega) (by omega)))
        · rw [show cdec (PyData.list ds = PyData.list es) = false from (cdec_eq (b := false) (by constructor <;> intro z; cases z; exact absurd (congrArg List.length (PyData.list.inj z)) (by omega))).symm]
          exact RcAt.lists_lengths t1.isList t2.isList (by rw [List.size_toArray, List.size_toArray]; simp; omega) (by omega)
      | _ => exact False.elim hc
    | _ => first | exact False.elim hc | (cases h2 <;> exact False.elim hc)
/-- == of data -/
noncomputable def rEqD (n : Nat) : R2 := fun x y H Q => ∃ d d', DataV H x d ∧ DataV H y d' ∧ cmpN n d d' ∧ ∀ b : Bool, (b = true ↔ d = d') → Q (.bl b) H
noncomputable def rNeD (n : Nat) : R2 := fun x y H Q => ∃ d d', DataV H x d ∧ DataV H y d' ∧ cmpN n d d' ∧ ∀ b : Bool, (b = true ↔ d ≠ d') → Q (.bl b) H
theorem op_eqD (n : Nat) (hu : X.A.units + (n + 1) < cLine) : OpR X (compareOp .Eq) (rEqD (n + 1)) := by
  intro pins s σ H x y v u Q I rx ry h
  obtain ⟨d, d', h1, h2, hc, k⟩ := h
  cases h1 with
  | int i =>
    cases h2 with
    | int j => exact op_eq pins s σ H _ _ v u Q I rx ry ⟨rfl, k _ (by simp)⟩
    | _ => exact False.elim hc
  | str i =>
    cases h2 with
    | str j => exact op_eq pins s σ H _ _ v u Q I rx ry ⟨rfl, k _ (by simp)⟩
    | _ => exact False.elim hc
  | @tup a xs ds e1 q1 =>
    cases h2 with
    | @tup b ys es e2 q2 =>
      cases rx
      cases ry
      obtain ⟨us, v1, t1, z1⟩ := I.tuple (SqT.of e1)
      obtain ⟨ws, v2, t2, z2⟩ := I.tuple (SqT.of e2)
      have l1 := q1.length
      have l2 := q2.length
      have m1 := v1.length
      have m2 := v2.length
      refine PySem.W.cmp_ofEq (RcAt.tuples (e := fun j => cdec (ds.getD j .none = es.getD j .none)) (show s.heap.IsTuple a us.toArray from t1) (show s.heap.IsTuple b ws.toArray from t2) (by omega) (fun j x y => ?_) X.prog X.w X.xe _ (fin_bl I (k (cdec (PyData.tuple ds = PyData.tuple es)) ?_) ?_))
      · have hx : j < xs.length := by have := x; rw [List.size_toArray] at this; omega
        have hy : j < ys.length := by have := y; rw [List.size_toArray] at this; omega
        exact eqAt_D I n (by show X.A.in1.units + n < cLine; have : X.A.in1.units = X.A.units + 1 := rfl; omega) (q1.nth hx) (q2.nth hy) (rel_at v1 x) (rel_at v2 y) (hc _ (zip_at (by omega) (by omega)))
      · exact cdec_iff
      · rw [List.size_toArray, List.size_toArray, ← m1, ← m2, l1, l2, tup_res, ← cdec_tup]
    | _ => exact False.elim hc
  | @lst a xs ds e1 q1 =>
    cases h2 with
    | @lst b ys es e2 q2 =>
      cases rx
      cases ry
      obtain ⟨us, v1, t1, z1⟩ := I.list (SqL.of e1)
      obtain ⟨ws, v2, t2, z2⟩ := I.list (SqL.of e2)
      have l1 := q1.length
      have l2 := q2.length
      have m1 := v1.length
      have m2 := v2.length
      by_cases hl : xs.length = ys.length
      · refine PySem.W.cmp_ofEq (RcAt.lists (e := fun j => cdec (ds.getD j .none = es.getD j .none)) t1.isList t2.isList (by rw [List.size_toArray, List.size_toArray]; omega) (by omega) (fun j x y => ?_) X.prog X.w X.xe _ (fin_bl I (k (cdec (PyData.list ds = PyData.list es)) ?_) ?_))
        · have hx : j < xs.length := by have := x; rw [List.size_toArray] at this; omega
          have hy : j < ys.length := by have := y; rw [List.size_toArray] at this; omega
          exact eqAt_D I n (by show X.A.in1.units + n < cLine; have : X.A.in1.units = X.A.units + 1 := rfl; omega) (q1.nth hx) (q2.nth hy) (rel_at v1 x) (rel_at v2 y) (hc _ (zip_at (by omega) (by omega)))
        · exact cdec_iff
        · rw [List.size_toArray, ← m1, l1, show ((List.range ds.length).all fun j => cdec (ds.getD j .none = es.getD j .none)) = cdec (ds = es) from cdec_eq (all_iff (by omega)), ← cdec_lst]
      · have nd : PyData.list ds ≠ PyData.list es := fun z => absurd (congrArg List.length (PyData.list.inj z)) (by omega)
        refine PySem.W.cmp_ofEq (RcAt.lists_lengths t1.isList t2.isList (by rw [List.size_toArray, List.size_toArray]; simp; omega) (by omega) X.prog X.w X.xe _ (fin_bl I (k false ?_) rfl))
        simp [nd]
    | _ => exact False.elim hc
  | _ => first | exact False.elim hc | (cases h2 <;> exact False.elim hc)
theorem op_neD (n : Nat) (hu : X.A.units + (n + 1) < cLine) : OpR X (compareOp .NotEq) (rNeD (n + 1)) := by
  intro pins s σ H x y v u Q I rx ry h
  obtain ⟨d, d', h1, h2, hc, k⟩ := h
  cases h1 with
  | int i =>
    cases h2 with
    | int j => exact op_ne pins s σ H _ _ v u Q I rx ry ⟨rfl, k _ (by simp)⟩
    | _ => exact False.elim hc
  | str i =>
    cases h2 with
    | str j => exact op_ne pins s σ H _ _ v u Q I rx ry ⟨rfl, k _ (by simp)⟩
    | _ => exact False.elim hc
  | @tup a xs ds e1 q1 =>
    cases h2 with
    | @tup b ys es e2 q2 =>
      cases rx
      cases ry
      obtain ⟨us, v1, t1, z1⟩ := I.tuple (SqT.of e1)
      obtain ⟨ws, v2, t2, z2⟩ := I.tuple (SqT.of e2)
      have l1 := q1.length
      have l2 := q2.length
      have m1 := v1.length
      have m2 := v2.length
      refine PySem.W.cmp_ofNotEq (RcNeAt.tuples (e := fun j => cdec (ds.getD j .none = es.getD j .none)) (show s.heap.IsTuple a us.toArray from t1) (show s.heap.IsTuple b ws.toArray from t2) (by omega) (fun j x y => ?_) X.prog X.w X.xe _ (fin_bl I (k (!cdec (PyData.tuple ds = PyData.tuple es)) ?_) ?_))
      · have hx : j < xs.length := by have := x; rw [List.size_toArray] at this; omega
        have hy : j < ys.length := by have := y; rw [List.size_toArray] at this; omega
        exact eqAt_D I n (by show X.A.in1.units + n < cLine; have : X.A.in1.units = X.A.units + 1 := rfl; omega) (q1.nth hx) (q2.nth hy) (rel_at v1 x) (rel_at v2 y) (hc _ (zip_at (by omega) (by omega)))
      · rw [Bool.not_eq_true', ← Bool.not_eq_true, not_congr cdec_iff]
      · rw [List.size_toArray, List.size_toArray, ← m1, ← m2, l1, l2, tup_res, ← cdec_tup]
    | _ => exact False.elim hc
  | @lst a xs ds e1 q1 =>
    cases h2 with
    | @lst b ys es e2 q2 =>
      cases rx
      cases ry
      obtain ⟨us, v1, t1, z1⟩ := I.list (SqL.of e1)
      obtain ⟨ws, v2, t2, z2⟩ := I.list (SqL.of e2)
      have l1 := q1.length
      have l2 := q2.length
      have m1 := v1.length
      have m2 := v2.length
      by_cases hl : xs.length = ys.length
      · refine PySem.W.cmp_ofNotEq (RcNeAt.lists (e := fun j => cdec (ds.getD j .none = es.getD j .none)) t1.isList t2.isList (by rw [List.size_toArray, List.size_toArray]; omega) (by omega) (fun j x y => ?_) X.prog X.w X.xe _ (fin_bl I (k (!cdec (PyData.list ds = PyData.list es)) ?_) ?_))
        · have hx : j < xs.length := by have := x; rw [List.size_toArray] at this; omega
          have hy : j < ys.length := by have := y; rw [List.size_toArray] at this; omega
          exact eqAt_D I n (by show X.A.in1.units + n < cLine; have : X.A.in1.units = X.A.units + 1 := rfl; omega) (q1.nth hx) (q2.nth hy) (rel_at v1 x) (rel_at v2 y) (hc _ (zip_at (by omega) (by omega)))
        · rw [Bool.not_eq_true', ← Bool.not_eq_true, not_congr cdec_iff]
        · rw [List.size_toArray, ← m1, l1, show ((List.range ds.length).all fun j => cdec (ds.getD j .none = es.getD j .none)) = cdec (ds = es) from cdec_eq (all_iff (by omega)), ← cdec_lst]
      · have nd : PyData.list ds ≠ PyData.list es := fun z => absurd (congrArg List.length (PyData.list.inj z)) (by omega)
        refine PySem.W.cmp_ofNotEq (RcNeAt.lists_lengths t1.isList t2.isList (by rw [List.size_toArray, List.size_toArray]; simp; omega) (by omega) X.prog X.w X.xe _ (fin_bl I (k true ?_) rfl))
        simp [nd]
    | _ => exact False.elim hc
  | _ => first | exact False.elim hc | (cases h2 <;> exact False.elim hc)
end
end L2

set_option Elab.async false
set_option linter.all false
set_option maxRecDepth 100000
set_option maxHeartbeats 4000000
namespace PySem.SeqAt
open AutoSeq1 (wpAny_loadPart')
open MeetsSeq MeetsSeq2 MeetsSeq3 SeqRoads2
end PySem.SeqAt
namespace L2
open PySem PySem.Spec PyProof.Rows MA
end L2

set_option Elab.async false
set_option linter.all false
set_option maxRecDepth 100000
set_option maxHeartbeats 4000000
/-! ### methods and classes of the text -/
namespace L2
open PySem PySem.Spec PyProof.Rows
structure MCal (P : Program) (w : World) (K : PySem.W.Frag) (mg : Str → Option Value) (base : Heap) (C : Addr) (m : Str) (ps : List Str) (k : Nat) (sp : Sp) : Prop where
  ex : ∃ f fd, FnOk P w K mg base CX0 k f fd ps sp ∧ Meth K C m f ∧ Binds K fd ps []
structure MFun (K : PySem.W.Frag) (C : Addr) (m qual : Str) (ps : List Str) (st : Stmt) : Prop where
  ex : ∃ f fd, Fun K m qual st f fd ∧ Meth K C m f ∧ Binds K fd ps []
theorem MFun.cal {P : Program} {w : World} {K : PySem.W.Frag} {mg : Str → Option Value} {base : Heap} {C : Addr} {m qual : Str} {ps N : List Str} {st : Stmt} {k : Nat} {sp : Sp} (F : MFun K C m qual ps st) (S : FnScope N ps (defScope st)) (len : ∀ vs H Q E, sp vs H Q E → vs.length = ps.length)
    (hbody : ∀ (f : Addr) (cdv : Value) (A : Around) (outer : List Env) (s : Shared) (H : Hp) (vs : List V) (Q : VK) (E : XK), Room k (A.deeper (envOfC qual (defScope st) s.heap.objs.size f cdv)) → sp vs H Q E →
      ∃ t, PSs (cxOf CX0 P w K mg base N qual (defScope st) f cdv A outer s H E).nox (defBody st) t ∧ t { nx := fun _ H' => Q .non H', rt := Q } (start N vs) H) : MCal P w K mg base C m ps (k + 1) sp := by
  obtain ⟨f, fd, F1, m, b⟩ := F.ex
  exact ⟨f, fd, F1.ok S len (hbody f), m, b⟩
/-- what a class is: made by its name -/
structure CAt (K : PySem.W.Frag) (mg : Str → Option Value) (x : Str) (C : Addr) : Prop where
  cl : Cls K C
  mg : mg x = some (.ref C)
  mks : PySem.W.makesIn K C = true
  kp : PySem.W.keepIn K (.ref C) = true
section
variable {X : Cx} {C : Addr} {x m : Str} {ps : List Str} {k : Nat} {sp : Sp} {o e : Expr} {es : List Expr} {t : TA} {to : TE} {p pos apos : Pos}
/-- o.m(e, ..) -/
theorem pm {pl : Sem Bool} (c : MCal X.prog X.w X.K X.mg X.base C m ps k sp) (cl : Cls X.K C) (hr : Room k X.A) (ho : PE X o to) (ha : PA X (e :: es) t)
    (hst : starEach (e :: es) X.env = (false, eval e X.env) :: starEach es X.env := by rfl) (hpl : (backTo pos (starEach es X.env)).any (·.1) = false := by rfl)
    (ht : eval (.Call (.Attribute o m apos) (e :: es) [] pos) X.env = (do
      let ov ← eval o X.env
      standAt apos.atName
      let (f, first) ← holding [ov] (getMethod ov m pl)
      callWith pos f first (backTo pos (starEach (e :: es) X.env)) (backToKw pos (keywordEach [] X.env))) := by rfl) :
    PE X (.Call (.Attribute o m apos) (e :: es) [] pos) (tMeth C m sp [] E0 to t) := by
  obtain ⟨f, fd, F, hm, b⟩ := c.ex
  exact pe_meth ho cl hm F hr b .nil pass0 ha hst hpl ht
/-- o.m() -/
theorem pm0 {pl : Sem Bool} (c : MCal X.prog X.w X.K X.mg X.base C m ps k sp) (cl : Cls X.K C) (hr : Room k X.A) (ho : PE X o to)
    (ht : eval (.Call (.Attribute o m apos) [] [] pos) X.env = (do
      let ov ← eval o X.env
      standAt apos.atName
      let (f, first) ← holding [ov] (getMethod ov m pl)
      callWith pos f first (backTo pos (starEach [] X.env)) (backToKw pos (keywordEach [] X.env))) := by rfl) :
    PE X (.Call (.Attribute o m apos) [] [] pos) (tMeth C m sp [] E0 to tNil) := by
  obtain ⟨f, fd, F, hm, b⟩ := c.ex
  exact pe_meth0 ho cl hm F hr b .nil pass0 ht
/-- C(e, ..) -/
theorem pmk (c : MCal X.prog X.w X.K X.mg X.base C "__init__" ps k sp) (ca : CAt X.K X.mg x C) (hr : Room (k + 1) X.A) (ha : PA X (e :: es) t) (hg : Gl X x := by rfl) (hdb : (x == ("__debug__" : Str)) = false := by decide)
    (he : starEach (e :: es) X.env = (false, eval e X.env) :: starEach es X.env := by rfl) (hpl : (backTo pos (starEach es X.env)).any (·.1) = false := by rfl) : PE X (.Call (.Name x p) (e :: es) [] pos) (tMake C sp [] E0 t) := by
  obtain ⟨f, fd, F, hm, b⟩ := c.ex
  exact pe_make ⟨ca.mks, hm.at_, hm.fn, ca.kp⟩ F hr hg ca.mg b .nil pass0 ha hdb he hpl
/-- if xs, xs a list -/
noncomputable def tTL (t : TE) : TT := fun σ H Q => t σ H fun x H1 => ∃ l xs, x = .ref l ∧ H1 l = some (.lst xs) ∧ Q (!xs.isEmpty) H1
theorem pt_list {t : TE} (h : PE X e t) (he : ∀ whole, isTrue e X.env whole = (do let v ← whole; standAt e.pos; holding [v] (truthy v)) := by intro _; rfl) : PT X e (tTL t) := by
  intro pins s σ H Q I hw
  refine isTrue_plain (thn (h pins s σ H _ I hw) fun v s1 ⟨x, H1, I1, r1, q1⟩ => ?_) (he _)
  obtain ⟨l, xs, rfl, hl, q⟩ := q1
  cases r1
  obtain ⟨its, r, pl, hz⟩ := I1.list (SqL.of hl)
  have hlen := r.length
  have h63 := line63
  refine wpAny_truthy_list pl.isList (by rw [List.size_toArray]; omega) ⟨H1, I1.tok _, ?_⟩
  have e : (!its.toArray.isEmpty) = !xs.isEmpty := by
    cases r <;> rfl
  rw [e]
  exact q
end
theorem mfun_mk {K : PySem.W.Frag} {C : Addr} {m qual : Str} {ps : List Str} {st : Stmt} {f : Addr} {oc : Value} {od an : Option Addr} {osl : Array (Option Value)} {kV doc pm cdv ct : Value}
    (hb : ∀ (kV doc pm : Value) (an : Option Addr) (cdv ct : Value) (us : List Value), us.length = ps.length → bindArgs (PySem.W.fnOf m qual (defArgs st) (defBody st) (defScope st) .none kV doc pm an cdv ct) ⟨us, []⟩ = pure (ps.zip us))
    (a : PySem.W.findIn K (.ref C) m = some (some (.ref f))) (i : PySem.W.isFn K (.ref f) = true) (l : K.lookup f = some ⟨oc, od, .func (PySem.W.fnOf m qual (defArgs st) (defBody st) (defScope st) .none kV doc pm an cdv ct), osl⟩)
    (c : PySem.W.codeIn K cdv qual = true) (k : PySem.W.keepIn K (.ref f) = true) : MFun K C m qual ps st :=
  let F := fun_mk (st := st) l c k
  ⟨f, _, F, ⟨a, i, k⟩, F.binds hb⟩
end L2

set_option Elab.async false
set_option linter.all false
set_option maxRecDepth 100000
set_option maxHeartbeats 4000000
namespace PyProof.Rows
open PySem
end PyProof.Rows
namespace L2
open PySem PySem.Spec PyProof.Rows MA
end L2

set_option Elab.async false
set_option linter.all false
set_option maxRecDepth 100000
set_option maxHeartbeats 4000000
/-! ### reversed(range(n)) -/
namespace L2
open PySem PySem.Spec PyProof.Rows
end L2

set_option Elab.async false
set_option linter.all false
set_option maxRecDepth 100000
set_option maxHeartbeats 4000000
/-! ### a def handed over, called in a try -/
namespace L2
open PySem PySem.Spec PyProof.Rows
end L2

set_option Elab.async false
set_option linter.all false
set_option maxRecDepth 100000
set_option maxHeartbeats 4000000
/-! ### a comprehension whose own names are seen by another one within it -/
namespace L2
open PySem PySem.Spec PyProof.Rows
end L2

set_option Elab.async false
set_option linter.all false
set_option maxRecDepth 100000
set_option maxHeartbeats 4000000
/-! ### rules that name their K: for use inside comprehensions -/
namespace L2
open PySem PySem.Spec PyProof.Rows
/-! walks of a clause, read with any goal -/
end L2

set_option Elab.async false
set_option linter.all false
set_option maxRecDepth 100000
set_option maxHeartbeats 4000000
/-! ### a law that names but one of the own errors (Unlike) -/
namespace My
open PySem L2 MA
end My

set_option Elab.async false
set_option linter.all false
set_option maxRecDepth 100000
set_option maxHeartbeats 4000000
/-! ### < of tuples -/
namespace PySem.SeqAt
open AutoSeq1 (wpAny_loadPart')
open MeetsSeq MeetsSeq2 MeetsSeq3
end PySem.SeqAt

set_option Elab.async false
set_option linter.all false
set_option maxRecDepth 100000
set_option maxHeartbeats 4000000
/-! ### sorting by comparisons that leave all as it is: the tree of the questions, walked by an order -/
namespace Srt
open PySem PySem.W PyProof.Rows
end Srt

set_option Elab.async false
set_option linter.all false
set_option maxRecDepth 100000
set_option maxHeartbeats 4000000
namespace Srt
open PySem PySem.W PyProof.Rows
/-! ### sorting of any number of things: the cut (gallop) -/
end Srt

set_option Elab.async false
set_option linter.all false
set_option maxRecDepth 100000
set_option maxHeartbeats 4000000
namespace Srt
open PySem PySem.W PyProof.Rows
/-! ### merging, on lists of places -/
end Srt

set_option Elab.async false
set_option linter.all false
set_option maxRecDepth 100000
set_option maxHeartbeats 4000000
namespace Srt
open PySem PySem.W PyProof.Rows
end Srt

set_option Elab.async false
set_option linter.all false
set_option maxRecDepth 100000
set_option maxHeartbeats 4000000
namespace Srt
open PySem PySem.W PyProof.Rows
end Srt

set_option Elab.async false
set_option linter.all false
set_option maxRecDepth 100000
set_option maxHeartbeats 4000000
namespace Srt
open PySem PySem.W PyProof.Rows
/-! ### the runs that wait, and two of them merged -/
end Srt

set_option Elab.async false
set_option linter.all false
set_option maxRecDepth 100000
set_option maxHeartbeats 4000000
namespace Srt
open PySem PySem.W PyProof.Rows
/-! ### a run made longer by binary insertion, anywhere -/
end Srt

set_option Elab.async false
set_option linter.all false
set_option maxRecDepth 100000
set_option maxHeartbeats 4000000
namespace Srt
open PySem PySem.W PyProof.Rows
/-! ### a run counted, anywhere -/
end Srt

set_option Elab.async false
set_option linter.all false
set_option maxRecDepth 100000
set_option maxHeartbeats 4000000
namespace Srt
open PySem PySem.W PyProof.Rows
/-! ### the whole of it: runs found, merged as they come, merged at the end -/
end Srt

set_option Elab.async false
set_option linter.all false
set_option maxRecDepth 100000
set_option maxHeartbeats 4000000
namespace Srt
open PySem PySem.W PyProof.Rows
/-! ### list.sort, sorted: any order whose questions change nothing -/
end Srt

set_option Elab.async false
set_option linter.all false
set_option maxRecDepth 100000
set_option maxHeartbeats 4000000
namespace Srt
open PySem PySem.W PyProof.Rows
end Srt

set_option Elab.async false
set_option linter.all false
set_option maxRecDepth 100000
set_option maxHeartbeats 4000000
namespace DI
open PySem PySem.W PyProof.Rows
/-- a dict by its entries -/
noncomputable def DEnt (h : Heap) (d : Addr) (es : Array DictEntry) (ep : Nat) : Prop := ∃ o, h.get? d = some o ∧ o.ExactDict ∧ o.data = .dict es ep
theorem DEnt.ty {s : Shared} {d : Addr} {es : Array DictEntry} {ep : Nat} (x : DEnt s.heap d es ep) : s.TypeIs (.ref d) "dict" := let ⟨o, e, c, _⟩ := x; ⟨o, e, c.1⟩
theorem DEnt.at {h h' : Heap} {d : Addr} {es : Array DictEntry} {ep : Nat} (x : DEnt h d es ep) (k : ∀ o, h.get? d = some o → h'.get? d = some o) : DEnt h' d es ep := let ⟨o, e, c⟩ := x; ⟨o, k o e, c⟩
section
variable {prog : Program} {w : World} {A : Around} {E : Value → Shared → Prop} {s : Shared} {it d : Addr} {es : Array DictEntry} {i ep : Nat}
theorem key_next {Q : Option Value → Shared → Prop} (ki : s.heap.IsKeyIter it d i es.size ep) (de : DEnt s.heap d es ep) (li : i < es.size)
    (fin : ∀ h', h'.IsKeyIter it d (i + 1) es.size ep → Heap.SameBut it s.heap h' → Q (some es[i].key) { s with heap := h' }) : wpAny (model prog w) A (pyNext (.ref it)) Q E s := by
  obtain ⟨oi, gi, ci, fi⟩ := id ki
  obtain ⟨od, gd, xd, dd⟩ := de
  have ti := ki.typeIs
  unfold pyNext
  refine wpAny_bind (wpAny_attempt (wpAny_callSpecial?_slot (name := Str.ofString "__next__") ti F.slot_dict_keyiterator_next (wpAny_call_entry F.slot_dict_keyiterator_next ti F.entry_dict_keyiterator_next (wpAny_bind (wpAny_pure (wpAny_bind (wpAny_bind ?_)))) (F.args_dict_keyiterator_next_1 _))))
  refine wpAny_bind (wpAny_typeNameOfWhole_keyiter ti (wpAny_pure (wpAny_bind (wpAny_fieldsOf gi fi ?_))))
  simp only [show Builtin.Dict_items.ownsTuple "dict_keyiterator" = false by decide, Bool.false_eq_true, if_false]
  show wpAny _ _ (if (Value.ref d == Value.none) = true then _ else _) _ _ s
  rw [if_neg (show ¬ ((Value.ref d == Value.none) = true) from Bool.false_ne_true)]
  refine wpAny_bind (wpAny_pure (wpAny_bind (wpAny_dictEntries gd dd ?_)))
  rw [if_neg (by simp)]
  refine wpAny_bind (wpAny_pure (wpAny_bind (wpAny_dictEpoch gd dd ?_)))
  rw [if_neg (by simp)]
  refine wpAny_pure ?_
  simp only [show ¬ ((i : Int) < 0) from by omega, if_false, Int.toNat_natCast, Array.getElem?_eq_getElem li]
  refine wpAny_bind (wpAny_bind (wpAny_typeNameOfWhole_keyiter ti (wpAny_pure (wpAny_bind (wpAny_isOneOf_keyiter ti ?_)))))
  show wpAny _ _ (setField (.ref it) 1 (rawInt ((i : Int) + 1)) >>= _) _ _ s
  have nx : (s.heap.update it (Obj.mapFields (·.setIfInBounds 1 (rawInt ((i : Int) + 1))))).IsKeyIter it d (i + 1) es.size ep :=
    ⟨_, Heap.get?_update_self _ gi (Obj.isFreed_of_fields (Obj.data_mapFields fi _)), (Obj.cls_mapFields ..).trans ci, by rw [Obj.data_mapFields fi]; simp [rawInt]⟩
  have tn : Shared.TypeIs { s with heap := s.heap.update it (Obj.mapFields (·.setIfInBounds 1 (rawInt ((i : Int) + 1)))) } (.ref it) "dict_keyiterator" := Heap.IsKeyIter.typeIs (s := { s with heap := s.heap.update it (Obj.mapFields (·.setIfInBounds 1 (rawInt ((i : Int) + 1)))) }) nx
  refine wpAny_bind (wpAny_setField gi fi (by simp) (wpAny_bind (wpAny_holding (wpAny_bind (wpAny_isOneOf_keyiter tn ?_)))))
  show wpAny _ _ (pure es[i].key) _ _ _
  exact wpAny_pure (wpAny_pure ⟨_, rfl, wpAny_pure (fin _ nx (Heap.SameBut.update ..))⟩)
theorem key_end {Q : Option Value → Shared → Prop} (hh : A.handled = none) (ki : s.heap.IsKeyIter it d i es.size ep) (de : DEnt s.heap d es ep) (li : es.size ≤ i) (fin : ∀ h', Heap.ExtBut it s.heap h' → Q none { s with heap := h' }) :
    wpAny (model prog w) A (pyNext (.ref it)) Q E s := by
  obtain ⟨oi, gi, ci, fi⟩ := id ki
  obtain ⟨od, gd, xd, dd⟩ := de
  have ti := ki.typeIs
  unfold pyNext
  refine wpAny_bind (wpAny_attempt (wpAny_callSpecial?_slot (name := Str.ofString "__next__") ti F.slot_dict_keyiterator_next (wpAny_call_entry F.slot_dict_keyiterator_next ti F.entry_dict_keyiterator_next (wpAny_bind (wpAny_pure (wpAny_bind (wpAny_bind ?_)))) (F.args_dict_keyiterator_next_1 _))))
  refine wpAny_bind (wpAny_typeNameOfWhole_keyiter ti (wpAny_pure (wpAny_bind (wpAny_fieldsOf gi fi ?_))))
  simp only [show Builtin.Dict_items.ownsTuple "dict_keyiterator" = false by decide, Bool.false_eq_true, if_false]
  show wpAny _ _ (if (Value.ref d == Value.none) = true then _ else _) _ _ s
  rw [if_neg (show ¬ ((Value.ref d == Value.none) = true) from Bool.false_ne_true)]
  refine wpAny_bind (wpAny_pure (wpAny_bind (wpAny_dictEntries gd dd ?_)))
  rw [if_neg (by simp)]
  refine wpAny_bind (wpAny_pure (wpAny_bind (wpAny_dictEpoch gd dd ?_)))
  rw [if_neg (by simp)]
  refine wpAny_pure ?_
  simp only [show ¬ ((i : Int) < 0) from by omega, if_false, Int.toNat_natCast, Array.getElem?_eq_none li]
  refine wpAny_bind (wpAny_bind (wpAny_typeNameOfWhole_keyiter ti (wpAny_pure ?_)))
  show wpAny _ _ (setField (.ref it) 0 .none >>= _) _ _ s
  refine wpAny_bind (wpAny_setField gi fi (by simp) ?_)
  show wpAny _ _ (newExc (.type "StopIteration") [] >>= _) _ _ _
  refine wpAny_bind ?_
  simp only [newExc, newTuple]
  refine wpAny_bind (wpAny_newObj_type (wpAny_bind (m := firstArgMember _ _) (wpAny_of_eq (a := Value.none) (by first | rfl | (simp only [firstArgMember]; rfl)) (wpAny_newObj_type ?_ (by size_fits)))) (by size_fits))
  simp only [raiseNew]
  refine wpAny_bind (wpAny_handled ?_)
  rw [show A.in1.handled = none from hh]
  refine wpAny_bind (wpAny_pure (wpAny_throw ?_))
  refine wpAny_bind (wpAny_isInstance (T := "StopIteration") (b := true) ⟨_, Heap.get?_push_size _ rfl, rfl⟩ isSubtype_stop (wpAny_pure (fin _ ?_)))
  exact ((Heap.SameBut.update ..).extBut.push _).push _
/-- iter(d) -/
theorem key_iter {Q : Value → Shared → Prop} (hd : (d == sysModules) = false) (de : DEnt s.heap d es ep) (fin : Q (.ref s.heap.objs.size) { s with heap := s.heap.push { cls := .type "dict_keyiterator", data := .fields #[.ref d, .int 0 0, .int es.size 0, .int ep 0] } }) : wpAny (model prog w) A (pyIter (.ref d)) Q E s := by
  have td := de.ty
  obtain ⟨od, gd, xd, dd⟩ := id de
  refine wpAny_pyIter_slot td F.slot_dict_iter (wpAny_call_entry F.slot_dict_iter td F.entry_dict_iter ?_ (F.args_dict_iter_1 _))
  unfold Builtin.«dict.__iter__» Builtin.Dict.dictSlotNone
  refine wpAny_bind (wpAny_bind (wpAny_notOrdered_dict td ?_))
  show wpAny _ _ (pure (Value.ref d)) _ _ s
  refine wpAny_pure ?_
  show wpAny _ _ (Builtin.Dict.showsAll d >>= _) _ _ s
  unfold Builtin.Dict.showsAll
  rw [if_neg (by rw [hd]; exact Bool.false_ne_true)]
  refine wpAny_bind (wpAny_pure (wpAny_bind (wpAny_dictEntries gd dd (wpAny_bind (wpAny_dictEpoch gd dd ?_)))))
  exact wpAny_bind (wpAny_newObj_type (wpAny_pure ⟨_, rfl, "dict_keyiterator", _, ⟨_, Heap.get?_push_size _ rfl, rfl⟩, F.slot_dict_keyiterator_next.lookup, by simpa [rawInt] using fin⟩))
end
end DI

set_option Elab.async false
set_option linter.all false
set_option maxRecDepth 100000
set_option maxHeartbeats 4000000
namespace DI
open PySem PySem.W PyProof.Rows
section
variable {prog : Program} {w : World} {A : Around} {d r : Addr} {es : Array DictEntry} {ep : Nat}
noncomputable def IsKey (es : Array DictEntry) (i : Nat) (v : Value) : Prop := ∃ e, es[i]? = some e ∧ v = e.key
theorem walks_key (hh : A.handled = none) (I d : Addr) (hne : d ≠ I) (es : Array DictEntry) (ep : Nat) : Walks prog w A I [I, d] [I] es.size (IsKey es) (fun i h => h.IsKeyIter I d i es.size ep ∧ DEnt h d es ep) where
  sub := by simp
  frame := fun i h h' st k => ⟨st.1.at fun o e => k I (by simp) o e, st.2.at fun o e => k d (by simp) o e⟩
  item := fun i s Q E hi st hQ => key_next st.1 st.2 hi fun h' k' sb => hQ _ h' s.toks ⟨_, Array.getElem?_eq_getElem hi, rfl⟩ ⟨k', st.2.at fun o e => (sb.2 d hne).trans e⟩ fun b o hb e => (sb.2 b (by simpa using hb)).trans e
  done := fun s Q E st hQ => key_end hh st.1 st.2 (Nat.le_refl _) fun h' eb => hQ h' s.toks fun b o hb e => eb b o (by simpa using hb) e
  self := fun i s Q E st h => wpAny_pyIter_keyiter st.1 h
theorem DEnt.lt {h : Heap} (x : DEnt h d es ep) : d < h.objs.size := let ⟨_, e, _⟩ := x; Heap.lt_size e
theorem src_dict (lo : (d == sysModules) = false) : KdlSrc prog w "dict" d d es.size (IsKey es) (fun h => DEnt h d es ep) where
  type := fun _ x => x.ty
  there := fun _ x => ⟨x.lt, x.lt⟩
  keep := fun _ _ x k => x.at fun o e => k d (.inl rfl) o e
  notList := by decide
  notTuple := by decide
  hint := fun _ _ _ _ x q => kdl_hint_dict x.ty q
  iter := fun _ _ hh x => ⟨_, _, (fun _ _ q => key_iter lo x q), walks_key hh _ d (Nat.ne_of_lt x.lt) es ep, ⟨⟨_, Heap.get?_push_size _ rfl, rfl, rfl⟩, x.at fun o e => Heap.get?_push_of_some _ e⟩⟩
end
end DI

set_option Elab.async false
set_option linter.all false
set_option maxRecDepth 100000
set_option maxHeartbeats 4000000
namespace L2
open PySem PySem.W PySem.Spec PyProof.Rows DI
/-! ### sorted(d), sorted(d.items()), list(d), sum(d.values()): d a dict whose keys are tuples -/
end L2

set_option Elab.async false
set_option linter.all false
set_option maxRecDepth 100000
set_option maxHeartbeats 4000000
namespace Srt
open PySem PySem.W PySem.Spec PyProof.Rows L2
/-! ### the order of tuples of ints -/
end Srt

set_option Elab.async false
set_option linter.all false
set_option maxRecDepth 100000
set_option maxHeartbeats 4000000
namespace L2
open PySem PySem.W PySem.Spec PyProof.Rows DI Srt
end L2

set_option Elab.async false
set_option linter.all false
set_option maxRecDepth 100000
set_option maxHeartbeats 4000000
namespace L2
open PySem PySem.W PySem.Spec PyProof.Rows DI Srt
/-! ### d.items(), d.values(): views, known by their object -/
end L2

set_option Elab.async false
set_option linter.all false
set_option maxRecDepth 100000
set_option maxHeartbeats 4000000
namespace L2
open PySem PySem.W PySem.Spec PyProof.Rows DI Srt
end L2

set_option Elab.async false
set_option linter.all false
set_option maxRecDepth 100000
set_option maxHeartbeats 4000000
namespace L2
open PySem PySem.W PySem.Spec PyProof.Rows DI Srt
end L2

set_option Elab.async false
set_option linter.all false
set_option maxRecDepth 100000
set_option maxHeartbeats 4000000
namespace L2
open PySem PySem.W PySem.Spec PyProof.Rows DI Srt
/-! ### walks whose yields are known: one set of readings for all iterators -/
structure Yields (J : It) (n : Nat) (f : Nat → Hp → V → Hp → Prop) (ok : Hp → Prop) : Prop where
  go : ∀ i H, i < n → ok H → J.go i H
  yld : ∀ i H x H', i < n → ok H → J.yld i H x H' → f i H x H'
  stop : ∀ H, ok H → J.stop n H
section
variable {J : It} {n : Nat} {f : Nat → Hp → V → Hp → Prop} {ok : Hp → Prop}
theorem for_Y (Y : Yields J n f ok) {g : TG} {tb : TS} {D : Ends} {σ : St} {H : Hp} (Pv : Nat → St → Hp → Prop) (h0 : Pv 0 σ H) (hok : ∀ i σ H, Pv i σ H → ok H)
    (hs : ∀ i x σ H H', i < n → Pv i σ H → f i H x H' → g x σ H' fun σ2 H2 => tb { D with nx := Pv (i + 1), ct := Pv (i + 1), bk := D.nx } σ2 H2) (hd : ∀ σ H, Pv n σ H → D.nx σ H) :
    ∃ W : Nat → Nat → St → Hp → Prop, (∃ m, W 0 m σ H) ∧ ∀ i m σ H, W i m σ H →
      (J.stop i H ∧ D.nx σ H) ∨ (J.go i H ∧ ∃ N : St → Hp → Prop, (∀ σ' H', N σ' H' → ∃ m', m' < m ∧ W (i + 1) m' σ' H') ∧ ∀ x H', J.yld i H x H' → g x σ H' fun σ2 H2 => tb { D with nx := N, ct := N, bk := D.nx } σ2 H2) := by
  refine ⟨fun i m σ H => m = n - i ∧ i ≤ n ∧ Pv i σ H, ⟨n, by simp, Nat.zero_le _, h0⟩, ?_⟩
  rintro i m σ H ⟨rfl, hi, p⟩
  have o := hok i σ H p
  by_cases hlt : i < n
  · exact .inr ⟨Y.go i H hlt o, Pv (i + 1), fun σ' H' p' => ⟨n - (i + 1), by omega, rfl, hlt, p'⟩, fun x H' y => hs i x σ H H' hlt p (Y.yld i H x H' hlt o y)⟩
  · have e : i = n := by omega
    subst e
    exact .inl ⟨Y.stop H o, hd σ H p⟩
/-- [e for x in ..] and [e for x in .. if c] -/
theorem comp_Y (Y : Yields J n f ok) {g : TG} {tc : TT} {te : TE} {H : Hp} {R : Addr → Hp → Prop} {σ1 : St} (Pv : Addr → Nat → List V → St → Hp → Prop) (hn : n ≤ 100000) (hp0 : ∀ p, H p = none → Pv p 0 [] σ1 (upd H p (.lst [])))
    (hok : ∀ p i ys σ' H', H p = none → Pv p i ys σ' H' → ok H')
    (hs : ∀ p i ys σ' H' x H'', H p = none → i < n → ys.length ≤ i → Pv p i ys σ' H' → H' p = some (.lst ys) → f i H' x H'' → ∀ (Q1 : V → St → Hp → Prop) (Q2 : St → Hp → Prop), (∀ v σ2 H5, H5 p = some (.lst ys) → Pv p (i + 1) (ys ++ [v]) σ2 (upd H5 p (.lst (ys ++ [v]))) → Q1 v σ2 H5) → (∀ σ2 H4, H4 p = some (.lst ys) → Pv p (i + 1) ys σ2 H4 → Q2 σ2 H4) →
      g x σ' H'' fun σ2 H3 => tc σ2 H3 fun b H4 => if b = true then te σ2 H4 fun v H5 => Q1 v σ2 H5 else Q2 σ2 H4)
    (q : ∀ p ys σ' H', H p = none → Pv p n ys σ' H' → H' p = some (.lst ys) → ys.length ≤ n → R p H') :
    ∀ p, H p = none → ∃ W : Nat → Nat → List V → St → Hp → Prop, (∃ m, W 0 m [] σ1 (upd H p (.lst []))) ∧ ∀ i m ys σ' H', W i m ys σ' H' →
      (J.stop i H' ∧ R p H') ∨ (J.go i H' ∧ ∀ x H2, J.yld i H' x H2 → g x σ' H2 fun σ2 H3 => tc σ2 H3 fun b H4 => if b = true then te σ2 H4 fun v H5 => ys.length < sizeLine ∧ H5 p = some (.lst ys) ∧ (∃ m', m' < m ∧ W (i + 1) m' (ys ++ [v]) σ2 (upd H5 p (.lst (ys ++ [v]))))
        else ∃ m', m' < m ∧ W (i + 1) m' ys σ2 H4) := by
  intro p hp
  refine ⟨fun i m ys σ' H' => m = n - i ∧ i ≤ n ∧ ys.length ≤ i ∧ Pv p i ys σ' H' ∧ H' p = some (.lst ys), ⟨n, by simp, Nat.zero_le _, Nat.zero_le _, hp0 p hp, upd_same⟩, ?_⟩
  rintro i m ys σ' H' ⟨rfl, hi, hl, pv, hp'⟩
  have o := hok p i ys σ' H' hp pv
  by_cases hlt : i < n
  · refine .inr ⟨Y.go i H' hlt o, fun x H2 y => hs p i ys σ' H' x H2 hp hlt hl pv hp' (Y.yld i H' x H2 hlt o y) _ _ (fun v σ2 H5 h5 pv5 => ⟨by rw [sizeLine_eq]; omega, h5, n - (i + 1), by omega, rfl, hlt, by simp; omega, pv5, upd_same⟩) fun σ2 H4 h4 pv4 => ⟨n - (i + 1), by omega, rfl, hlt, by omega, pv4, h4⟩⟩
  · have e : i = n := by omega
    subst e
    exact .inl ⟨Y.stop H' o, q p ys σ' H' hp pv hp' hl⟩
end
theorem yields_lst {K : PySem.W.Frag} {a : Addr} {xs : List V} : Yields (Itl K a) xs.length (fun i H x H' => H' = H ∧ xs[i]? = some x) (fun H => H a = some (.lst xs)) :=
  ⟨fun i H hi o => ⟨xs, xs[i], SqL.of o, by simp [hi]⟩, fun i H x H' hi o ⟨e, y⟩ => ⟨e, y xs (SqL.of o)⟩, fun H o => ⟨xs, SqL.of o, Nat.le_refl _⟩⟩
theorem yields_tup {K : PySem.W.Frag} {a : Addr} {xs : List V} : Yields (Itt K a) xs.length (fun i H x H' => H' = H ∧ xs[i]? = some x) (fun H => H a = some (.tup xs)) :=
  ⟨fun i H hi o => ⟨xs, xs[i], SqT.of o, by simp [hi]⟩, fun i H x H' hi o ⟨e, y⟩ => ⟨e, y xs (SqT.of o)⟩, fun H o => ⟨xs, SqT.of o, Nat.le_refl _⟩⟩
theorem yields_rng {lo : Int} {n : Nat} : Yields (Itr lo n) n (fun i H x H' => H' = H ∧ x = .int (lo + i)) (fun _ => True) :=
  ⟨fun i H hi _ => hi, fun i H x H' hi _ y => y, fun H _ => Nat.le_refl _⟩
/-! ### a dict with tuples as keys, walked -/
end L2

set_option Elab.async false
set_option linter.all false
set_option maxRecDepth 100000
set_option maxHeartbeats 4000000
namespace L2
open PySem PySem.Spec PyProof.Rows
/-! ### dict comprehensions with tuples as keys -/
end L2

set_option Elab.async false
set_option linter.all false
set_option maxRecDepth 100000
set_option maxHeartbeats 4000000
namespace L2
open PySem PySem.W PySem.Spec PyProof.Rows DI Srt
/-! ### dict(a list of pairs), the keys tuples -/
end L2

set_option Elab.async false
set_option linter.all false
set_option maxRecDepth 100000
set_option maxHeartbeats 1000000
namespace L2
open PySem PySem.Spec PyProof.Rows Srt
/-! ### tables: tuples of ints with ints -/
/-! ### in order -/
end L2

set_option Elab.async false
set_option linter.all false
set_option maxRecDepth 100000
set_option maxHeartbeats 1000000
namespace L2
open PySem PySem.Spec PyProof.Rows Srt
theorem hu2_of {A : Around} {k : Nat} (hr : Room k A) : A.units + 2 < cLine := by have := hr.un; omega
end L2

set_option Elab.async false
set_option linter.all false
set_option maxRecDepth 100000
set_option maxHeartbeats 1000000
namespace L2
open PySem PySem.Spec PyProof.Rows Srt
end L2
namespace L2
open PySem PySem.Spec PyProof.Rows Srt
/-! ### walks without a K: for the second clause of a comprehension -/
end L2

set_option Elab.async false
set_option linter.all false
set_option maxRecDepth 100000
set_option maxHeartbeats 4000000
/-! ### a table of defs -/
namespace L2
open PySem PySem.Spec PyProof.Rows
end L2

set_option Elab.async false
set_option linter.all false
set_option maxRecDepth 100000
set_option maxHeartbeats 400000
/-! ### repr of any data: a list may hold a dict -/
namespace L2
open PySem PySem.Spec PyProof.Rows
end L2

set_option Elab.async false
set_option linter.all false
set_option maxRecDepth 100000
set_option maxHeartbeats 400000
/-! ### repr of a dict whose keys are tuples -/
namespace L2
open PySem PySem.Spec PyProof.Rows
end L2
namespace My
open PySem L2
end My

set_option Elab.async false
set_option linter.all false
set_option maxRecDepth 100000
set_option maxHeartbeats 1000000
/-! ### min of a row whose things are compared by what lies in the heap -/
namespace L2
open PySem PySem.Spec PyProof.Rows PySem.W
end L2
namespace L2
open PySem PySem.Spec PyProof.Rows Srt
end L2

set_option Elab.async false
set_option linter.all false
set_option maxRecDepth 100000
set_option maxHeartbeats 4000000
/-! ### a dict comprehension whose own names are seen by another one within it -/
namespace L2
open PySem PySem.Spec PyProof.Rows
end L2
namespace L2
open PySem
/-- a dict with ints as keys -/
noncomputable def kN (p : Int × V) : Key × V := (.inl p.1, p.2)
end L2

set_option Elab.async false
set_option linter.all false
set_option maxRecDepth 100000
set_option maxHeartbeats 4000000
/-! ### a def called by its name in a try -/
namespace L2
open PySem PySem.Spec PyProof.Rows
end L2

set_option Elab.async false
set_option linter.all false
set_option maxRecDepth 100000
set_option maxHeartbeats 4000000
namespace DI
open PySem PySem.W PySem.Spec PyProof.Rows
end DI
namespace L2
open PySem PySem.W PySem.Spec PyProof.Rows DI Srt
end L2

set_option Elab.async false
set_option linter.all false
set_option maxRecDepth 100000
set_option maxHeartbeats 1000000
namespace L2
open PySem PySem.Spec PyProof.Rows Srt
/-! ### d.setdefault(k, x): keys are tuples -/
end L2

set_option Elab.async false
set_option linter.all false
set_option maxRecDepth 100000
set_option maxHeartbeats 4000000
namespace L2
open PySem PySem.W PySem.Spec PyProof.Rows DI Srt
end L2

set_option Elab.async false
set_option linter.all false
set_option maxRecDepth 100000
set_option maxHeartbeats 4000000
namespace PyProof.Rows
open PySem
end PyProof.Rows
namespace L2
open PySem PySem.Spec PyProof.Rows MA
end L2

set_option Elab.async false
set_option linter.all false
set_option maxRecDepth 100000
set_option maxHeartbeats 4000000
/-! ### < and >= of tuples of ints -/
namespace PySem.SeqAt
open AutoSeq1 (wpAny_loadPart')
open MeetsSeq MeetsSeq2 MeetsSeq3
end PySem.SeqAt
namespace L2
open PySem MA Srt PySem.W PySem.Spec PyProof.Rows
end L2

set_option Elab.async false
set_option linter.all false
set_option maxRecDepth 100000
set_option maxHeartbeats 4000000
namespace L2
open PySem MA Srt PySem.W PySem.Spec PyProof.Rows
end L2

set_option Elab.async false
set_option linter.all false
set_option maxRecDepth 100000
set_option maxHeartbeats 4000000
namespace L2
open PySem PySem.Spec PyProof.Rows
end L2

set_option Elab.async false
set_option linter.all false
set_option maxRecDepth 100000
set_option maxHeartbeats 4000000
namespace PySem
namespace F
end F
end PySem
namespace L2
open PySem PySem.Spec PyProof.Rows
end L2

set_option Elab.async false
set_option linter.all false
set_option maxRecDepth 100000
set_option maxHeartbeats 4000000
namespace L2
open PySem PySem.Spec PyProof.Rows
end L2

set_option Elab.async false
set_option linter.all false
set_option maxRecDepth 100000
set_option maxHeartbeats 4000000
/-! ### methods that raise own errors -/
namespace L2
open PySem PySem.Spec PyProof.Rows
structure MCal1 (P : Program) (w : World) (K : PySem.W.Frag) (mg : Str → Option Value) (base : Heap) (C : Addr) (m : Str) (ps : List Str) (k : Nat) (sp : Sp) : Prop where
  ex : ∃ f fd, FnOk P w K mg base (CX1 P w) k f fd ps sp ∧ Meth K C m f ∧ Binds K fd ps []
theorem MFun.cal1 {P : Program} {w : World} {K : PySem.W.Frag} {mg : Str → Option Value} {base : Heap} {C : Addr} {m qual : Str} {ps N : List Str} {st : Stmt} {k : Nat} {sp : Sp} (F : MFun K C m qual ps st) (S : FnScope N ps (defScope st)) (len : ∀ vs H Q E, sp vs H Q E → vs.length = ps.length)
    (hbody : ∀ (f : Addr) (cdv : Value) (A : Around) (outer : List Env) (s : Shared) (H : Hp) (vs : List V) (Q : VK) (E : XK), Room k (A.deeper (envOfC qual (defScope st) s.heap.objs.size f cdv)) → sp vs H Q E →
      ∃ t, PSs (cxOf (CX1 P w) P w K mg base N qual (defScope st) f cdv A outer s H E) (defBody st) t ∧ t { nx := fun _ H' => Q .non H', rt := Q } (start N vs) H) : MCal1 P w K mg base C m ps (k + 1) sp := by
  obtain ⟨f, fd, F1, m, b⟩ := F.ex
  refine ⟨f, fd, ?_, m, b⟩
  obtain ⟨oc, od, kV, doc, pm, an, cdv, ct, osl, rfl, lk, hcd⟩ := F1.ex
  exact fn_of lk hcd S len fun A outer s H vs Q E hr hsp => hbody f cdv A outer s H vs Q E hr hsp
theorem MCal1.cal0 {P : Program} {w : World} {K : PySem.W.Frag} {mg : Str → Option Value} {base : Heap} {C : Addr} {m : Str} {ps : List Str} {k : Nat} {sp : Sp} (c : MCal1 P w K mg base C m ps k sp) : MCal P w K mg base C m ps k (fun vs H Q _ => sp vs H Q E0) := by
  obtain ⟨f, fd, F, r⟩ := c.ex
  refine ⟨f, fd, ⟨fun vs H Q E h => F.len vs H Q _ h, fun A outer s H args us vs Q E hr he hb hv hs => codeAny_mono (F.run A outer s H args us vs Q _ hr he hb hv hs) fun r s' h => ?_⟩, r⟩
  cases r with
  | error e => exact CX1.never h
  | ok fl => cases fl <;> exact h
theorem MCal.imp {P : Program} {w : World} {K : PySem.W.Frag} {mg : Str → Option Value} {base : Heap} {C : Addr} {m : Str} {ps : List Str} {k : Nat} {sp sp' : Sp} (c : MCal P w K mg base C m ps k sp) (h : ∀ vs H Q E, sp' vs H Q E → sp vs H Q E) : MCal P w K mg base C m ps k sp' :=
  let ⟨f, fd, F, r⟩ := c.ex
  ⟨f, fd, F.imp h, r⟩
section
variable {X : Cx} {C : Addr} {x m : Str} {ps : List Str} {k : Nat} {sp : Sp} {o e : Expr} {es : List Expr} {t : TA} {to : TE} {p pos apos : Pos} {E : XK}
theorem pm1 {pl : Sem Bool} (hx : Passes (CX1 X.prog X.w) X E) (c : MCal1 X.prog X.w X.K X.mg X.base C m ps k sp) (cl : Cls X.K C) (hr : Room k X.A) (ho : PE X o to) (ha : PA X (e :: es) t)
    (hst : starEach (e :: es) X.env = (false, eval e X.env) :: starEach es X.env := by rfl) (hpl : (backTo pos (starEach es X.env)).any (·.1) = false := by rfl)
    (ht : eval (.Call (.Attribute o m apos) (e :: es) [] pos) X.env = (do
      let ov ← eval o X.env
      standAt apos.atName
      let (f, first) ← holding [ov] (getMethod ov m pl)
      callWith pos f first (backTo pos (starEach (e :: es) X.env)) (backToKw pos (keywordEach [] X.env))) := by rfl) :
    PE X (.Call (.Attribute o m apos) (e :: es) [] pos) (tMeth C m sp [] E to t) := by
  obtain ⟨f, fd, F, hm, b⟩ := c.ex
  exact pe_meth ho cl hm F hr b .nil hx ha hst hpl ht
theorem pm01 {pl : Sem Bool} (hx : Passes (CX1 X.prog X.w) X E) (c : MCal1 X.prog X.w X.K X.mg X.base C m ps k sp) (cl : Cls X.K C) (hr : Room k X.A) (ho : PE X o to)
    (ht : eval (.Call (.Attribute o m apos) [] [] pos) X.env = (do
      let ov ← eval o X.env
      standAt apos.atName
      let (f, first) ← holding [ov] (getMethod ov m pl)
      callWith pos f first (backTo pos (starEach [] X.env)) (backToKw pos (keywordEach [] X.env))) := by rfl) :
    PE X (.Call (.Attribute o m apos) [] [] pos) (tMeth C m sp [] E to tNil) := by
  obtain ⟨f, fd, F, hm, b⟩ := c.ex
  exact pe_meth0 ho cl hm F hr b .nil hx ht
end
end L2

set_option Elab.async false
set_option linter.all false
set_option maxRecDepth 100000
set_option maxHeartbeats 4000000
/-! ### a dict with ints and texts as keys: its keys walked, list(d), thawed behind the walk -/
namespace L2
open PySem PySem.W PySem.Spec PyProof.Rows DI Srt
theorem Inv.thawK {X : Cx} {pins : List (Addr × Obj)} {σ : St} {H : Hp} {s : Shared} {d : Addr} {o : Obj} {kvs : List (Key × V)} (I : Inv X pins σ H s) (h : H d = some (.frz o (.dK kvs))) (hn : ∀ o u, X.H₀ d ≠ some (.frz o u)) : Inv X pins σ (upd H d (.dK kvs)) s := by
  have ne : ∀ {b : Addr} {u : HO}, H b = some u → u ≠ .frz o (.dK kvs) → b ≠ d := fun e z => ne_of e h z
  have nd : ∀ {b : Addr}, H b = none → b ≠ d := fun {b} e z => by subst z; rw [h] at e; cases e
  have B := I.base
  refine ⟨I.ok, I.os, I.bare, ⟨B.keep, B.slot, fun b o' e n hx => ?_, B.there, fun b xs e => ?_, fun b o' u e => ?_, fun b ps e => ?_⟩, I.loc, I.cell, ?_, fun x c e => ?_, fun p hp => ?_, fun b u e => ?_, I.len⟩
  · have := B.free b o' e n hx; rw [upd_ne (nd this)]; exact this
  · have := B.tups b xs e; rw [upd_ne (ne this (fun z => nomatch z))]; exact this
  · have := B.frzs b o' u e
    rw [upd_ne (fun z => by subst z; exact hn o' u e)]; exact this
  · obtain ⟨m, q⟩ := B.tbls b ps e
    exact ⟨m, by rw [upd_ne (ne q (fun z => nomatch z))]; exact q⟩
  · rw [upd_ne (nd I.free)]; exact I.free
  · have := I.freeC x c e; rw [upd_ne (nd this)]; exact this
  · obtain ⟨p1, p2, p3⟩ := I.pin p hp
    exact ⟨p1, by rw [upd_ne (nd p2)]; exact p2, p3⟩
  · have st : ∀ {b : Addr} {u : HO}, ObjOk X.prog X.w H s.heap b u → ObjOk X.prog X.w (upd H d (.dK kvs)) s.heap b u := fun x =>
      x.stay (fun _ _ _ q => q) (fun c q => by rw [upd_ne (ne q (fun z => nomatch z))]; exact q) (fun c xs q => by rw [upd_ne (ne q (fun z => nomatch z))]; exact q) fun c ob q => by rw [upd_ne (ne q (fun z => by cases z))]; exact q
    by_cases hb : b = d
    · subst hb; rw [upd_same] at e; cases e
      exact st (I.hok b _ h).2
    · rw [upd_ne hb] at e; exact st (I.hok b u e)
theorem Inv.notFrzK {X : Cx} {pins : List (Addr × Obj)} {σ : St} {H : Hp} {s : Shared} {d : Addr} {kvs : List (Key × V)} (I : Inv X pins σ H s) (h : H d = some (.dK kvs)) : ∀ o u, X.H₀ d ≠ some (.frz o u) := fun o u e => by
  have := I.base.frzs d o u e
  rw [h] at this; cases this
noncomputable def sThawK (ts : TS) : TS := fun D σ H => ∃ d kvs, H d = some (.dK kvs) ∧ ts { D with nx := fun σ' H' => ∃ o kvs', H' d = some (.frz o (.dK kvs')) ∧ D.nx σ' (upd H' d (.dK kvs')) } σ H
theorem ps_thawK {X : Cx} {st : Stmt} {ts : TS} (h : PS X st ts) : PS X st (sThawK ts) := by
  intro pins s σ H D I ⟨d, kvs, hd, q⟩
  have nf := I.notFrzK hd
  refine thn (h pins s σ H _ I q) fun f s1 q1 => ?_
  cases f with
  | next =>
    obtain ⟨σ1, H1, I1, o, kvs', hz, q2⟩ := q1
    exact ⟨σ1, _, I1.thawK hz nf, q2⟩
  | cont => exact q1
  | brk => exact q1
  | ret v => exact q1
noncomputable def tThawK (te : TE) : TE := fun σ H Q => ∃ d kvs, H d = some (.dK kvs) ∧ te σ H fun v H' => ∃ o kvs', H' d = some (.frz o (.dK kvs')) ∧ Q v (upd H' d (.dK kvs'))
theorem pe_thawK {X : Cx} {e : Expr} {te : TE} (h : PE X e te) : PE X e (tThawK te) := by
  intro pins s σ H Q I ⟨d, kvs, hd, q⟩
  have nf := I.notFrzK hd
  refine thn (h pins s σ H _ I q) fun u s1 ⟨v, H1, I1, r1, o, kvs', hz, q2⟩ => ?_
  exact ⟨v, _, I1.thawK hz nf, r1, q2⟩
noncomputable def EntK (kvs : List (Key × V)) (es : Array DictEntry) : Prop := Paired (fun (p : Key × V) (e : DictEntry) => RelV (kV p.1) e.key ∧ RelV p.2 e.val) kvs es.toList
theorem EntK.size {kvs : List (Key × V)} {es : Array DictEntry} (h : EntK kvs es) : es.size = kvs.length := by have := Paired.length h; simpa using this.symm
theorem EntK.at {kvs : List (Key × V)} {es : Array DictEntry} (h : EntK kvs es) {i : Nat} {e : DictEntry} (q : es[i]? = some e) : ∃ kv, kvs[i]? = some kv ∧ RelV (kV kv.1) e.key ∧ RelV kv.2 e.val := by
  have hl := h.size
  have li : i < kvs.length := by rw [← hl]; exact (Array.getElem?_eq_some_iff.mp q).1
  obtain ⟨y, h1, h2⟩ := My.Paired.at' h (List.getElem?_eq_getElem li)
  rw [Array.getElem?_toList, q] at h1
  cases h1
  exact ⟨_, List.getElem?_eq_getElem li, h2⟩
theorem Inv.entK {X : Cx} {pins : List (Addr × Obj)} {σ : St} {H : Hp} {s : Shared} {d : Addr} {kvs : List (Key × V)} (I : Inv X pins σ H s) (h : Rd H d (.dK kvs)) : (d == sysModules) = false ∧ kvs.length ≤ sizeLine ∧ ∃ es ep, DEnt s.heap d es ep ∧ EntK kvs es := by
  obtain ⟨z, y, vs, r, o, es, ep, h1, h2, h3, h4, h5, h6⟩ := (show ObjOk X.prog X.w H s.heap d (.dK kvs) from rd_of I.hok h)
  refine ⟨y, z, es, ep, ⟨o, h1, h2, h3⟩, ?_⟩
  unfold EntK
  have key : ∀ {l : List DictEntry} {vs : List (Key × Value)}, Pairs (mixKind X.prog X.w) l vs → ∀ {kvs : List (Key × V)}, KV kvs vs → Paired (fun (p : Key × V) (e : DictEntry) => RelV (kV p.1) e.key ∧ RelV p.2 e.val) kvs l := by
    intro l vs q
    induction q with
    | nil => intro kvs r; cases r; exact .nil
    | cons hq1 hq2 t ih =>
      intro kvs r
      cases r with
      | cons r1 r2 =>
        refine .cons ⟨?_, by rw [hq2]; exact r1.2⟩ (ih r2)
        rw [r1.1]
        rcases keyIs_shape hq1 with ⟨i, t, e1, e2⟩ | ⟨x, t, e1, e2⟩
        · rw [e1, e2]; exact ⟨t, rfl⟩
        · rw [e1, e2]; exact ⟨t, rfl⟩
  exact key h5 r
theorem Inv.entKZ {X : Cx} {pins : List (Addr × Obj)} {σ : St} {H : Hp} {s : Shared} {d : Addr} {o : Obj} {kvs : List (Key × V)} {es : Array DictEntry} {ep : Nat} (I : Inv X pins σ H s) (h : H d = some (.frz o (.dK kvs))) (ho : o.data = .dict es ep) : DEnt s.heap d es ep ∧ EntK kvs es := by
  obtain ⟨lo, z, es', ep', ⟨o', g1, g2, g3⟩, en⟩ := I.entK (.inr ⟨o, h⟩)
  obtain ⟨g, _⟩ := I.hok d _ h
  rw [g] at g1; cases g1
  rw [ho] at g3; cases g3
  exact ⟨⟨o, g, g2, ho⟩, en⟩
noncomputable def ItkK (d : Addr) (o : Obj) : It :=
  ⟨fun i H => ∃ kvs kv, H d = some (.frz o (.dK kvs)) ∧ kvs[i]? = some kv, fun i H v H' => H' = H ∧ ∃ kv, v = kV kv.1 ∧ ∀ kvs, H d = some (.frz o (.dK kvs)) → kvs[i]? = some kv, fun i H => ∃ kvs, H d = some (.frz o (.dK kvs)) ∧ kvs.length ≤ i⟩
theorem turn_keysK {P : Program} {w : World} {K : PySem.W.Frag} {tg : Expr} {it d : Addr} {o : Obj} {es : Array DictEntry} {ep : Nat} (hod : o.data = .dict es ep) : Turn P w K tg (ItkK d o) [it] it (fun i h => h.IsKeyIter it d i es.size ep) where
  mem := by simp
  obj := fun i h st b hb => by
    obtain ⟨o, e, c, d⟩ := st
    rw [List.mem_singleton.mp hb]
    exact ⟨o, e, fun v z => by rw [d] at z; cases z⟩
  keep := fun i h h' st k => st.at fun o e => k it (by simp) o e
  item := by
    intro X hP hw hK hc i pins s σ H E I hf st hg
    subst hP hw hK
    obtain ⟨kvs, kv, hH, hx⟩ := hg
    obtain ⟨de, en⟩ := I.entKZ hH hod
    have li : i < es.size := by rw [en.size]; exact (List.getElem?_eq_some_iff.mp hx).1
    obtain ⟨kv', w1, w2, w3⟩ := en.at (Array.getElem?_eq_getElem li)
    rw [hx] at w1; cases w1
    obtain ⟨f0, f1, f2, f3, f4, f5⟩ := hf it (by simp)
    refine key_next st de li fun h' st' sb => ⟨_, rfl, ?_⟩
    have I1 : Inv X pins σ H { s with heap := h' } := I.turned (t' := s.toks) (fun b o hb e => (sb.2 b hb).trans e) f0 f1 f3 f4 f5
    obtain ⟨oi, e, c, dd⟩ := id st'
    exact go_of (s := { s with heap := h' }) e c dd (by decide) ⟨kV kv.1, H, I1, w2, ⟨rfl, kv, rfl, fun ks hk => by rw [hH] at hk; cases hk; exact hx⟩, st', fun b hb => (hf b hb).1⟩
  done := by
    intro X hP hw hK hc i pins s σ H E I hf st hg
    subst hP hw hK
    obtain ⟨kvs, hH, hx⟩ := hg
    obtain ⟨de, en⟩ := I.entKZ hH hod
    obtain ⟨f0, f1, f2, f3, f4, f5⟩ := hf it (by simp)
    exact key_end (I.ok.hd hc) st de (by rw [en.size]; exact hx) fun h' eb => ⟨rfl, I.turned (t' := s.toks) (fun b o hb e => eb b o hb e) f0 f1 f3 f4 f5⟩
  self := fun A i s Q E st h => wpAny_pyIter_keyiter st h
noncomputable def iKeysK (to : TE) : TI := fun σ H R => to σ H fun x H1 => ∃ d kvs, x = .ref d ∧ ((H1 d = some (.dK kvs) ∧ ∀ o, R (ItkK d o) (upd H1 d (.frz o (.dK kvs)))) ∨ ∃ o, H1 d = some (.frz o (.dK kvs)) ∧ R (ItkK d o) H1)
theorem pi_keysK {X : Cx} {tg o : Expr} {to : TE} (ho : PE X o to) : PI X tg o (iKeysK to) := by
  intro pins s σ H R I h
  refine thn (ho pins s σ H _ I h) fun v s1 ⟨x, H1, I1, r1, d, kvs, ex, q1⟩ => ?_
  subst ex
  cases r1
  obtain ⟨ob, H2, I2, e2, q⟩ : ∃ o H2, Inv X pins σ H2 s1 ∧ H2 d = some (.frz o (.dK kvs)) ∧ R (ItkK d o) H2 := by
    rcases q1 with ⟨e, q⟩ | ⟨o, e, q⟩
    · obtain ⟨o, _, I2⟩ := I1.freeze e
      exact ⟨o, _, I2, upd_same, q o⟩
    · exact ⟨o, H1, I1, e, q⟩
  obtain ⟨lo, z, es, ep, ⟨ob', g1, x1, d1⟩, en⟩ := I2.entK (.inr ⟨ob, e2⟩)
  obtain ⟨g2, _⟩ := I2.hok d _ e2
  rw [g2] at g1; cases g1
  refine key_iter lo ⟨ob, g2, x1, d1⟩ ?_
  refine ⟨s1.heap.objs.size, [s1.heap.objs.size], _, _, H2, rfl, I2.kept (t' := s1.toks) fun b u e => Heap.get?_push_of_some _ e, turn_keysK d1, ⟨_, Heap.get?_push_size _ rfl, rfl, rfl⟩, fun b hb => ?_, q⟩
  rw [List.mem_singleton.mp hb]
  exact I2.fpOk (Nat.le_refl _) (I2.hok.fresh (Nat.le_refl _))
theorem yields_keysK {d : Addr} {o : Obj} {kws : List (Int × V)} : Yields (ItkK d o) kws.length (fun i H x H' => H' = H ∧ ∃ kw, x = .int kw.1 ∧ kws[i]? = some kw) (fun H => H d = some (.frz o (.dK (kws.map kN)))) :=
  ⟨fun i H hi h => ⟨_, kN kws[i], h, by simp [hi]⟩, fun i H x H' hi h ⟨e, kv, e1, e3⟩ => by
    have := e3 _ h
    rw [List.getElem?_map, Option.map_eq_some_iff] at this
    obtain ⟨kw, h1, h2⟩ := this
    subst h2
    exact ⟨e, kw, e1, h1⟩, fun H h => ⟨_, h, by simp⟩⟩
/-- list(d) -/
noncomputable def rListI : List V → Hp → VK → Prop := fun xs H Q => ∃ (d : Addr) (kws : List (Int × V)), xs = [.ref d] ∧ Rd H d (.dK (kws.map kN)) ∧ ∀ q : Addr, H q = none → Q (.ref q) (upd H q (.lst (iv (kws.map (·.1)))))
theorem call_listI {X : Cx} (hc : X.calm = true) : CallR X (.type "list") rListI := by
  intro pins s σ H xs us Q I r h
  obtain ⟨d, kws, rfl, hd, q⟩ := h
  obtain ⟨u, rfl, ru⟩ := vals1 r
  obtain rfl : u = Value.ref d := ru
  obtain ⟨lo, z, es, ep, de, en⟩ := I.entK hd
  have hes := en.size
  rw [List.length_map] at hes z
  refine kdl_call (src_dict lo) (I.ok.hd hc) de (by omega) fun h' tk acc c kp at2 it => ?_
  have rel : Vals (iv (kws.map (·.1))) acc.toList := by
    have hl : acc.toList.length = kws.length := by rw [Array.length_toList]; exact it.1.trans hes
    have at1 : ∀ (j : Nat) v, acc.toList[j]? = some v → ∃ kw, kws[j]? = some kw ∧ RelV (.int kw.1) v := fun j v e => by
      obtain ⟨e', he, rfl⟩ := it.2 j v (by rw [← Array.getElem?_toList]; exact e)
      obtain ⟨kv, w1, w2, _⟩ := en.at he
      rw [List.getElem?_map, Option.map_eq_some_iff] at w1
      obtain ⟨kw, h1, h2⟩ := w1
      subst h2
      exact ⟨kw, h1, w2⟩
    clear at2 it hes z hd en q
    generalize acc.toList = l at hl at1
    induction l generalizing kws with
    | nil =>
      cases kws with
      | nil => exact .nil
      | cons a r => simp at hl
    | cons v l ih =>
      cases kws with
      | nil => simp at hl
      | cons a r =>
        obtain ⟨kw, e1, e2⟩ := at1 0 v rfl
        simp at e1; subst e1
        exact .cons e2 (ih r (by simpa using hl) fun j v e => by simpa using at1 (j + 1) v (by simpa using e))
  refine ⟨.ref s.heap.objs.size, _, I.laid (t' := tk) (a := s.heap.objs.size) (o := .lst (iv (kws.map (·.1)))) kp (Nat.le_refl _) ⟨by simp; omega, acc.toList, c, rel, ?_⟩, rfl, q _ (I.hok.fresh (Nat.le_refl _))⟩
  rw [at2]
end L2

set_option Elab.async false
set_option linter.all false
set_option maxRecDepth 100000
set_option maxHeartbeats 4000000
/-! ### the tables of several defs that make lambdas stand apart -/
namespace L2
open PySem PySem.Spec PyProof.Rows
noncomputable def tabOf (K : PySem.W.Frag) (y : Str) : Option Addr := match PySem.W.nsIn K mainGlobals y with
  | some (some (.ref f)) => (match K.lookup f with
    | some ⟨_, _, .func fd, _⟩ => (match fd.code with
      | .ref c => (match K.lookup c with
        | some ⟨_, _, .fields vs, _⟩ => (match (vs[11]? : Option Value) with
          | some (Value.ref P) => some P
          | _ => none)
        | _ => none)
      | _ => none)
    | _ => none)
  | _ => none
theorem tabOf_at {K : PySem.W.Frag} {h : Heap} {mg : Str → Option Value} {y : Str} {P : Addr} {cp : Addr × Addr} (X : K.In h) (G : h.Ns mainGlobals mg) (e : tabOf K y = some P)
    (hcp : (∃ f o fd, mg y = some (.ref f) ∧ h.get? f = some o ∧ o.data = .func fd ∧ fd.code = .ref cp.1) ∧ PySem.W.CodeHd h cp.1 cp.2) : cp.2 = P := by
  obtain ⟨⟨f, o, fd, h1, h2, h3, h4⟩, ⟨o', vs, _, _, _, _, _, _, _, g1, _, g3, g4, _⟩⟩ := hcp
  unfold tabOf at e
  split at e
  · rename_i f' hf
    rw [PySem.W.mg_of X G hf] at h1
    cases h1
    split at e
    · rename_i fd' _ hl
      have := X _ _ hl
      rw [h2] at this
      cases this
      cases h3
      split at e
      · rename_i c hc
        rw [h4] at hc
        cases hc
        split at e
        · rename_i vs' _ hl2
          have := X _ _ hl2
          rw [g1] at this
          cases this
          cases g3
          split at e
          · rename_i P' hP
            rw [g4] at hP
            cases hP
            exact Option.some.inj e
          · cases e
        · cases e
      · cases e
    · cases e
  · cases e
noncomputable def tabsOk (K : PySem.W.Frag) : List Str → Bool
  | [] => true
  | y :: ys => (match tabOf K y with | some P => ys.all (fun z => (match tabOf K z with | some P' => P != P' | none => false)) | none => false) && tabsOk K ys
theorem tabsOk_inj {K : PySem.W.Frag} : ∀ {ys : List Str}, tabsOk K ys = true → ∀ y ∈ ys, ∃ P, tabOf K y = some P ∧ ∀ z ∈ ys, tabOf K z = some P → z = y
  | [], _ => fun y hy => by cases hy
  | x :: xs, h => by
    unfold tabsOk at h
    rw [Bool.and_eq_true] at h
    obtain ⟨h1, h2⟩ := h
    cases e : tabOf K x with
    | none => rw [e] at h1; cases h1
    | some P =>
      rw [e] at h1
      have h1' : ∀ z ∈ xs, ∃ P', tabOf K z = some P' ∧ P ≠ P' := fun z hz => by
        have := List.all_eq_true.mp h1 z hz
        cases e2 : tabOf K z with
        | none => rw [e2] at this; cases this
        | some P' => rw [e2] at this; exact ⟨P', rfl, by simpa using this⟩
      intro y hy
      rcases List.mem_cons.mp hy with rfl | hy
      · refine ⟨P, e, fun z hz ez => ?_⟩
        rcases List.mem_cons.mp hz with rfl | hz
        · rfl
        · obtain ⟨P', e', ne⟩ := h1' z hz
          rw [ez] at e'
          exact absurd (Option.some.inj e') ne
      · obtain ⟨P2, e2, u2⟩ := tabsOk_inj h2 y hy
        refine ⟨P2, e2, fun z hz ez => ?_⟩
        rcases List.mem_cons.mp hz with z0 | hz
        · obtain ⟨P', e', ne⟩ := h1' y hy
          rw [z0, e] at ez
          rw [e2] at e'
          cases ez
          cases e'
          exact absurd rfl ne
        · exact u2 z hz ez
theorem inj_of {K : Params → PySem.W.Frag} {lams : List Str} (ok : ∀ p, tabsOk (K p) lams = true) : ∀ (w : World) (mg : Str → Option Value) (h : Heap) (cp : Str → Addr × Addr), (K w.params).In h → h.Ns mainGlobals mg →
      (∀ y ∈ lams, (∃ f o fd, mg y = some (.ref f) ∧ h.get? f = some o ∧ o.data = .func fd ∧ fd.code = .ref (cp y).1) ∧ PySem.W.CodeHd h (cp y).1 (cp y).2 ∧ h.get? (cp y).2 = some (PySem.W.tabObj #[])) → ∀ y ∈ lams, ∀ z ∈ lams, (cp y).2 = (cp z).2 → y = z := fun w mg h cp X G H y hy z hz e => by
  obtain ⟨P, e1, u1⟩ := tabsOk_inj (ok w.params) y hy
  obtain ⟨P2, e2, _⟩ := tabsOk_inj (ok w.params) z hz
  have a1 := tabOf_at X G e1 ⟨(H y hy).1, (H y hy).2.1⟩
  have a2 := tabOf_at X G e2 ⟨(H z hz).1, (H z hz).2.1⟩
  rw [a1, a2] at e
  subst e
  exact (u1 z hz e2).symm
end L2

set_option Elab.async false
set_option linter.all false
set_option maxRecDepth 100000
set_option maxHeartbeats 4000000
namespace My
open PySem L2 MA
noncomputable def top (i : Nat) : Stmt := PySem.Challenge.pw_emptierbox_k57_a_room.main.body.getD i (.Pass ⟨0, 0, 0, 0⟩)
noncomputable abbrev s_emptiest_of : Stmt := top 1
theorem sc_emptiest_of : FnScope ["numbers", "draw"] ["numbers", "draw"] (defScope s_emptiest_of) := ⟨rfl, rfl, rfl, by decide +kernel, rfl, by decide +kernel, by decide +kernel⟩
noncomputable abbrev s_is_whole : Stmt := top 14
theorem sc_is_whole : FnScope ["thing"] ["thing"] (defScope s_is_whole) := ⟨rfl, rfl, rfl, by decide +kernel, rfl, by decide +kernel, by decide +kernel⟩
noncomputable abbrev s_falling : Stmt := top 16
theorem sc_falling : FnScope ["numbers"] ["numbers"] (defScope s_falling) := ⟨rfl, rfl, rfl, by decide +kernel, rfl, by decide +kernel, by decide +kernel⟩
noncomputable abbrev s_l_pen : Stmt := top 21
theorem sc_l_pen : FnScope ["_law_script"] ["_law_script"] (defScope s_l_pen) := ⟨rfl, rfl, rfl, by decide +kernel, rfl, by decide +kernel, by decide +kernel⟩
noncomputable abbrev s_l_draw : Stmt := top 22
theorem sc_l_draw : FnScope ["_law_pen_here", "_law_many", "_law_at", "_law_cell", "_law_prime", "_law_number", "_law_found"] ["_law_pen_here", "_law_many"] (defScope s_l_draw) := ⟨rfl, rfl, rfl, by decide +kernel, rfl, by decide +kernel, by decide +kernel⟩
noncomputable abbrev s_l_is_whole : Stmt := top 23
theorem sc_l_is_whole : FnScope ["_law_thing"] ["_law_thing"] (defScope s_l_is_whole) := ⟨rfl, rfl, rfl, by decide +kernel, rfl, by decide +kernel, by decide +kernel⟩
noncomputable abbrev s_l_heard : Stmt := top 24
theorem sc_l_heard : FnScope ["_law_asked", "_law_caught", "_law_found", "e", "_law_marks"] ["_law_asked"] (defScope s_l_heard) := ⟨rfl, rfl, rfl, by decide +kernel, rfl, by decide +kernel, by decide +kernel⟩
noncomputable abbrev s_l_counts : Stmt := top 25
theorem sc_l_counts : FnScope ["_law_world", "_law_found", "_law_ball_here"] ["_law_world"] (defScope s_l_counts) := ⟨rfl, rfl, rfl, by decide +kernel, rfl, by decide +kernel, by decide +kernel⟩
noncomputable abbrev s_l_put_right : Stmt := top 26
theorem sc_l_put_right : FnScope ["_law_room", "_law_world", "_law_draw_here", "_law_counts_here", "_law_least", "_law_box", "_law_found", "_law_ball_here"] ["_law_room", "_law_world", "_law_draw_here"] (defScope s_l_put_right) := ⟨rfl, rfl, rfl, by decide +kernel, rfl, by decide +kernel, by decide +kernel⟩
noncomputable abbrev s_l_leave_right : Stmt := top 27
theorem sc_l_leave_right : FnScope ["_law_room", "_law_world", "_law_ball_here", "_law_found", "_law_box"] ["_law_room", "_law_world", "_law_ball_here"] (defScope s_l_leave_right) := ⟨rfl, rfl, rfl, by decide +kernel, rfl, by decide +kernel, by decide +kernel⟩
noncomputable abbrev s_l_back_right : Stmt := top 28
theorem sc_l_back_right : FnScope ["_law_room", "_law_world", "_law_found", "_law_word", "_law_ball_here", "_law_box"] ["_law_room", "_law_world"] (defScope s_l_back_right) := ⟨rfl, rfl, rfl, by decide +kernel, rfl, by decide +kernel, by decide +kernel⟩
noncomputable abbrev s_l_shown_right : Stmt := top 29
theorem sc_l_shown_right : FnScope ["_law_room", "_law_world", "_law_counts_here"] ["_law_room", "_law_world"] (defScope s_l_shown_right) := ⟨rfl, rfl, rfl, by decide +kernel, rfl, by decide +kernel, by decide +kernel⟩
noncomputable abbrev s_l_ball : Stmt := top 30
theorem sc_l_ball : FnScope ["_law_pen_here", "_law_world", "_law_way", "_law_odd", "_law_lying"] ["_law_pen_here", "_law_world"] (defScope s_l_ball) := ⟨rfl, rfl, rfl, by decide +kernel, rfl, by decide +kernel, by decide +kernel⟩
noncomputable abbrev s_l_deed_right : Stmt := top 31
theorem sc_l_deed_right : FnScope ["_law_pen_here", "_law_room", "_law_world", "_law_way", "_law_size"] ["_law_pen_here", "_law_room", "_law_world"] (defScope s_l_deed_right) := ⟨rfl, rfl, rfl, by decide +kernel, rfl, by decide +kernel, by decide +kernel⟩
noncomputable abbrev s_l_full_right : Stmt := top 32
theorem sc_l_full_right : FnScope ["_law_pen_here", "_law_n", "_law_room", "_law_world", "_law_k", "_law_gone"] ["_law_pen_here", "_law_n"] (defScope s_l_full_right) := ⟨rfl, rfl, rfl, by decide +kernel, rfl, by decide +kernel, by decide +kernel⟩
noncomputable abbrev s_l_long_right : Stmt := top 33
theorem sc_l_long_right : FnScope ["_law_pen_here", "_law_n", "_law_room", "_law_world", "_law_k", "_law_some"] ["_law_pen_here", "_law_n"] (defScope s_l_long_right) := ⟨rfl, rfl, rfl, by decide +kernel, rfl, by decide +kernel, by decide +kernel⟩
noncomputable abbrev s_law : Stmt := top 34
theorem sc_law : FnScope ["_law_script", "_law_pen_here", "_law_full", "_law_rooms", "_law_k", "_law_n", "_law_room", "_law_world"] ["_law_script"] (defScope s_law) := ⟨rfl, rfl, rfl, by decide +kernel, rfl, by decide +kernel, by decide +kernel⟩
noncomputable abbrev s_Room____init__ : Stmt := inClass (top 19) 0
theorem sc_Room____init__ : FnScope ["self", "n"] ["self", "n"] (defScope s_Room____init__) := ⟨rfl, rfl, rfl, by decide +kernel, rfl, by decide +kernel, by decide +kernel⟩
noncomputable abbrev s_Room__put : Stmt := inClass (top 19) 1
theorem sc_Room__put : FnScope ["self", "draw", "ball", "box"] ["self", "draw"] (defScope s_Room__put) := ⟨rfl, rfl, rfl, by decide +kernel, rfl, by decide +kernel, by decide +kernel⟩
noncomputable abbrev s_Room__leave : Stmt := inClass (top 19) 2
theorem sc_Room__leave : FnScope ["self", "ball", "box"] ["self", "ball"] (defScope s_Room__leave) := ⟨rfl, rfl, rfl, by decide +kernel, rfl, by decide +kernel, by decide +kernel⟩
noncomputable abbrev s_Room__back : Stmt := inClass (top 19) 3
theorem sc_Room__back : FnScope ["self", "deed", "ball", "box"] ["self"] (defScope s_Room__back) := ⟨rfl, rfl, rfl, by decide +kernel, rfl, by decide +kernel, by decide +kernel⟩
noncomputable abbrev s_Room__lay : Stmt := inClass (top 19) 4
theorem sc_Room__lay : FnScope ["self", "ball", "box"] ["self", "ball", "box"] (defScope s_Room__lay) := ⟨rfl, rfl, rfl, by decide +kernel, rfl, by decide +kernel, by decide +kernel⟩
noncomputable abbrev s_Room__lift : Stmt := inClass (top 19) 5
theorem sc_Room__lift : FnScope ["self", "ball", "box"] ["self", "ball", "box"] (defScope s_Room__lift) := ⟨rfl, rfl, rfl, by decide +kernel, rfl, by decide +kernel, by decide +kernel⟩
noncomputable abbrev s_Room__where : Stmt := inClass (top 19) 6
theorem sc_Room__where : FnScope ["self", "ball"] ["self", "ball"] (defScope s_Room__where) := ⟨rfl, rfl, rfl, by decide +kernel, rfl, by decide +kernel, by decide +kernel⟩
noncomputable abbrev s_Room__stand : Stmt := inClass (top 19) 7
theorem sc_Room__stand : FnScope ["self"] ["self"] (defScope s_Room__stand) := ⟨rfl, rfl, rfl, by decide +kernel, rfl, by decide +kernel, by decide +kernel⟩
noncomputable abbrev s_Room__load : Stmt := inClass (top 19) 8
theorem sc_Room__load : FnScope ["self"] ["self"] (defScope s_Room__load) := ⟨rfl, rfl, rfl, by decide +kernel, rfl, by decide +kernel, by decide +kernel⟩

section
variable {P : Program} {w : World} {K : PySem.W.Frag} {mg : Str → Option Value} {base : Heap}
theorem ok_pen (F : FunAt K mg "_law_pen" ["_law_script"] s_l_pen) : Cal P w K mg base "_law_pen" ["_law_script"] 1 (spPen K) := by
  have S := sc_l_pen
  refine F.cal sc_l_pen (fun vs H Q E h => ?_) (fun f cdv A outer s H vs Q E hr h => ?_)
  · obtain ⟨a, ns, rfl, _⟩ := h; rfl
  obtain ⟨a, ns, rfl, ha, k⟩ := h
  obtain ⟨ms, hms⟩ := cut_ints ns none (some 63)
  refine ⟨_, (@pss_one _ _ _ (@ps_ret _ _ _ _ (@pe_disp _ _ _ _ _ (@pps_cons _ _ _ _ _ _ _ _ _ pe_str (@pe_slice _ _ _ _ _ _ _ _ _ _ sl_list (pv 0) po_none (@po_some _ _ _ pe_int)) (@pps_cons _ _ _ _ _ _ _ _ _ pe_str pe_int (@pps_cons _ _ _ _ _ _ _ _ _ pe_str pe_int pps_nil))) (by rfl) (by rfl) (by simp) (by decide)))), ?_⟩
  intro p hp
  have s1 : Same H (upd H p (.dK [])) := same_new hp _
  refine ⟨_, rfl, _, rfl, a, _, rfl, s1.seq ha, fun c hc => ?_⟩
  have hpc : p ≠ c := fun e => by rw [← e, upd_same] at hc; cases hc
  refine ⟨by rw [upd_ne hpc]; exact upd_same, [(.inr "cells", .ref c), (.inr "at", .int 0), (.inr "left", .int 0)], rfl, (by show 3 ≤ 15; decide), ?_⟩
  refine k p _ (fun b o e => ?_) ⟨c, ms, 0, 0, ?_, ?_, by omega, by omega⟩
  · rw [upd_ne (ne_of_none e hp), upd_ne, upd_ne (ne_of_none e hp)]
    · exact e
    · intro z
      subst z
      rw [upd_ne (Ne.symm hpc), e] at hc
      cases hc
  · rw [upd_same]
    rfl
  · rw [upd_ne (Ne.symm hpc), upd_same, hms]
theorem ok_draw (T : Txt mg) (F : FunAt K mg "_law_draw" ["_law_pen_here", "_law_many"] s_l_draw) : Cal P w K mg base "_law_draw" ["_law_pen_here", "_law_many"] 1 spDraw := by
  have S := sc_l_draw
  refine F.cal sc_l_draw (fun vs H Q E h => ?_) (fun f cdv A outer s H vs Q E hr h => ?_)
  · obtain ⟨p, m, n, rfl, _⟩ := h; rfl
  obtain ⟨p, m, n, rfl, ⟨c, ns, a, l, hp, hc, ha0, han⟩, hn, hm, hm2, k⟩ := h
  have hu := hu_of hr
  have hcp : c ≠ p := ne_of hc hp (by intro z; cases z)
  refine ⟨_, (@pss_cons _ _ _ _ _ (@ps_if _ _ _ _ _ _ _ _ (@pt_cmpR _ _ _ _ _ _ _ _ op_gt (@pe_dget _ _ _ _ _ _ (by exact hu) (pv 0) pe_str (by exact (fun _ _ => rfl))) pe_int (by exact (nomark _))) (@pss_cons _ _ _ _ _ (@ps_set _ _ (6) _ _ _ _ (by exact S.nd) (by rfl) (by first | exact Or.inl rfl | exact Or.inr rfl) (@pe_op _ _ _ _ _ _ _ _ op_mod (@pe_dget _ _ _ _ _ _ (by exact hu) (pv 0) pe_str (by exact (fun _ _ => rfl))) (pv 1)) (by first|rfl|decide|exact .inl rfl|exact .inr rfl|(intros; rfl)) (by first|rfl|decide|exact .inl rfl|exact .inr rfl|(intros; rfl))) (@pss_cons _ _ _ _ _ (@ps_dput _ _ _ _ _ _ _ _ _ (by exact hu) (pv 0) pe_str (@pe_op _ _ _ _ _ _ _ _ op_fdiv (@pe_dget _ _ _ _ _ _ (by exact hu) (pv 0) pe_str (by exact (fun _ _ => rfl))) (pv 1)) (by rfl)) (@pss_one _ _ _ (@ps_ret _ _ _ _ (pv 6))))) pss_nil) (@pss_cons _ _ _ _ _ (@ps_set _ _ (2) _ _ _ _ (by exact S.nd) (by rfl) (by first | exact Or.inl rfl | exact Or.inr rfl) (@pe_dget _ _ _ _ _ _ (by exact hu) (pv 0) pe_str (by exact (fun _ _ => rfl))) (by first|rfl|decide|exact .inl rfl|exact .inr rfl|(intros; rfl)) (by first|rfl|decide|exact .inl rfl|exact .inr rfl|(intros; rfl))) (@pss_cons _ _ _ _ _ (@ps_dput _ _ _ _ _ _ _ _ _ (by exact hu) (pv 0) pe_str (@pe_op _ _ _ _ _ _ _ _ op_add (pv 2) pe_int) (by rfl)) (@pss_cons _ _ _ _ _ (@ps_set _ _ (3) _ _ _ _ (by exact S.nd) (by rfl) (by first | exact Or.inl rfl | exact Or.inr rfl) (@pe_op _ _ _ _ _ _ _ _ op_add (@pe_op _ _ _ _ _ _ _ _ op_mul pe_int (pv 2)) pe_int) (by first|rfl|decide|exact .inl rfl|exact .inr rfl|(intros; rfl)) (by first|rfl|decide|exact .inl rfl|exact .inr rfl|(intros; rfl))) (@pss_cons _ _ _ _ _ (@ps_if _ _ _ _ _ _ _ _ (@pt_cmpR _ _ _ _ _ _ _ _ op_gt (@pe_callB _ _ _ _ _ _ _ _ _ call_len_seq (by rfl) (by exact T.z_len) (by exact bt_len) (@pa_consN _ _ _ _ _ (@pe_dget _ _ _ _ _ _ (by exact hu) (pv 0) pe_str (by exact (fun _ _ => rfl))) pa_nil (by first|rfl|decide|exact .inl rfl|exact .inr rfl|(intros; rfl))) (by first|rfl|decide|exact .inl rfl|exact .inr rfl|(intros; rfl)) (by first|rfl|decide|exact .inl rfl|exact .inr rfl|(intros; rfl)) (by first|rfl|decide|exact .inl rfl|exact .inr rfl|(intros; rfl)) (by first|rfl|decide|exact .inl rfl|exact .inr rfl|(intros; rfl))) pe_int (by exact (nomark _))) (@pss_one _ _ _ (@ps_set _ _ (3) _ _ _ _ (by exact S.nd) (by rfl) (by first | exact Or.inl rfl | exact Or.inr rfl) (@pe_ix _ _ _ _ _ _ _ ix_list (@pe_dget _ _ _ _ _ _ (by exact hu) (pv 0) pe_str (by exact (fun _ _ => rfl))) (@pe_op _ _ _ _ _ _ _ _ op_mod (pv 2) (@pe_callB _ _ _ _ _ _ _ _ _ call_len_seq (by rfl) (by exact T.z_len) (by exact bt_len) (@pa_consN _ _ _ _ _ (@pe_dget _ _ _ _ _ _ (by exact hu) (pv 0) pe_str (by exact (fun _ _ => rfl))) pa_nil (by first|rfl|decide|exact .inl rfl|exact .inr rfl|(intros; rfl))) (by first|rfl|decide|exact .inl rfl|exact .inr rfl|(intros; rfl)) (by first|rfl|decide|exact .inl rfl|exact .inr rfl|(intros; rfl)) (by first|rfl|decide|exact .inl rfl|exact .inr rfl|(intros; rfl)) (by first|rfl|decide|exact .inl rfl|exact .inr rfl|(intros; rfl)))) (by exact (fun _ _ => rfl))) (by first|rfl|decide|exact .inl rfl|exact .inr rfl|(intros; rfl)) (by first|rfl|decide|exact .inl rfl|exact .inr rfl|(intros; rfl)))) pss_nil) (@pss_cons _ _ _ _ _ (@ps_if _ _ _ _ _ _ _ _ (@PW.pt _ _ _ (@pw_and _ _ _ _ _ _ _ (@pt_cmpR _ _ _ _ _ _ _ _ op_lt (pv 2) (@pe_callB _ _ _ _ _ _ _ _ _ call_len_seq (by rfl) (by exact T.z_len) (by exact bt_len) (@pa_consN _ _ _ _ _ (@pe_dget _ _ _ _ _ _ (by exact hu) (pv 0) pe_str (by exact (fun _ _ => rfl))) pa_nil (by first|rfl|decide|exact .inl rfl|exact .inr rfl|(intros; rfl))) (by first|rfl|decide|exact .inl rfl|exact .inr rfl|(intros; rfl)) (by first|rfl|decide|exact .inl rfl|exact .inr rfl|(intros; rfl)) (by first|rfl|decide|exact .inl rfl|exact .inr rfl|(intros; rfl)) (by first|rfl|decide|exact .inl rfl|exact .inr rfl|(intros; rfl))) (by exact (nomark _))) (@pw_and1 _ _ _ _ (@pt_cmpR _ _ _ _ _ _ _ _ op_ge (@pe_callB _ _ _ _ _ _ _ _ _ call_abs (by rfl) (by exact T.z_abs) (by exact bt_abs) (@pa_consN _ _ _ _ _ (pv 3) pa_nil (by first|rfl|decide|exact .inl rfl|exact .inr rfl|(intros; rfl))) (by first|rfl|decide|exact .inl rfl|exact .inr rfl|(intros; rfl)) (by first|rfl|decide|exact .inl rfl|exact .inr rfl|(intros; rfl)) (by first|rfl|decide|exact .inl rfl|exact .inr rfl|(intros; rfl)) (by first|rfl|decide|exact .inl rfl|exact .inr rfl|(intros; rfl))) (@pe_op _ _ _ _ _ _ _ _ op_pow pe_int pe_int) (by exact (nomark _)))))) (@pss_cons _ _ _ _ _ (@ps_dput _ _ _ _ _ _ _ _ _ (by exact hu) (pv 0) pe_str (@pe_op _ _ _ _ _ _ _ _ op_fdiv (@pe_callB _ _ _ _ _ _ _ _ _ call_abs (by rfl) (by exact T.z_abs) (by exact bt_abs) (@pa_consN _ _ _ _ _ (pv 3) pa_nil (by first|rfl|decide|exact .inl rfl|exact .inr rfl|(intros; rfl))) (by first|rfl|decide|exact .inl rfl|exact .inr rfl|(intros; rfl)) (by first|rfl|decide|exact .inl rfl|exact .inr rfl|(intros; rfl)) (by first|rfl|decide|exact .inl rfl|exact .inr rfl|(intros; rfl)) (by first|rfl|decide|exact .inl rfl|exact .inr rfl|(intros; rfl))) (pv 1)) (by rfl)) (@pss_one _ _ _ (@ps_ret _ _ _ _ (@pe_op _ _ _ _ _ _ _ _ op_mod (@pe_callB _ _ _ _ _ _ _ _ _ call_abs (by rfl) (by exact T.z_abs) (by exact bt_abs) (@pa_consN _ _ _ _ _ (pv 3) pa_nil (by first|rfl|decide|exact .inl rfl|exact .inr rfl|(intros; rfl))) (by first|rfl|decide|exact .inl rfl|exact .inr rfl|(intros; rfl)) (by first|rfl|decide|exact .inl rfl|exact .inr rfl|(intros; rfl)) (by first|rfl|decide|exact .inl rfl|exact .inr rfl|(intros; rfl)) (by first|rfl|decide|exact .inl rfl|exact .inr rfl|(intros; rfl))) (pv 1))))) pss_nil) (@pss_cons _ _ _ _ _ (@ps_set _ _ (4) _ _ _ _ (by exact S.nd) (by rfl) (by first | exact Or.inl rfl | exact Or.inr rfl) (@pe_ix _ _ _ _ _ _ _ ix_tup (@pe_tup _ _ _ _ _ (@pa_consN _ _ _ _ _ pe_int (@pa_consN _ _ _ _ _ pe_int (@pa_consN _ _ _ _ _ pe_int (@pa_consN _ _ _ _ _ pe_int (@pa_consN _ _ _ _ _ pe_int (@pa_consN _ _ _ _ _ pe_int (@pa_consN _ _ _ _ _ pe_int pa_nil (by first|rfl|decide|exact .inl rfl|exact .inr rfl|(intros; rfl))) (by first|rfl|decide|exact .inl rfl|exact .inr rfl|(intros; rfl))) (by first|rfl|decide|exact .inl rfl|exact .inr rfl|(intros; rfl))) (by first|rfl|decide|exact .inl rfl|exact .inr rfl|(intros; rfl))) (by first|rfl|decide|exact .inl rfl|exact .inr rfl|(intros; rfl))) (by first|rfl|decide|exact .inl rfl|exact .inr rfl|(intros; rfl))) (by first|rfl|decide|exact .inl rfl|exact .inr rfl|(intros; rfl)))) (@pe_op _ _ _ _ _ _ _ _ op_mod (pv 2) pe_int) (by exact (fun _ _ => rfl))) (by first|rfl|decide|exact .inl rfl|exact .inr rfl|(intros; rfl)) (by first|rfl|decide|exact .inl rfl|exact .inr rfl|(intros; rfl))) (@pss_cons _ _ _ _ _ (@ps_set _ _ (5) _ _ _ _ (by exact S.nd) (by rfl) (by first | exact Or.inl rfl | exact Or.inr rfl) (@pe_op _ _ _ _ _ _ _ _ op_mod (@pe_op _ _ _ _ _ _ _ _ op_pow (@pe_op _ _ _ _ _ _ _ _ op_add (@pe_op _ _ _ _ _ _ _ _ op_add (@pe_op _ _ _ _ _ _ _ _ op_add (@pe_op _ _ _ _ _ _ _ _ op_mod (pv 3) pe_int) (@pe_op _ _ _ _ _ _ _ _ op_mul (@pe_op _ _ _ _ _ _ _ _ op_mul pe_int (pv 2)) (pv 2))) (@pe_op _ _ _ _ _ _ _ _ op_mul pe_int (pv 2))) pe_int) pe_int) (pv 4)) (by first|rfl|decide|exact .inl rfl|exact .inr rfl|(intros; rfl)) (by first|rfl|decide|exact .inl rfl|exact .inr rfl|(intros; rfl))) (@pss_cons _ _ _ _ _ (@ps_set _ _ (5) _ _ _ _ (by exact S.nd) (by rfl) (by first | exact Or.inl rfl | exact Or.inr rfl) (@pe_op _ _ _ _ _ _ _ _ op_mod (@pe_op _ _ _ _ _ _ _ _ op_pow (@pe_op _ _ _ _ _ _ _ _ op_add (@pe_op _ _ _ _ _ _ _ _ op_add (pv 5) (@pe_op _ _ _ _ _ _ _ _ op_mul pe_int (pv 2))) pe_int) pe_int) pe_int) (by first|rfl|decide|exact .inl rfl|exact .inr rfl|(intros; rfl)) (by first|rfl|decide|exact .inl rfl|exact .inr rfl|(intros; rfl))) (@pss_one _ _ _ (@ps_ret _ _ _ _ (@pe_op _ _ _ _ _ _ _ _ op_mod (@pe_op _ _ _ _ _ _ _ _ op_fdiv (@pe_op _ _ _ _ _ _ _ _ op_mod (@pe_op _ _ _ _ _ _ _ _ op_mul (pv 5) pe_int) pe_int) pe_int) (pv 1))))))))))))), ?_⟩
  have gl := get_left hp
  refine ⟨_, rfl, p, _, rfl, gl, _, _, rfl, rfl, _, rfl, ?_⟩
  refine ite2 (fun _ => ?_) (fun _ => ?_)
  · refine ⟨_, rfl, p, _, rfl, gl, _, rfl, _, _, rfl, rfl, hm, ?_⟩
    refine ⟨_, rfl, p, _, rfl, gl, _, rfl, _, _, rfl, rfl, ⟨hm, hm2⟩, _, rfl, p, _, rfl, dput_left hp, ?_⟩
    refine ⟨_, rfl, ?_⟩
    exact k _ _ (Int.emod_nonneg _ (by omega)) (Int.emod_lt_of_pos _ hm) ⟨c, ns, a, _, upd_same, by rw [upd_ne hcp]; exact hc, ha0, by omega⟩ (SameX.upd hp)
  refine ⟨_, rfl, p, _, rfl, get_at hp, ?_⟩
  refine ⟨_, rfl, _, _, rfl, rfl, _, rfl, p, _, rfl, dput_at hp, ?_⟩
  have hp1 : (upd H p (.dK (penL c (a + 1) l))) p = some (.dK (penL c (a + 1) l)) := upd_same
  have hc1 : (upd H p (.dK (penL c (a + 1) l))) c = some (.lst (ns.map V.int)) := by rw [upd_ne hcp]; exact hc
  have x1 : SameX p H (upd H p (.dK (penL c (a + 1) l))) := SameX.upd hp
  have gc := get_cells hp1
  obtain ⟨pr, pr0, pr1, hpr⟩ := prime_at a
  obtain ⟨sq0, sq1⟩ := sq_bound ha0 (show a ≤ 100000 by omega)
  refine ⟨_, rfl, _, _, rfl, rfl, .inl ⟨by decide, by decide⟩, _, _, rfl, rfl, ?_⟩
  refine ⟨_, rfl, p, _, rfl, gc, c, _, rfl, .inl (SqL.of hc1), _, _, rfl, rfl, _, rfl, ?_⟩
  refine ite2 (fun c0 => ?_) (fun c0 => ?_)
  · have hl : 0 < ns.length := by
      have : (0 : Int) < (((ns.map V.int).length : Nat) : Int) := of_decide_eq_true c0
      rw [List.length_map] at this
      omega
    obtain ⟨z, hz⟩ := cell_at (ns := ns) a hl
    refine ⟨_, rfl, p, _, rfl, gc, _, rfl, _, rfl, p, _, rfl, gc, c, _, rfl, .inl (SqL.of hc1), _, _, rfl, rfl, (by rw [List.length_map]; omega), c, _, _, _, rfl, rfl, SqL.of hc1, hz, ?_⟩
    refine ⟨_, rfl, _, rfl, p, _, rfl, gc, c, _, rfl, .inl (SqL.of hc1), _, _, rfl, rfl, _, rfl, ?_⟩
    refine ite2 (fun c1 => ?_) (fun c1 => iteF ?_)
    · refine ⟨_, rfl, _, rfl, _, _, rfl, rfl, ⟨by decide, by decide, by decide⟩, _, _, rfl, rfl, _, rfl, ?_⟩
      refine ite2 (fun c2 => ?_) (fun c2 => ?_)
      · refine ⟨_, rfl, _, rfl, _, rfl, _, _, rfl, rfl, ⟨hm, hm2⟩, _, rfl, p, _, rfl, dput_left hp1, ?_⟩
        refine ⟨_, rfl, _, rfl, _, rfl, _, _, rfl, rfl, hm, ?_⟩
        exact k _ _ (Int.emod_nonneg _ (by omega)) (Int.emod_lt_of_pos _ hm) ⟨c, ns, a + 1, _, upd_same, by rw [upd_ne hcp]; exact hc1, by omega, by omega⟩ (x1.trans (SameX.upd hp1))
      · exact draw_tail hm pr0 pr1 hpr ha0 (show a ≤ 100000 by omega) sq0 sq1 fun r t ht hr0 hrm => k _ _ hr0 hrm ⟨c, ns, a + 1, l, (same_new ht _) _ _ hp1, (same_new ht _) _ _ hc1, by omega, by omega⟩ (x1.trans (Same.x (same_new ht _)))
    · exact draw_tail hm pr0 pr1 hpr ha0 (show a ≤ 100000 by omega) sq0 sq1 fun r t ht hr0 hrm => k _ _ hr0 hrm ⟨c, ns, a + 1, l, (same_new ht _) _ _ hp1, (same_new ht _) _ _ hc1, by omega, by omega⟩ (x1.trans (Same.x (same_new ht _)))
  · refine ⟨_, rfl, _, rfl, p, _, rfl, gc, c, _, rfl, .inl (SqL.of hc1), _, _, rfl, rfl, _, rfl, ?_⟩
    refine ite2 (fun c1 => ?_) (fun c1 => iteF ?_)
    · exfalso
      have e1 : ¬ (0 : Int) < (((ns.map V.int).length : Nat) : Int) := by simpa using c0
      have e2 : a < (((ns.map V.int).length : Nat) : Int) := of_decide_eq_true c1
      omega
    · exact draw_tail hm pr0 pr1 hpr ha0 (show a ≤ 100000 by omega) sq0 sq1 fun r t ht hr0 hrm => k _ _ hr0 hrm ⟨c, ns, a + 1, l, (same_new ht _) _ _ hp1, (same_new ht _) _ _ hc1, by omega, by omega⟩ (x1.trans (Same.x (same_new ht _)))

theorem ok_wholeV (T : Txt2 mg) (F : FunAt K mg "is_whole" ["thing"] s_is_whole) : Cal P w K mg base "is_whole" ["thing"] 1 spWholeV := by
  have S := sc_is_whole
  refine F.cal sc_is_whole (fun vs H Q E h => ?_) (fun f cdv A outer s H vs Q E hr h => ?_)
  · obtain ⟨a, d, rfl, _⟩ := h; rfl
  obtain ⟨a, d, rfl, hd, k⟩ := h
  refine ⟨_, (@pss_one _ _ _ (@ps_ret _ _ _ _ (@pe_and _ _ _ _ _ _ _ (@pe_callB _ _ _ _ _ _ _ _ _ call_isi (by rfl) (by exact T.z_isinstance) (by exact bt_isinstance) (@pa_consN _ _ _ _ _ (pv 0) (@pa_consN _ _ _ _ _ (@pe_bltn _ _ (.ty "int") _ _ (by rfl) (by exact T.z_int) (by exact bt_int) (by rfl) (by first|rfl|decide|exact .inl rfl|exact .inr rfl|(intros; rfl)) (by first|rfl|decide|exact .inl rfl|exact .inr rfl|(intros; rfl))) pa_nil (by first|rfl|decide|exact .inl rfl|exact .inr rfl|(intros; rfl))) (by first|rfl|decide|exact .inl rfl|exact .inr rfl|(intros; rfl))) (by first|rfl|decide|exact .inl rfl|exact .inr rfl|(intros; rfl)) (by first|rfl|decide|exact .inl rfl|exact .inr rfl|(intros; rfl)) (by first|rfl|decide|exact .inl rfl|exact .inr rfl|(intros; rfl)) (by first|rfl|decide|exact .inl rfl|exact .inr rfl|(intros; rfl))) (@pe_one _ _ _ _ _ (@pe_not _ _ _ _ (@pe_callB _ _ _ _ _ _ _ _ _ call_isi (by rfl) (by exact T.z_isinstance) (by exact bt_isinstance) (@pa_consN _ _ _ _ _ (pv 0) (@pa_consN _ _ _ _ _ (@pe_bltn _ _ (.ty "bool") _ _ (by rfl) (by exact T.z_bool) (by exact bt_bool) (by rfl) (by first|rfl|decide|exact .inl rfl|exact .inr rfl|(intros; rfl)) (by first|rfl|decide|exact .inl rfl|exact .inr rfl|(intros; rfl))) pa_nil (by first|rfl|decide|exact .inl rfl|exact .inr rfl|(intros; rfl))) (by first|rfl|decide|exact .inl rfl|exact .inr rfl|(intros; rfl))) (by first|rfl|decide|exact .inl rfl|exact .inr rfl|(intros; rfl)) (by first|rfl|decide|exact .inl rfl|exact .inr rfl|(intros; rfl)) (by first|rfl|decide|exact .inl rfl|exact .inr rfl|(intros; rfl)) (by first|rfl|decide|exact .inl rfl|exact .inr rfl|(intros; rfl)))))))), ?_⟩
  obtain ⟨t, ty, e1, e2, _, _⟩ := tyOf (K := K) hd
  refine ⟨_, rfl, _, _, _, _, rfl, ty, e1, _, rfl, ?_⟩
  cases d with
  | int i => exact iteT ⟨_, rfl, _, _, _, _, rfl, ty, e2, _, rfl, k⟩
  | bool b => exact iteT ⟨_, rfl, _, _, _, _, rfl, ty, e2, _, rfl, k⟩
  | _ => exact iteF k
theorem ok_lwholeV (T : Txt2 mg) (F : FunAt K mg "_law_is_whole" ["_law_thing"] s_l_is_whole) : Cal P w K mg base "_law_is_whole" ["_law_thing"] 1 spWholeV := by
  have S := sc_l_is_whole
  refine F.cal sc_l_is_whole (fun vs H Q E h => ?_) (fun f cdv A outer s H vs Q E hr h => ?_)
  · obtain ⟨a, d, rfl, _⟩ := h; rfl
  obtain ⟨a, d, rfl, hd, k⟩ := h
  refine ⟨_, (@pss_one _ _ _ (@ps_ret _ _ _ _ (@pe_and _ _ _ _ _ _ _ (@pe_callB _ _ _ _ _ _ _ _ _ call_isi (by rfl) (by exact T.z_isinstance) (by exact bt_isinstance) (@pa_consN _ _ _ _ _ (pv 0) (@pa_consN _ _ _ _ _ (@pe_bltn _ _ (.ty "int") _ _ (by rfl) (by exact T.z_int) (by exact bt_int) (by rfl) (by first|rfl|decide|exact .inl rfl|exact .inr rfl|(intros; rfl)) (by first|rfl|decide|exact .inl rfl|exact .inr rfl|(intros; rfl))) pa_nil (by first|rfl|decide|exact .inl rfl|exact .inr rfl|(intros; rfl))) (by first|rfl|decide|exact .inl rfl|exact .inr rfl|(intros; rfl))) (by first|rfl|decide|exact .inl rfl|exact .inr rfl|(intros; rfl)) (by first|rfl|decide|exact .inl rfl|exact .inr rfl|(intros; rfl)) (by first|rfl|decide|exact .inl rfl|exact .inr rfl|(intros; rfl)) (by first|rfl|decide|exact .inl rfl|exact .inr rfl|(intros; rfl))) (@pe_one _ _ _ _ _ (@pe_not _ _ _ _ (@pe_callB _ _ _ _ _ _ _ _ _ call_isi (by rfl) (by exact T.z_isinstance) (by exact bt_isinstance) (@pa_consN _ _ _ _ _ (pv 0) (@pa_consN _ _ _ _ _ (@pe_bltn _ _ (.ty "bool") _ _ (by rfl) (by exact T.z_bool) (by exact bt_bool) (by rfl) (by first|rfl|decide|exact .inl rfl|exact .inr rfl|(intros; rfl)) (by first|rfl|decide|exact .inl rfl|exact .inr rfl|(intros; rfl))) pa_nil (by first|rfl|decide|exact .inl rfl|exact .inr rfl|(intros; rfl))) (by first|rfl|decide|exact .inl rfl|exact .inr rfl|(intros; rfl))) (by first|rfl|decide|exact .inl rfl|exact .inr rfl|(intros; rfl)) (by first|rfl|decide|exact .inl rfl|exact .inr rfl|(intros; rfl)) (by first|rfl|decide|exact .inl rfl|exact .inr rfl|(intros; rfl)) (by first|rfl|decide|exact .inl rfl|exact .inr rfl|(intros; rfl)))))))), ?_⟩
  obtain ⟨t, ty, e1, e2, _, _⟩ := tyOf (K := K) hd
  refine ⟨_, rfl, _, _, _, _, rfl, ty, e1, _, rfl, ?_⟩
  cases d with
  | int i => exact iteT ⟨_, rfl, _, _, _, _, rfl, ty, e2, _, rfl, k⟩
  | bool b => exact iteT ⟨_, rfl, _, _, _, _, rfl, ty, e2, _, rfl, k⟩
  | _ => exact iteF k
theorem ok_heard {er : Errs} (T : Txt2 mg) (N : ErrN mg er) (F : FunAt K mg "_law_heard" ["_law_asked"] s_l_heard) : Cal P w K mg base "_law_heard" ["_law_asked"] 7 (spH P w K mg base 6 (hHeard K er)) := by
  have S := sc_l_heard
  refine F.cal sc_l_heard (fun vs H Q E h => ?_) (fun f cdv A outer s H vs Q E hr h => ?_)
  · obtain ⟨a, o, fd, sp0, rfl, _⟩ := h; rfl
  obtain ⟨a, o, fd, sp0, rfl, ha, hfd, cok, mono, hs⟩ := h
  refine ⟨_, (@pss_cons _ _ _ _ _ (@ps_set _ _ (1) _ _ _ _ (by exact S.nd) (by rfl) (by first | exact Or.inl rfl | exact Or.inr rfl) pe_non (by first|rfl|decide|exact .inl rfl|exact .inr rfl|(intros; rfl)) (by first|rfl|decide|exact .inl rfl|exact .inr rfl|(intros; rfl))) (@pss_cons _ _ _ _ _ (@ps_set _ _ (2) _ _ _ _ (by exact S.nd) (by rfl) (by first | exact Or.inl rfl | exact Or.inr rfl) pe_non (by first|rfl|decide|exact .inl rfl|exact .inr rfl|(intros; rfl)) (by first|rfl|decide|exact .inl rfl|exact .inr rfl|(intros; rfl))) (@pss_cons _ _ _ _ _ (@ps_tryAs _ _ _ _ _ _ _ _ _ _ (3) _ _ (by exact body_nox) (by exact S.nd) (by rfl) (by rfl) (by rfl) (by exact N.ball) (@psx_set _ (2) _ _ _ _ _ (by exact S.nd) (by rfl) (by first | exact Or.inl rfl | exact Or.inr rfl) (@pex_var0 _ (0) (6) _ _ _ (by exact (hr.mono (by decide))) (by rfl) (by first | exact Or.inl rfl | exact Or.inr rfl) (by first|rfl|decide|exact .inl rfl|exact .inr rfl|(intros; rfl)) (by first|rfl|decide|exact .inl rfl|exact .inr rfl|(intros; rfl))) (by first|rfl|decide|exact .inl rfl|exact .inr rfl|(intros; rfl)) (by first|rfl|decide|exact .inl rfl|exact .inr rfl|(intros; rfl))) (fun _ => (@pss_one _ _ _ (@ps_set _ _ (1) _ _ _ _ (by exact S.nd) (by rfl) (by first | exact Or.inl rfl | exact Or.inr rfl) (pv 3) (by first|rfl|decide|exact .inl rfl|exact .inr rfl|(intros; rfl)) (by first|rfl|decide|exact .inl rfl|exact .inr rfl|(intros; rfl))))) (by first|rfl|decide|exact .inl rfl|exact .inr rfl|(intros; rfl))) (@pss_cons _ _ _ _ _ (@ps_if _ _ _ _ _ _ _ _ (@pt_cmpR _ _ _ _ _ _ _ _ op_isN (pv 1) pe_non (by exact (nomark _))) (@pss_one _ _ _ (@ps_ret _ _ _ _ (@pe_lst _ _ _ _ (@pa_consN _ _ _ _ _ (pv 2) pa_nil (by first|rfl|decide|exact .inl rfl|exact .inr rfl|(intros; rfl)))))) pss_nil) (@pss_cons _ _ _ _ _ (@ps_set _ _ (4) _ _ _ _ (by exact S.nd) (by rfl) (by first | exact Or.inl rfl | exact Or.inr rfl) (@pe_lst _ _ _ _ (@pa_consN _ _ _ _ _ (@pe_callB _ _ _ _ _ _ _ _ _ call_isiE (by rfl) (by exact T.z_isinstance) (by exact bt_isinstance) (@pa_consN _ _ _ _ _ (pv 1) (@pa_consN _ _ _ _ _ (@pe_glob _ _ (.ref er.c0) _ _ (by rfl) (by exact N.m0) (by rfl) (by first|rfl|decide|exact .inl rfl|exact .inr rfl|(intros; rfl))) pa_nil (by first|rfl|decide|exact .inl rfl|exact .inr rfl|(intros; rfl))) (by first|rfl|decide|exact .inl rfl|exact .inr rfl|(intros; rfl))) (by first|rfl|decide|exact .inl rfl|exact .inr rfl|(intros; rfl)) (by first|rfl|decide|exact .inl rfl|exact .inr rfl|(intros; rfl)) (by first|rfl|decide|exact .inl rfl|exact .inr rfl|(intros; rfl)) (by first|rfl|decide|exact .inl rfl|exact .inr rfl|(intros; rfl))) (@pa_consN _ _ _ _ _ (@pe_callB _ _ _ _ _ _ _ _ _ call_isiE (by rfl) (by exact T.z_isinstance) (by exact bt_isinstance) (@pa_consN _ _ _ _ _ (pv 1) (@pa_consN _ _ _ _ _ (@pe_glob _ _ (.ref er.c1) _ _ (by rfl) (by exact N.m1) (by rfl) (by first|rfl|decide|exact .inl rfl|exact .inr rfl|(intros; rfl))) pa_nil (by first|rfl|decide|exact .inl rfl|exact .inr rfl|(intros; rfl))) (by first|rfl|decide|exact .inl rfl|exact .inr rfl|(intros; rfl))) (by first|rfl|decide|exact .inl rfl|exact .inr rfl|(intros; rfl)) (by first|rfl|decide|exact .inl rfl|exact .inr rfl|(intros; rfl)) (by first|rfl|decide|exact .inl rfl|exact .inr rfl|(intros; rfl)) (by first|rfl|decide|exact .inl rfl|exact .inr rfl|(intros; rfl))) (@pa_consN _ _ _ _ _ (@pe_callB _ _ _ _ _ _ _ _ _ call_isiE (by rfl) (by exact T.z_isinstance) (by exact bt_isinstance) (@pa_consN _ _ _ _ _ (pv 1) (@pa_consN _ _ _ _ _ (@pe_glob _ _ (.ref er.c2) _ _ (by rfl) (by exact N.m2) (by rfl) (by first|rfl|decide|exact .inl rfl|exact .inr rfl|(intros; rfl))) pa_nil (by first|rfl|decide|exact .inl rfl|exact .inr rfl|(intros; rfl))) (by first|rfl|decide|exact .inl rfl|exact .inr rfl|(intros; rfl))) (by first|rfl|decide|exact .inl rfl|exact .inr rfl|(intros; rfl)) (by first|rfl|decide|exact .inl rfl|exact .inr rfl|(intros; rfl)) (by first|rfl|decide|exact .inl rfl|exact .inr rfl|(intros; rfl)) (by first|rfl|decide|exact .inl rfl|exact .inr rfl|(intros; rfl))) pa_nil (by first|rfl|decide|exact .inl rfl|exact .inr rfl|(intros; rfl))) (by first|rfl|decide|exact .inl rfl|exact .inr rfl|(intros; rfl))) (by first|rfl|decide|exact .inl rfl|exact .inr rfl|(intros; rfl)))) (by first|rfl|decide|exact .inl rfl|exact .inr rfl|(intros; rfl)) (by first|rfl|decide|exact .inl rfl|exact .inr rfl|(intros; rfl))) (@pss_cons _ _ _ _ _ (@ps_set _ _ (4) _ _ _ _ (by exact S.nd) (by rfl) (by first | exact Or.inl rfl | exact Or.inr rfl) (@pe_op _ _ _ _ _ _ _ _ op_cat (pv 4) (@pe_lst _ _ _ _ (@pa_consN _ _ _ _ _ (@pe_callB _ _ _ _ _ _ _ _ _ call_isiE (by rfl) (by exact T.z_isinstance) (by exact bt_isinstance) (@pa_consN _ _ _ _ _ (pv 1) (@pa_consN _ _ _ _ _ (@pe_glob _ _ (.ref er.c3) _ _ (by rfl) (by exact N.m3) (by rfl) (by first|rfl|decide|exact .inl rfl|exact .inr rfl|(intros; rfl))) pa_nil (by first|rfl|decide|exact .inl rfl|exact .inr rfl|(intros; rfl))) (by first|rfl|decide|exact .inl rfl|exact .inr rfl|(intros; rfl))) (by first|rfl|decide|exact .inl rfl|exact .inr rfl|(intros; rfl)) (by first|rfl|decide|exact .inl rfl|exact .inr rfl|(intros; rfl)) (by first|rfl|decide|exact .inl rfl|exact .inr rfl|(intros; rfl)) (by first|rfl|decide|exact .inl rfl|exact .inr rfl|(intros; rfl))) (@pa_consN _ _ _ _ _ (@pe_callB _ _ _ _ _ _ _ _ _ call_isiE (by rfl) (by exact T.z_isinstance) (by exact bt_isinstance) (@pa_consN _ _ _ _ _ (pv 1) (@pa_consN _ _ _ _ _ (@pe_glob _ _ (.ref er.c4) _ _ (by rfl) (by exact N.m4) (by rfl) (by first|rfl|decide|exact .inl rfl|exact .inr rfl|(intros; rfl))) pa_nil (by first|rfl|decide|exact .inl rfl|exact .inr rfl|(intros; rfl))) (by first|rfl|decide|exact .inl rfl|exact .inr rfl|(intros; rfl))) (by first|rfl|decide|exact .inl rfl|exact .inr rfl|(intros; rfl)) (by first|rfl|decide|exact .inl rfl|exact .inr rfl|(intros; rfl)) (by first|rfl|decide|exact .inl rfl|exact .inr rfl|(intros; rfl)) (by first|rfl|decide|exact .inl rfl|exact .inr rfl|(intros; rfl))) (@pa_consN _ _ _ _ _ (@pe_callB _ _ _ _ _ _ _ _ _ call_isiE (by rfl) (by exact T.z_isinstance) (by exact bt_isinstance) (@pa_consN _ _ _ _ _ (pv 1) (@pa_consN _ _ _ _ _ (@pe_glob _ _ (.ref er.c5) _ _ (by rfl) (by exact N.m5) (by rfl) (by first|rfl|decide|exact .inl rfl|exact .inr rfl|(intros; rfl))) pa_nil (by first|rfl|decide|exact .inl rfl|exact .inr rfl|(intros; rfl))) (by first|rfl|decide|exact .inl rfl|exact .inr rfl|(intros; rfl))) (by first|rfl|decide|exact .inl rfl|exact .inr rfl|(intros; rfl)) (by first|rfl|decide|exact .inl rfl|exact .inr rfl|(intros; rfl)) (by first|rfl|decide|exact .inl rfl|exact .inr rfl|(intros; rfl)) (by first|rfl|decide|exact .inl rfl|exact .inr rfl|(intros; rfl))) pa_nil (by first|rfl|decide|exact .inl rfl|exact .inr rfl|(intros; rfl))) (by first|rfl|decide|exact .inl rfl|exact .inr rfl|(intros; rfl))) (by first|rfl|decide|exact .inl rfl|exact .inr rfl|(intros; rfl))))) (by first|rfl|decide|exact .inl rfl|exact .inr rfl|(intros; rfl)) (by first|rfl|decide|exact .inl rfl|exact .inr rfl|(intros; rfl))) (@pss_cons _ _ _ _ _ (@ps_set _ _ (4) _ _ _ _ (by exact S.nd) (by rfl) (by first | exact Or.inl rfl | exact Or.inr rfl) (@pe_op _ _ _ _ _ _ _ _ op_cat (pv 4) (@pe_lst _ _ _ _ (@pa_consN _ _ _ _ _ (@pe_callB _ _ _ _ _ _ _ _ _ call_isiE (by rfl) (by exact T.z_isinstance) (by exact bt_isinstance) (@pa_consN _ _ _ _ _ (pv 1) (@pa_consN _ _ _ _ _ (@pe_glob _ _ (.ref er.c6) _ _ (by rfl) (by exact N.m6) (by rfl) (by first|rfl|decide|exact .inl rfl|exact .inr rfl|(intros; rfl))) pa_nil (by first|rfl|decide|exact .inl rfl|exact .inr rfl|(intros; rfl))) (by first|rfl|decide|exact .inl rfl|exact .inr rfl|(intros; rfl))) (by first|rfl|decide|exact .inl rfl|exact .inr rfl|(intros; rfl)) (by first|rfl|decide|exact .inl rfl|exact .inr rfl|(intros; rfl)) (by first|rfl|decide|exact .inl rfl|exact .inr rfl|(intros; rfl)) (by first|rfl|decide|exact .inl rfl|exact .inr rfl|(intros; rfl))) (@pa_consN _ _ _ _ _ (@pe_callB _ _ _ _ _ _ _ _ _ call_isiE (by rfl) (by exact T.z_isinstance) (by exact bt_isinstance) (@pa_consN _ _ _ _ _ (pv 1) (@pa_consN _ _ _ _ _ (@pe_glob _ _ (.ref er.c7) _ _ (by rfl) (by exact N.m7) (by rfl) (by first|rfl|decide|exact .inl rfl|exact .inr rfl|(intros; rfl))) pa_nil (by first|rfl|decide|exact .inl rfl|exact .inr rfl|(intros; rfl))) (by first|rfl|decide|exact .inl rfl|exact .inr rfl|(intros; rfl))) (by first|rfl|decide|exact .inl rfl|exact .inr rfl|(intros; rfl)) (by first|rfl|decide|exact .inl rfl|exact .inr rfl|(intros; rfl)) (by first|rfl|decide|exact .inl rfl|exact .inr rfl|(intros; rfl)) (by first|rfl|decide|exact .inl rfl|exact .inr rfl|(intros; rfl))) (@pa_consN _ _ _ _ _ (@pe_callB _ _ _ _ _ _ _ _ _ call_isiE (by rfl) (by exact T.z_isinstance) (by exact bt_isinstance) (@pa_consN _ _ _ _ _ (pv 1) (@pa_consN _ _ _ _ _ (@pe_glob _ _ (.ref er.c8) _ _ (by rfl) (by exact N.m8) (by rfl) (by first|rfl|decide|exact .inl rfl|exact .inr rfl|(intros; rfl))) pa_nil (by first|rfl|decide|exact .inl rfl|exact .inr rfl|(intros; rfl))) (by first|rfl|decide|exact .inl rfl|exact .inr rfl|(intros; rfl))) (by first|rfl|decide|exact .inl rfl|exact .inr rfl|(intros; rfl)) (by first|rfl|decide|exact .inl rfl|exact .inr rfl|(intros; rfl)) (by first|rfl|decide|exact .inl rfl|exact .inr rfl|(intros; rfl)) (by first|rfl|decide|exact .inl rfl|exact .inr rfl|(intros; rfl))) pa_nil (by first|rfl|decide|exact .inl rfl|exact .inr rfl|(intros; rfl))) (by first|rfl|decide|exact .inl rfl|exact .inr rfl|(intros; rfl))) (by first|rfl|decide|exact .inl rfl|exact .inr rfl|(intros; rfl))))) (by first|rfl|decide|exact .inl rfl|exact .inr rfl|(intros; rfl)) (by first|rfl|decide|exact .inl rfl|exact .inr rfl|(intros; rfl))) (@pss_cons _ _ _ _ _ (@ps_if _ _ _ _ _ _ _ _ (@PW.pt _ _ _ (@pw_or _ _ _ _ _ _ _ (@pt_cmpR _ _ _ _ _ _ _ _ op_ne (@pe_bm _ _ _ _ _ _ _ _ _ _ _ _ (by exact PySem.F.plainAttrs_list) (by exact PySem.F.slot_list_count) (by exact PySem.F.type_list_count) mt_count (pv 4) (@pa_consN _ _ _ _ _ pe_bl pa_nil (by first|rfl|decide|exact .inl rfl|exact .inr rfl|(intros; rfl))) (by first|rfl|decide|exact .inl rfl|exact .inr rfl|(intros; rfl)) (by first|rfl|decide|exact .inl rfl|exact .inr rfl|(intros; rfl)) (by first|rfl|decide|exact .inl rfl|exact .inr rfl|(intros; rfl)) (by first|rfl|decide|exact .inl rfl|exact .inr rfl|(intros; rfl)) (by first|rfl|decide|exact .inl rfl|exact .inr rfl|(intros; rfl))) pe_int (by exact (nomark _))) (@pw_or1 _ _ _ _ (@pt_not _ _ _ _ (@pt_val _ _ _ (@pe_callB _ _ _ _ _ _ _ _ _ call_isiE (by rfl) (by exact T.z_isinstance) (by exact bt_isinstance) (@pa_consN _ _ _ _ _ (pv 1) (@pa_consN _ _ _ _ _ (@pe_bltn _ _ (.ty "ValueError") _ _ (by rfl) (by exact T.z_ValueError) (by exact bt_ValueError) (by rfl) (by first|rfl|decide|exact .inl rfl|exact .inr rfl|(intros; rfl)) (by first|rfl|decide|exact .inl rfl|exact .inr rfl|(intros; rfl))) pa_nil (by first|rfl|decide|exact .inl rfl|exact .inr rfl|(intros; rfl))) (by first|rfl|decide|exact .inl rfl|exact .inr rfl|(intros; rfl))) (by first|rfl|decide|exact .inl rfl|exact .inr rfl|(intros; rfl)) (by first|rfl|decide|exact .inl rfl|exact .inr rfl|(intros; rfl)) (by first|rfl|decide|exact .inl rfl|exact .inr rfl|(intros; rfl)) (by first|rfl|decide|exact .inl rfl|exact .inr rfl|(intros; rfl))) (by first|rfl|decide|exact .inl rfl|exact .inr rfl|(intros; rfl))))))) (@pss_one _ _ _ (@ps_ret _ _ _ _ pe_str)) pss_nil) (@pss_one _ _ _ (@ps_ret _ _ _ _ (@pe_ix _ _ _ _ _ _ _ ix_list (@pe_lst _ _ _ _ (@pa_consN _ _ _ _ _ pe_str (@pa_consN _ _ _ _ _ pe_str (@pa_consN _ _ _ _ _ pe_str (@pa_consN _ _ _ _ _ pe_str (@pa_consN _ _ _ _ _ pe_str (@pa_consN _ _ _ _ _ pe_str (@pa_consN _ _ _ _ _ pe_str (@pa_consN _ _ _ _ _ pe_str (@pa_consN _ _ _ _ _ pe_str pa_nil (by first|rfl|decide|exact .inl rfl|exact .inr rfl|(intros; rfl))) (by first|rfl|decide|exact .inl rfl|exact .inr rfl|(intros; rfl))) (by first|rfl|decide|exact .inl rfl|exact .inr rfl|(intros; rfl))) (by first|rfl|decide|exact .inl rfl|exact .inr rfl|(intros; rfl))) (by first|rfl|decide|exact .inl rfl|exact .inr rfl|(intros; rfl))) (by first|rfl|decide|exact .inl rfl|exact .inr rfl|(intros; rfl))) (by first|rfl|decide|exact .inl rfl|exact .inr rfl|(intros; rfl))) (by first|rfl|decide|exact .inl rfl|exact .inr rfl|(intros; rfl))) (by first|rfl|decide|exact .inl rfl|exact .inr rfl|(intros; rfl)))) (@pe_bm _ _ _ _ _ _ _ _ _ _ _ _ (by exact PySem.F.plainAttrs_list) (by exact PySem.F.slot_list_index) (by exact PySem.F.type_list_index) mt_index (pv 4) (@pa_consN _ _ _ _ _ pe_bl pa_nil (by first|rfl|decide|exact .inl rfl|exact .inr rfl|(intros; rfl))) (by first|rfl|decide|exact .inl rfl|exact .inr rfl|(intros; rfl)) (by first|rfl|decide|exact .inl rfl|exact .inr rfl|(intros; rfl)) (by first|rfl|decide|exact .inl rfl|exact .inr rfl|(intros; rfl)) (by first|rfl|decide|exact .inl rfl|exact .inr rfl|(intros; rfl)) (by first|rfl|decide|exact .inl rfl|exact .inr rfl|(intros; rfl))) (by exact (fun _ _ => rfl))))))))))))), ?_⟩
  refine ⟨a, o, fd, sp0, rfl, ha, hfd, cok, mono _ _ _ _ _ (fun v H1 k => ?_) (fun c d H1 k => ?_) hs⟩
  · refine ⟨_, rfl, rfl, _, rfl, iteT ?_⟩
    exact ⟨_, rfl, (by show 1 ≤ sizeLine; decide), fun p hp => k p hp⟩
  · obtain ⟨C, i, rfl, z, k⟩ := k
    refine ⟨C, rfl, z.ball, fun p hp => ?_⟩
    have he : (upd H1 p (excO p C)) p = some (excO p C) := upd_same
    refine ⟨_, rfl, ?_⟩
    refine ⟨_, rfl, rfl, _, rfl, iteF ?_⟩
    have s0 : Same H1 (upd H1 p (excO p C)) := same_new hp _
    generalize upd H1 p (excO p C) = H2 at he s0
    refine ⟨_, rfl, p, C, _, _, _, rfl, rfl, he, z.ek, z.i0, _, rfl, p, C, _, _, _, rfl, rfl, he, z.ek, z.i1, _, rfl, p, C, _, _, _, rfl, rfl, he, z.ek, z.i2, (by show 3 ≤ sizeLine; decide), fun l1 hl1 => ?_⟩
    have h1 : (upd H2 l1 (.lst [.bl (decide (i = 0)), .bl (decide (i = 1)), .bl (decide (i = 2))])) l1 = _ := upd_same
    have s1 := s0.trans (same_new hl1 (.lst [.bl (decide (i = 0)), .bl (decide (i = 1)), .bl (decide (i = 2))]))
    have he1 := same_new hl1 (.lst [.bl (decide (i = 0)), .bl (decide (i = 1)), .bl (decide (i = 2))]) _ _ he
    generalize upd H2 l1 (.lst [.bl (decide (i = 0)), .bl (decide (i = 1)), .bl (decide (i = 2))]) = H3 at h1 s1 he1
    refine ⟨_, rfl, _, rfl, p, C, _, _, _, rfl, rfl, he1, z.ek, z.i3, _, rfl, p, C, _, _, _, rfl, rfl, he1, z.ek, z.i4, _, rfl, p, C, _, _, _, rfl, rfl, he1, z.ek, z.i5, (by show 3 ≤ sizeLine; decide), fun l2 hl2 => ?_⟩
    have s2 := same_new hl2 (.lst [.bl (decide (i = 3)), .bl (decide (i = 4)), .bl (decide (i = 5))])
    refine ⟨l1, l2, _, _, rfl, rfl, s2 _ _ h1, upd_same, (by show 6 ≤ sizeLine; decide), fun l3 hl3 => ?_⟩
    have s3 := same_new hl3 (.lst ([.bl (decide (i = 0)), .bl (decide (i = 1)), .bl (decide (i = 2))] ++ [.bl (decide (i = 3)), .bl (decide (i = 4)), .bl (decide (i = 5))]))
    have h3 : (upd (upd H3 l2 (.lst [.bl (decide (i = 3)), .bl (decide (i = 4)), .bl (decide (i = 5))])) l3 (.lst ([.bl (decide (i = 0)), .bl (decide (i = 1)), .bl (decide (i = 2))] ++ [.bl (decide (i = 3)), .bl (decide (i = 4)), .bl (decide (i = 5))]))) l3 = _ := upd_same
    have s13 := s1.trans (s2.trans s3)
    have he3 := s3 _ _ (s2 _ _ he1)
    generalize upd (upd H3 l2 (.lst [.bl (decide (i = 3)), .bl (decide (i = 4)), .bl (decide (i = 5))])) l3 (.lst ([.bl (decide (i = 0)), .bl (decide (i = 1)), .bl (decide (i = 2))] ++ [.bl (decide (i = 3)), .bl (decide (i = 4)), .bl (decide (i = 5))])) = H5 at h3 s13 he3
    refine ⟨_, rfl, _, rfl, p, C, _, _, _, rfl, rfl, he3, z.ek, z.i6, _, rfl, p, C, _, _, _, rfl, rfl, he3, z.ek, z.i7, _, rfl, p, C, _, _, _, rfl, rfl, he3, z.ek, z.i8, (by show 3 ≤ sizeLine; decide), fun l4 hl4 => ?_⟩
    have s4 := same_new hl4 (.lst [.bl (decide (i = 6)), .bl (decide (i = 7)), .bl (decide (i = 8))])
    refine ⟨l3, l4, _, _, rfl, rfl, s4 _ _ h3, upd_same, (by show 9 ≤ sizeLine; decide), fun l5 hl5 => ?_⟩
    have s5 := same_new hl5 (.lst (nineB i))
    have h5 : (upd (upd H5 l4 (.lst [.bl (decide (i = 6)), .bl (decide (i = 7)), .bl (decide (i = 8))])) l5 (.lst (nineB i))) l5 = some (.lst (nineB i)) := upd_same
    have s15 := s13.trans (s4.trans s5)
    have he5 := s5 _ _ (s4 _ _ he3)
    refine ⟨_, rfl, .inl ⟨rfl, _, SqL.of h5⟩, l5, _, _, rfl, rfl, h5, rfl, rfl, rfl, _, rfl, iteNS (by rw [show ((nineB i).countP fun z => eqV z (.bl true)) = 1 from nine_count i z.lt]; rfl) ?_⟩
    refine ⟨_, rfl, p, C, _, _, _, rfl, rfl, he5, z.ek, z.ve, _, rfl, iteF ?_⟩
    refine ⟨(by show 9 ≤ sizeLine; decide), fun l6 hl6 => ?_⟩
    have s6 := same_new hl6 (.lst [.str "share", .str "ball", .str "unlike", .str "fuller", .str "many", .str "back", .str "name", .str "text", .str "row"])
    refine ⟨_, rfl, .inl ⟨rfl, _, SqL.of (s6 _ _ h5)⟩, l5, _, _, i, rfl, rfl, s6 _ _ h5, rfl, rfl, z.lt, nine_at i z.lt, nine_ahead i z.lt, l6, _, _, _, rfl, rfl, SqL.of upd_same, nine_word i z.lt, ?_⟩
    exact k _ (s15.trans s6)

end
end My

set_option Elab.async false
set_option linter.all false
set_option maxRecDepth 100000
set_option maxHeartbeats 4000000
namespace My
open PySem L2 MA
/-- the emptiest box of a draw, the first of those -/
noncomputable def emF (ns ds : List Int) : Int := (ds.find? fun b => ds.all fun c => decide (ns.getD b.toNat 0 ≤ ns.getD c.toNat 0)).getD 0
theorem emF_of {ns ds : List Int} {i : Nat} (hi : i < ds.length) (h : ∀ j (hj : j < ds.length), ns.getD ds[i].toNat 0 ≤ ns.getD ds[j].toNat 0 ∧ (j < i → ns.getD ds[i].toNat 0 < ns.getD ds[j].toNat 0)) : emF ns ds = ds[i] := by
  have e : (ds.find? fun b => ds.all fun c => decide (ns.getD b.toNat 0 ≤ ns.getD c.toNat 0)) = some ds[i] := by
    rw [List.find?_eq_some_iff_getElem]
    refine ⟨?_, i, hi, rfl, fun j hj => ?_⟩
    · rw [List.all_eq_true]
      intro c hc
      obtain ⟨j, hj, rfl⟩ := List.mem_iff_getElem.mp hc
      exact decide_eq_true (h j hj).1
    · have lt := (h j (by omega)).2 hj
      rw [Bool.not_eq_true', ← Bool.not_eq_true, List.all_eq_true]
      intro z
      have := of_decide_eq_true (z ds[i] (List.getElem_mem hi))
      omega
  unfold emF
  rw [e]
  rfl
/-- .. and it is one of the draw, and least -/
theorem emF_mem {ns ds : List Int} (h : ds ≠ []) : ∃ (i : Nat) (hi : i < ds.length), emF ns ds = ds[i] ∧ ∀ j (hj : j < ds.length), ns.getD ds[i].toNat 0 ≤ ns.getD ds[j].toNat 0 ∧ (j < i → ns.getD ds[i].toNat 0 < ns.getD ds[j].toNat 0) := by
  have key : ∀ (n : Nat), 0 < n → n ≤ ds.length → ∃ (i : Nat) (hi : i < ds.length), i < n ∧ ∀ j (hj : j < ds.length), j < n → ns.getD ds[i].toNat 0 ≤ ns.getD ds[j].toNat 0 ∧ (j < i → ns.getD ds[i].toNat 0 < ns.getD ds[j].toNat 0) := by
    intro n
    induction n with
    | zero => intro z; omega
    | succ n ih =>
      intro _ hn
      cases n with
      | zero => exact ⟨0, by omega, by omega, fun j hj hj1 => by obtain rfl : j = 0 := by omega
                                                                 exact ⟨Int.le_refl _, fun z => by omega⟩⟩
      | succ n =>
        obtain ⟨i, hi, hin, hb⟩ := ih (by omega) (by omega)
        by_cases c : ns.getD ds[n + 1].toNat 0 < ns.getD ds[i].toNat 0
        · refine ⟨n + 1, by omega, by omega, fun j hj hj1 => ?_⟩
          by_cases e : j = n + 1
          · subst e; exact ⟨Int.le_refl _, fun z => by omega⟩
          · have := (hb j hj (by omega)).1
            exact ⟨by omega, fun _ => by omega⟩
        · refine ⟨i, hi, by omega, fun j hj hj1 => ?_⟩
          by_cases e : j = n + 1
          · subst e; exact ⟨by omega, fun z => by omega⟩
          · exact hb j hj (by omega)
  have hp : 0 < ds.length := List.length_pos_iff.mpr h
  obtain ⟨i, hi, _, hb⟩ := key ds.length hp (Nat.le_refl _)
  exact ⟨i, hi, emF_of hi fun j hj => hb j hj hj, fun j hj => hb j hj hj⟩
noncomputable def inc (ns : List Int) (b : Int) : List Int := ns.set b.toNat (ns.getD b.toNat 0 + 1)
section
variable {P : Program} {w : World} {K : PySem.W.Frag} {mg : Str → Option Value} {base : Heap}
noncomputable def spEm (T : Addr) (q : Str) : Sp := fun vs H Q _ => ∃ (l t : Addr) (ns ds : List Int), vs = [.ref l, .ref t] ∧ H l = some (.lst (iv ns)) ∧ H t = some (.tup (iv ds)) ∧ ds ≠ [] ∧ (∀ b ∈ ds, 0 ≤ b ∧ b < ns.length) ∧ H T = some (.tab q) ∧ ∀ H', Same H H' → Q (.int (emF ns ds)) H'
theorem ok_em {c D : Addr} (T : Txt2 mg) (kb : K.In base) (L : LamFor mg base "emptiest_of" c D) (F : FunAt K mg "emptiest_of" ["numbers", "draw"] s_emptiest_of) : Cal P w K mg base "emptiest_of" ["numbers", "draw"] 3 (spEm D (qLam "emptiest_of")) := by
  have S := sc_emptiest_of
  have LB := L.lb
  refine F.calL kb L sc_emptiest_of (fun vs H Q E h => ?_) (fun f A outer s H vs Q E hr h => ?_)
  · obtain ⟨l, t, ns, ds, rfl, _⟩ := h; rfl
  obtain ⟨l, t, ns, ds, rfl, hl, ht, hne, hin, hT, k⟩ := h
  refine ⟨_, (@pss_one _ _ _ (@ps_ret _ _ _ _ (@pe_minKey _ false (0) (0) _ _ _ (Str.ofString "box") _ _ _ _ _ _ _ _ _ _ _ _ (by exact (hr.mono (by decide))) (by rfl) (by exact LB) (by rfl) (by rfl) (by exact (fun _ => rfl)) (by rfl) (by rfl) (by rfl) (by rfl) (by decide +kernel) (by rfl) (by exact hfr_of rfl) (by exact Sees.frees [] [("numbers", 0)] (fr_cons ⟨rfl, rfl⟩ fr_nil)) (by exact (fun _ _ _ _ _ => rfl)) (by rfl) (by exact T.z_min) (@pa_consN _ _ _ _ _ (pv 1) pa_nil (by first|rfl|decide|exact .inl rfl|exact .inr rfl|(intros; rfl))) (fun _ _ _ _ _ _ _ _ hrl => (@pe_ix _ _ _ _ _ _ _ ix_list0 (pv 1) (pv 0) (by exact (fun _ _ => rfl)))) (by first|rfl|decide|exact .inl rfl|exact .inr rfl|(intros; rfl)) (by first|rfl|decide|exact .inl rfl|exact .inr rfl|(intros; rfl))))), ?_⟩
  refine ⟨_, rfl, t, iv ds, rfl, SqB.t ht, by simpa using hne, hT, fun H2 s2 => ⟨fun i => ns.getD (ds.getD i 0).toNat 0, fun i v hv => ?_, fun i v hv hb => ?_⟩⟩
  · obtain ⟨b, hb, rfl⟩ := iv_at hv
    obtain ⟨hi, e⟩ := List.getElem?_eq_some_iff.mp hb
    have hr := hin b (List.mem_of_getElem? hb)
    have hlt : b.toNat < ns.length := by omega
    refine ⟨_, rfl, _, rfl, l, iv ns, b, .int (ns.getD b.toNat 0), rfl, rfl, s2 _ _ hl, ?_, ?_, rfl⟩
    · rw [show b = (b.toNat : Int) by omega]
      exact iv_atI hlt
    · dsimp only
      rw [getD_of hi, e]
  · obtain ⟨b, hb', rfl⟩ := iv_at hv
    obtain ⟨hi, e⟩ := List.getElem?_eq_some_iff.mp hb'
    have := k H2 s2
    rw [emF_of (ns := ns) hi fun j hj => ?_, e] at this
    · exact this
    · have hh := hb j (by simpa using hj)
      dsimp only at hh
      rw [getD_of hi, getD_of hj] at hh
      exact hh
end
end My

set_option Elab.async false
set_option linter.all false
set_option maxRecDepth 100000
set_option maxHeartbeats 4000000
namespace My
open PySem L2 MA
/-! ### a room -/
noncomputable def flds (l d : Addr) (nb : Int) (q : Addr) : List (Str × V) := [("numbers", .ref l), ("places", .ref d), ("next_ball", .int nb), ("deeds", .ref q)]
theorem n12 : ¬ (("numbers" : Str) = "places") := by decide +kernel
theorem n13 : ¬ (("numbers" : Str) = "next_ball") := by decide +kernel
theorem n14 : ¬ (("numbers" : Str) = "deeds") := by decide +kernel
theorem n23 : ¬ (("places" : Str) = "next_ball") := by decide +kernel
theorem n24 : ¬ (("places" : Str) = "deeds") := by decide +kernel
theorem n34 : ¬ (("next_ball" : Str) = "deeds") := by decide +kernel
theorem flds_mk (l d : Addr) (nb : Int) (q : Addr) : putF "deeds" (.ref q) (putF "next_ball" (.int nb) (putF "places" (.ref d) (putF "numbers" (.ref l) []))) = flds l d nb q := by
  simp only [putF, if_neg n12, if_neg n13, if_neg n14, if_neg n23, if_neg n24, if_neg n34]
  rfl
theorem flds_put (l d : Addr) (nb y : Int) (q : Addr) : putF "next_ball" (.int y) (flds l d nb q) = flds l d y q := by
  unfold flds
  simp only [putF, if_neg n13, if_neg n23, if_true]
theorem flds_num (l d : Addr) (nb : Int) (q : Addr) : (flds l d nb q).lookup ("numbers" : Str) = some (.ref l) := rfl
theorem flds_plc (l d : Addr) (nb : Int) (q : Addr) : (flds l d nb q).lookup ("places" : Str) = some (.ref d) := by rw [← flds_mk, lookup_putF, if_neg n24, lookup_putF, if_neg n23, lookup_putF, if_pos rfl]
theorem flds_nxt (l d : Addr) (nb : Int) (q : Addr) : (flds l d nb q).lookup ("next_ball" : Str) = some (.int nb) := by rw [← flds_mk, lookup_putF, if_neg n34, lookup_putF, if_pos rfl]
theorem flds_ded (l d : Addr) (nb : Int) (q : Addr) : (flds l d nb q).lookup ("deeds" : Str) = some (.ref q) := by rw [← flds_mk, lookup_putF, if_pos rfl]
theorem flds_no (l d : Addr) (nb : Int) (q : Addr) {m : Str} (h1 : ¬ m = "numbers") (h2 : ¬ m = "places") (h3 : ¬ m = "next_ball") (h4 : ¬ m = "deeds") : (flds l d nb q).lookup m = none := by
  rw [← flds_mk, lookup_putF, if_neg h4, lookup_putF, if_neg h3, lookup_putF, if_neg h2, lookup_putF, if_neg h1]
  rfl
structure RoomAt (C : Addr) (H : Hp) (p l d q : Addr) (ns : List Int) (kvs : List (Key × V)) (nb : Int) (dv : List V) : Prop where
  ob : ∃ dx, H p = some (.ins C dx (flds l d nb q))
  nm : H l = some (.lst (iv ns))
  pl : H d = some (.dK kvs)
  de : H q = some (.lst dv)
  lq : l ≠ q
noncomputable def dec (ns : List Int) (b : Int) : List Int := ns.set b.toNat (ns.getD b.toNat 0 - 1)
theorem inc_len (ns : List Int) (b : Int) : (inc ns b).length = ns.length := by simp [inc]
theorem dec_len (ns : List Int) (b : Int) : (dec ns b).length = ns.length := by simp [dec]
theorem set_back {ns : List Int} {i : Nat} {x y : Int} (h : i < ns.length) (e : (ns.set i x).getD i 0 + y = ns.getD i 0) : (ns.set i x).set i ((ns.set i x).getD i 0 + y) = ns := by
  rw [e, List.set_set, getD_of h]
  exact List.set_getElem_self h
theorem getD_set {ns : List Int} {i : Nat} {x : Int} (h : i < ns.length) : (ns.set i x).getD i 0 = x := by
  rw [getD_of (by rw [List.length_set]; exact h), List.getElem_set_self]
theorem dec_inc {ns : List Int} {b : Int} (h : b.toNat < ns.length) : dec (inc ns b) b = ns := by
  unfold dec inc
  rw [Int.sub_eq_add_neg]
  exact set_back h (by rw [getD_set h]; omega)
theorem inc_dec {ns : List Int} {b : Int} (h : b.toNat < ns.length) : inc (dec ns b) b = ns := by
  unfold dec inc
  exact set_back h (by rw [getD_set h]; omega)
theorem valV_drop (k j : Key) : ∀ kvs : List (Key × V), valV (dropK kvs k) j = if j = k then none else valV kvs j
  | [] => by rw [show dropK ([] : List (Key × V)) k = [] from rfl, valV_nil]; split <;> rfl
  | p :: r => by
    by_cases e : p.1 = k
    · rw [dropK_pos e, valV_drop k j r]
      by_cases ej : j = k
      · rw [if_pos ej, if_pos ej]
      · rw [if_neg ej, if_neg ej, valV_neg (by rw [e]; exact fun z => ej z.symm)]
    · rw [dropK_neg e]
      by_cases ep : p.1 = j
      · rw [valV_pos ep, valV_pos ep, if_neg (by rw [← ep]; exact e)]
      · rw [valV_neg ep, valV_neg ep, valV_drop k j r]
section
variable {P : Program} {w : World} {K : PySem.W.Frag} {mg : Str → Option Value} {base : Heap}
structure RmT (K : PySem.W.Frag) (mg : Str → Option Value) (C : Addr) : Prop where
  ca : CAt K mg "Room" C
  n1 : NoAttr K C "numbers"
  n2 : NoAttr K C "places"
  n3 : NoAttr K C "next_ball"
  n4 : NoAttr K C "deeds"
noncomputable def spInit (C : Addr) : Sp := fun vs H Q _ => ∃ (p dx : Addr) (n : Int), vs = [.ref p, .int n] ∧ H p = some (.ins C dx []) ∧ 1 ≤ n ∧ n ≤ 6 ∧ ∀ (l d q : Addr) (H' : Hp), H l = none → H d = none → H q = none → RoomAt C H' p l d q (List.replicate n.toNat 0) [] 0 [] → (∀ b o, H b = some o → b ≠ p → H' b = some o) → Q .non H'
theorem rep1' (x : Int) : ∀ k : Nat, (List.replicate k [V.int x]).flatten = iv (List.replicate k x)
  | 0 => rfl
  | k + 1 => by rw [List.replicate_succ, List.flatten_cons, rep1' x k, List.replicate_succ]; rfl
theorem ok_init {C : Addr} (R : RmT K mg C) (F : MFun K C "__init__" "Room.__init__" ["self", "n"] s_Room____init__) : MCal P w K mg base C "__init__" ["self", "n"] 1 (spInit C) := by
  have S := sc_Room____init__
  refine F.cal sc_Room____init__ (fun vs H Q E h => ?_) (fun f cdv A outer s H vs Q E hr h => ?_)
  · obtain ⟨p, dx, n, rfl, _⟩ := h; rfl
  obtain ⟨p, dx, n, rfl, hp, n1, n6, k⟩ := h
  refine ⟨_, (@pss_cons _ _ _ _ _ (@ps_fld _ _ _ _ _ _ _ _ (pv 0) (@pe_op _ _ _ _ _ _ _ _ op_rep (@pe_lst _ _ _ _ (@pa_consN _ _ _ _ _ pe_int pa_nil (by first|rfl|decide|exact .inl rfl|exact .inr rfl|(intros; rfl)))) (pv 1)) (by rfl)) (@pss_cons _ _ _ _ _ (@ps_fld _ _ _ _ _ _ _ _ (pv 0) pe_dnewK (by rfl)) (@pss_cons _ _ _ _ _ (@ps_fld _ _ _ _ _ _ _ _ (pv 0) pe_int (by rfl)) (@pss_one _ _ _ (@ps_fld _ _ _ _ _ _ _ _ (pv 0) (@pe_lst _ _ _ _ pa_nil) (by rfl)))))), ?_⟩
  refine ⟨lz 1 rfl, fun a1 ha1 => ⟨_, rfl, a1, n, _, rfl, rfl, upd_same, by omega, by omega, (by rw [sizeLine_eq]; simp; omega), fun l hl => ?_⟩⟩
  rw [rep1']
  have s1 := (same_new ha1 (.lst [.int 0])).trans (same_new hl (.lst (iv (List.replicate n.toNat 0))))
  have e1 := upd_same (H := upd H a1 (.lst [.int 0])) (a := l) (o := .lst (iv (List.replicate n.toNat 0)))
  have hl0 : H l = none := by
    cases e : H l with
    | none => rfl
    | some o => rw [same_new ha1 _ _ _ e] at hl; cases hl
  generalize upd (upd H a1 (.lst [.int 0])) l (.lst (iv (List.replicate n.toNat 0))) = H1 at s1 e1
  have npl : p ≠ l := ne_of_none hp hl0
  refine ⟨_, rfl, p, C, dx, [], rfl, s1 _ _ hp, R.ca.cl, R.n1, (by show 0 < 1000; decide), ?_⟩
  have keep0 : ∀ b o, H b = some o → b ≠ p → (upd H1 p (.ins C dx (putF "numbers" (.ref l) []))) b = some o := fun b o e hb => by rw [upd_ne hb]; exact s1 _ _ e
  have f2 : (upd H1 p (.ins C dx (putF "numbers" (.ref l) []))) p = some (.ins C dx (putF "numbers" (.ref l) [])) := upd_same
  have g2 : (upd H1 p (.ins C dx (putF "numbers" (.ref l) []))) l = some (.lst (iv (List.replicate n.toNat 0))) := by rw [upd_ne (Ne.symm npl)]; exact e1
  generalize upd H1 p (.ins C dx (putF "numbers" (.ref l) [])) = H2 at keep0 f2 g2
  intro d hd
  have npd : p ≠ d := ne_of_none f2 hd
  have nld : l ≠ d := ne_of_none g2 hd
  refine ⟨_, rfl, p, C, dx, _, rfl, (by rw [upd_ne npd]; exact f2), R.ca.cl, R.n2, (by show 1 < 1000; decide), ?_⟩
  refine ⟨_, rfl, p, C, dx, _, rfl, upd_same, R.ca.cl, R.n3, (by show 2 < 1000; decide), ?_⟩
  rw [upd_upd]
  have fr : ∀ b o, H b = some o → H2 b = some o ∨ b = p := fun b o e => by
    by_cases hb : b = p
    · exact .inr hb
    · exact .inl (keep0 b o e hb)
  have hd0 : H d = none := by
    cases e : H d with
    | none => rfl
    | some o =>
      rcases fr d o e with z | z
      · rw [z] at hd; cases hd
      · exact absurd z.symm npd
  have f3 := upd_same (H := upd H2 d (.dK [])) (a := p) (o := .ins C dx (putF "next_ball" (.int 0) (putF "places" (.ref d) (putF "numbers" (.ref l) []))))
  have g3 : (upd (upd H2 d (.dK [])) p (.ins C dx (putF "next_ball" (.int 0) (putF "places" (.ref d) (putF "numbers" (.ref l) []))))) l = some (.lst (iv (List.replicate n.toNat 0))) := by rw [upd_ne (Ne.symm npl), upd_ne nld]; exact g2
  have d3 : (upd (upd H2 d (.dK [])) p (.ins C dx (putF "next_ball" (.int 0) (putF "places" (.ref d) (putF "numbers" (.ref l) []))))) d = some (.dK []) := by rw [upd_ne (Ne.symm npd), upd_same]
  have keep3 : ∀ b o, H b = some o → b ≠ p → (upd (upd H2 d (.dK [])) p (.ins C dx (putF "next_ball" (.int 0) (putF "places" (.ref d) (putF "numbers" (.ref l) []))))) b = some o := fun b o e hb => by rw [upd_ne hb, upd_ne (ne_of_none e hd0)]; exact keep0 b o e hb
  generalize upd (upd H2 d (.dK [])) p (.ins C dx (putF "next_ball" (.int 0) (putF "places" (.ref d) (putF "numbers" (.ref l) [])))) = H3 at f3 g3 d3 keep3
  refine ⟨lz 0 rfl, fun q hq => ?_⟩
  have npq : p ≠ q := ne_of_none f3 hq
  refine ⟨_, rfl, p, C, dx, _, rfl, (by rw [upd_ne npq]; exact f3), R.ca.cl, R.n4, (by show 3 < 1000; decide), ?_⟩
  have hq0 : H q = none := by
    cases e : H q with
    | none => rfl
    | some o => rw [keep3 q o e (Ne.symm npq)] at hq; cases hq
  rw [flds_mk]
  refine k l d q _ hl0 hd0 hq0 ⟨⟨dx, upd_same⟩, ?_, ?_, ?_, ne_of_none g3 hq⟩ fun b o e hb => ?_
  · rw [upd_ne (Ne.symm npl), upd_ne (ne_of_none g3 hq)]; exact g3
  · rw [upd_ne (Ne.symm npd), upd_ne (ne_of_none d3 hq)]; exact d3
  · rw [upd_ne (Ne.symm npq), upd_same]
  · rw [upd_ne hb, upd_ne (ne_of_none e hq0)]; exact keep3 b o e hb
/-! lay, lift: the dict, then the numbers -/
noncomputable def spLay (C : Addr) : Sp := fun vs H Q _ => ∃ (p l d q : Addr) (ns : List Int) (kvs : List (Key × V)) (nb : Int) (dv : List V) (b bx : Int), vs = [.ref p, .int b, .int bx] ∧ RoomAt C H p l d q ns kvs nb dv ∧ kvs.length ≤ 1000 ∧ 0 ≤ bx ∧ bx < ns.length ∧
  Q .non (upd (upd H d (.dK (putK kvs (Sum.inl b) (.int bx)))) l (.lst (iv (inc ns bx))))
theorem ok_lay {C : Addr} (R : RmT K mg C) (F : MFun K C "lay" "Room.lay" ["self", "ball", "box"] s_Room__lay) : MCal P w K mg base C "lay" ["self", "ball", "box"] 1 (spLay C) := by
  have S := sc_Room__lay
  refine F.cal sc_Room__lay (fun vs H Q E h => ?_) (fun f cdv A outer s H vs Q E hr h => ?_)
  · obtain ⟨p, l, d, q, ns, kvs, nb, dv, b, bx, rfl, _⟩ := h; rfl
  obtain ⟨p, l, d, q, ns, kvs, nb, dv, b, bx, rfl, A, hk, b0, b1, k⟩ := h
  obtain ⟨⟨dx, h1⟩, hl, hd, hq, lq⟩ := A
  have hu1 := hu_of hr
  have npd : p ≠ d := ne_of h1 hd (by intro z; cases z)
  have nld : l ≠ d := ne_of hl hd (by intro z; cases z)
  refine ⟨_, (@pss_cons _ _ _ _ _ (@ps_dput _ _ _ _ _ _ _ _ _ (by exact hu1) (@pe_fld _ _ _ _ _ (pv 0) (by rfl)) (pv 1) (pv 2) (by rfl)) (@pss_one _ _ _ (@ps_augS _ _ _ _ _ _ _ _ _ _ _ _ _ (@pe_fld _ _ _ _ _ (pv 0) (by rfl)) (pv 2) get_list pe_int ip_add set_list (by first|rfl|decide|exact .inl rfl|exact .inr rfl|(intros; rfl))))), ?_⟩
  obtain ⟨B, rfl⟩ : ∃ B : Nat, bx = (B : Int) := ⟨bx.toNat, by omega⟩
  have hB : B < ns.length := by omega
  refine ⟨_, rfl, _, rfl, p, C, dx, _, _, rfl, h1, R.ca.cl, R.n2, flds_plc _ _ _ _, _, rfl, d, _, rfl, DPut.k (k := Sum.inl b) hd (by rw [sizeLine_eq]; omega), ?_⟩
  have h1' : ∀ o, (upd H d o) p = some (.ins C dx (flds l d nb q)) := fun o => by rw [upd_ne npd]; exact h1
  have hl' : ∀ o, (upd H d o) l = some (.lst (iv ns)) := fun o => by rw [upd_ne nld]; exact hl
  refine ⟨_, rfl, p, C, dx, _, _, rfl, h1' _, R.ca.cl, R.n1, flds_num _ _ _ _, _, rfl, l, _, (B : Int), _, rfl, rfl, by omega, hl' _, iv_atI hB, _, 1, rfl, rfl, l, _, (B : Int), B, rfl, rfl, hl' _, ixN_nat (by simpa using hB), ?_⟩
  rw [iv_set]
  exact k
noncomputable def spLift (C : Addr) : Sp := fun vs H Q _ => ∃ (p l d q : Addr) (ns : List Int) (kvs : List (Key × V)) (nb : Int) (dv : List V) (b bx : Int) (v : V), vs = [.ref p, .int b, .int bx] ∧ RoomAt C H p l d q ns kvs nb dv ∧ valV kvs (Sum.inl b) = some v ∧ 0 ≤ bx ∧ bx < ns.length ∧
  Q .non (upd (upd H d (.dK (dropK kvs (Sum.inl b)))) l (.lst (iv (dec ns bx))))
theorem ok_lift {C : Addr} (R : RmT K mg C) (F : MFun K C "lift" "Room.lift" ["self", "ball", "box"] s_Room__lift) : MCal P w K mg base C "lift" ["self", "ball", "box"] 1 (spLift C) := by
  have S := sc_Room__lift
  refine F.cal sc_Room__lift (fun vs H Q E h => ?_) (fun f cdv A outer s H vs Q E hr h => ?_)
  · obtain ⟨p, l, d, q, ns, kvs, nb, dv, b, bx, v, rfl, _⟩ := h; rfl
  obtain ⟨p, l, d, q, ns, kvs, nb, dv, b, bx, v, rfl, A, hv, b0, b1, k⟩ := h
  obtain ⟨⟨dx, h1⟩, hl, hd, hq, lq⟩ := A
  have npd : p ≠ d := ne_of h1 hd (by intro z; cases z)
  have nld : l ≠ d := ne_of hl hd (by intro z; cases z)
  refine ⟨_, (@pss_cons _ _ _ _ _ (@ps_expr _ _ _ _ (@pe_dpop1 _ _ _ _ _ _ _ (@pe_fld _ _ _ _ _ (pv 0) (by rfl)) (pv 1) (by exact ⟨rfl, rfl, rfl, rfl⟩)) (by first|rfl|decide|exact .inl rfl|exact .inr rfl|(intros; rfl))) (@pss_one _ _ _ (@ps_augS _ _ _ _ _ _ _ _ _ _ _ _ _ (@pe_fld _ _ _ _ _ (pv 0) (by rfl)) (pv 2) get_list pe_int ip_sub set_list (by first|rfl|decide|exact .inl rfl|exact .inr rfl|(intros; rfl))))), ?_⟩
  obtain ⟨B, rfl⟩ : ∃ B : Nat, bx = (B : Int) := ⟨bx.toNat, by omega⟩
  have hB : B < ns.length := by omega
  refine ⟨_, rfl, p, C, dx, _, _, rfl, h1, R.ca.cl, R.n2, flds_plc _ _ _ _, d, rfl, .inl ⟨_, .inl hd⟩, _, rfl, kvs, Sum.inl b, v, hd, rfl, hv, ?_⟩
  have h1' : ∀ o, (upd H d o) p = some (.ins C dx (flds l d nb q)) := fun o => by rw [upd_ne npd]; exact h1
  have hl' : ∀ o, (upd H d o) l = some (.lst (iv ns)) := fun o => by rw [upd_ne nld]; exact hl
  refine ⟨_, rfl, p, C, dx, _, _, rfl, h1' _, R.ca.cl, R.n1, flds_num _ _ _ _, _, rfl, l, _, (B : Int), _, rfl, rfl, by omega, hl' _, iv_atI hB, _, 1, rfl, rfl, l, _, (B : Int), B, rfl, rfl, hl' _, ixN_nat (by simpa using hB), ?_⟩
  rw [iv_set]
  exact k
/-- what stands at a thing in a dict of balls -/
noncomputable def look (kvs : List (Key × V)) : V → Option V
  | .int b => valV kvs (Sum.inl b)
  | _ => none
theorem isI_int {H : Hp} {x : V} {dd : PyData} (h : DataV H x dd) (e : isI dd = true) : ∃ b, x = .int b := by
  cases h <;> first | exact ⟨_, rfl⟩ | (simp [isI] at e)
theorem isI_of {H : Hp} {b : Int} {dd : PyData} (h : DataV H (.int b) dd) : isI dd = true := by
  cases h; rfl
noncomputable def spWhere1 (C c1 : Addr) : Sp := fun vs H Q E => ∃ (p l d q : Addr) (ns : List Int) (kvs : List (Key × V)) (nb : Int) (dv : List V) (x : V) (dd : PyData), vs = [.ref p, x] ∧ RoomAt C H p l d q ns kvs nb dv ∧ DataV H x dd ∧ (look kvs x = none → E (.ref c1) none H) ∧ ∀ v, look kvs x = some v → Q v H
theorem ok_where1 {C : Addr} {er : Errs} (R : RmT K mg C) (N : ErrN mg er) (z1 : PySem.W.excIn K er.c1 bmVE "ValueError.__new__" = true) (C_is_whole : Cal P w K mg base "is_whole" ["thing"] 1 spWholeV) (F : MFun K C "where" "Room.where" ["self", "ball"] s_Room__where) : MCal1 P w K mg base C "where" ["self", "ball"] 2 (spWhere1 C er.c1) := by
  have S := sc_Room__where
  refine F.cal1 sc_Room__where (fun vs H Q E h => ?_) (fun f cdv A outer s H vs Q E hr h => ?_)
  · obtain ⟨p, l, d, q, ns, kvs, nb, dv, x, dd, rfl, _⟩ := h; rfl
  obtain ⟨p, l, d, q, ns, kvs, nb, dv, x, dd, rfl, A, hx, hE, k⟩ := h
  obtain ⟨⟨dx, h1⟩, hl, hd, hq, lq⟩ := A
  have hu1 := hu_of hr
  refine ⟨_, (@pss_cons _ _ _ _ _ (@ps_if _ _ _ _ _ _ _ _ (@PW.pt _ _ _ (@pw_or _ _ _ _ _ _ _ (@pt_not _ _ _ _ (@pt_val _ _ _ (@cc _ _ _ _ _ _ _ _ _ _ (by exact C_is_whole) (by exact (hr.mono (by decide))) (@pa_consN _ _ _ _ _ (pv 1) pa_nil (by first|rfl|decide|exact .inl rfl|exact .inr rfl|(intros; rfl))) (by first|rfl|decide|exact .inl rfl|exact .inr rfl|(intros; rfl)) (by first|rfl|decide|exact .inl rfl|exact .inr rfl|(intros; rfl)) (by first|rfl|decide|exact .inl rfl|exact .inr rfl|(intros; rfl)) (by first|rfl|decide|exact .inl rfl|exact .inr rfl|(intros; rfl))) (by first|rfl|decide|exact .inl rfl|exact .inr rfl|(intros; rfl)))) (@pw_or1 _ _ _ _ (@pt_cmp _ _ _ _ _ _ (@pc_dnotin _ _ _ _ _ (by exact hu1) (pv 1) (@pe_fld _ _ _ _ _ (pv 0) (by rfl))) (by first|rfl|decide|exact .inl rfl|exact .inr rfl|(intros; rfl)))))) (@pss_one _ _ _ (@ps_raise _ _ _ _ _ _ _ _ _ _ (by exact raises1) (by rfl) (by exact z1) (by rfl) (by exact N.m1) (@pa_consN _ _ _ _ _ pe_str pa_nil (by first|rfl|decide|exact .inl rfl|exact .inr rfl|(intros; rfl))) (by first|rfl|decide|exact .inl rfl|exact .inr rfl|(intros; rfl)) (by first|rfl|decide|exact .inl rfl|exact .inr rfl|(intros; rfl)) (by first|rfl|decide|exact .inl rfl|exact .inr rfl|(intros; rfl)))) pss_nil) (@pss_one _ _ _ (@ps_ret _ _ _ _ (@pe_dget _ _ _ _ _ _ (by exact hu1) (@pe_fld _ _ _ _ _ (pv 0) (by rfl)) (pv 1) (by exact (fun _ _ => rfl)))))), ?_⟩
  refine ⟨_, rfl, x, dd, rfl, hx, _, rfl, ?_⟩
  cases e : isI dd with
  | false =>
    have ln : look kvs x = none := by
      cases x with
      | int b => rw [isI_of hx] at e; cases e
      | _ => rfl
    exact iteT ⟨(by show 1 ≤ sizeLine; decide), hE ln⟩
  | true =>
    obtain ⟨b, rfl⟩ := isI_int hx e
    refine iteF ?_
    have dg := DGet.k (k := Sum.inl b) hd
    refine ⟨_, rfl, _, rfl, p, C, dx, _, _, rfl, h1, R.ca.cl, R.n2, flds_plc _ _ _ _, d, _, rfl, dg, _, rfl, ?_⟩
    cases hv : valV kvs (Sum.inl b : Key) with
    | none => exact iteT ⟨(by show 1 ≤ sizeLine; decide), hE hv⟩
    | some v =>
      refine iteF ?_
      rw [hv] at dg
      exact ⟨_, rfl, p, C, dx, _, _, rfl, h1, R.ca.cl, R.n2, flds_plc _ _ _ _, _, rfl, d, _, rfl, dg, k v hv⟩
end
end My

set_option Elab.async false
set_option linter.all false
set_option maxRecDepth 100000
set_option maxHeartbeats 4000000
namespace My
open PySem L2 MA
/-- a deed: put or left, the ball, the box -/
noncomputable abbrev Deed := Bool × Int × Int
noncomputable def dword (b : Bool) : Str := if b then "put" else "leave"
/-- the deeds, the last one first -/
inductive Deeds (H : Hp) : List V → List Deed → Prop
  | nil : Deeds H [] []
  | snoc {dv : List V} {ds : List Deed} {t : Addr} {x : Deed} : H t = some (.tup [.str (dword x.1), .int x.2.1, .int x.2.2]) → Deeds H dv ds → Deeds H (dv ++ [.ref t]) (x :: ds)
theorem Deeds.mono {H H' : Hp} (s : ∀ a xs, H a = some (.tup xs) → H' a = some (.tup xs)) {dv : List V} {ds : List Deed} (h : Deeds H dv ds) : Deeds H' dv ds := by
  induction h with
  | nil => exact .nil
  | snoc e _ ih => exact .snoc (s _ _ e) ih
theorem Deeds.len {H : Hp} {dv : List V} {ds : List Deed} (h : Deeds H dv ds) : dv.length = ds.length := by
  induction h with
  | nil => rfl
  | snoc e _ ih => simp [ih]
noncomputable def updf (f : Int → Option Int) (b : Int) (x : Option Int) : Int → Option Int := fun j => if j = b then x else f j
/-- what the deeds have made: the numbers, where each ball lies, how many -/
inductive Hist (n : Nat) : List Deed → List Int → (Int → Option Int) → Nat → Prop
  | nil : Hist n [] (List.replicate n 0) (fun _ => none) 0
  | put {ds : List Deed} {ns : List Int} {pl : Int → Option Int} {sz : Nat} {b bx : Int} : Hist n ds ns pl sz → pl b = none → 0 ≤ bx → bx < n → Hist n ((true, b, bx) :: ds) (inc ns bx) (updf pl b (some bx)) (sz + 1)
  | leave {ds : List Deed} {ns : List Int} {pl : Int → Option Int} {sz : Nat} {b bx : Int} : Hist n ds ns pl (sz + 1) → pl b = some bx → Hist n ((false, b, bx) :: ds) (dec ns bx) (updf pl b none) sz
theorem Hist.len {n : Nat} {ds : List Deed} {ns : List Int} {pl : Int → Option Int} {sz : Nat} (h : Hist n ds ns pl sz) : ns.length = n := by
  induction h with
  | nil => simp
  | put _ _ _ _ ih => rw [inc_len]; exact ih
  | leave _ _ ih => rw [dec_len]; exact ih
theorem Hist.rng {n : Nat} {ds : List Deed} {ns : List Int} {pl : Int → Option Int} {sz : Nat} (h : Hist n ds ns pl sz) : ∀ b bx, pl b = some bx → 0 ≤ bx ∧ bx < n := by
  induction h with
  | nil => intro b bx e; cases e
  | put _ _ h0 h1 ih =>
    intro b bx e
    unfold updf at e
    split at e
    · cases e; exact ⟨h0, h1⟩
    · exact ih b bx e
  | leave _ _ ih =>
    intro b bx e
    unfold updf at e
    split at e
    · cases e
    · exact ih b bx e
theorem Hist.mem {n : Nat} {ds : List Deed} {ns : List Int} {pl : Int → Option Int} {sz : Nat} (h : Hist n ds ns pl sz) : ∀ b, pl b ≠ none → ∃ x ∈ ds, x.2.1 = b := by
  induction h with
  | nil => intro b e; exact absurd rfl e
  | @put ds ns pl sz b0 bx _ _ _ _ ih =>
    intro b e
    by_cases z : b = b0
    · exact ⟨_, List.mem_cons_self, z.symm⟩
    · unfold updf at e
      rw [if_neg z] at e
      obtain ⟨x, hx, ex⟩ := ih b e
      exact ⟨x, List.mem_cons_of_mem _ hx, ex⟩
  | @leave ds ns pl sz b0 bx _ _ ih =>
    intro b e
    unfold updf at e
    by_cases z : b = b0
    · rw [if_pos z] at e; exact absurd rfl e
    · rw [if_neg z] at e
      obtain ⟨x, hx, ex⟩ := ih b e
      exact ⟨x, List.mem_cons_of_mem _ hx, ex⟩
theorem Hist.det {n : Nat} {ds : List Deed} {ns : List Int} {pl : Int → Option Int} {sz : Nat} (h : Hist n ds ns pl sz) : ∀ {ns' : List Int} {pl' : Int → Option Int} {sz' : Nat}, Hist n ds ns' pl' sz' → ns = ns' ∧ pl = pl' ∧ sz = sz' := by
  induction h with
  | nil => intro _ _ _ g; cases g; exact ⟨rfl, rfl, rfl⟩
  | put _ _ _ _ ih =>
    intro _ _ _ g
    cases g with
    | put g' _ _ _ =>
      obtain ⟨rfl, rfl, rfl⟩ := ih g'
      exact ⟨rfl, rfl, rfl⟩
  | leave _ _ ih =>
    intro _ _ _ g
    cases g with
    | leave g' _ =>
      obtain ⟨rfl, rfl, e⟩ := ih g'
      exact ⟨rfl, rfl, by omega⟩
/-- a room, as its deeds have made it -/
structure RoomIs (C : Addr) (n : Nat) (H : Hp) (p l d q : Addr) (ds : List Deed) (ns : List Int) (pl : Int → Option Int) (sz : Nat) (nb : Int) : Prop where
  ex : ∃ kvs dv, RoomAt C H p l d q ns kvs nb dv ∧ Deeds H dv ds ∧ kvs.length = sz ∧ (kvs.map (·.1)).Nodup ∧ ∀ b : Int, valV kvs (Sum.inl b) = (pl b).map V.int
  hs : Hist n ds ns pl sz
  lo : ∀ x ∈ ds, x.2.1 < nb
/-- all but the room -/
noncomputable def SR (p l d q : Addr) (H H' : Hp) : Prop := ∀ b o, H b = some o → b ≠ p → b ≠ l → b ≠ d → b ≠ q → H' b = some o
theorem SR.trans {p l d q : Addr} {H H1 H2 : Hp} (a : SR p l d q H H1) (b : SR p l d q H1 H2) : SR p l d q H H2 := fun c o e h1 h2 h3 h4 => b c o (a c o e h1 h2 h3 h4) h1 h2 h3 h4
theorem SR.of {p l d q : Addr} {H H1 : Hp} (s : Same H H1) : SR p l d q H H1 := fun c o e _ _ _ _ => s _ _ e
theorem RoomIs.same {C : Addr} {n : Nat} {H H' : Hp} {p l d q : Addr} {ds : List Deed} {ns : List Int} {pl : Int → Option Int} {sz : Nat} {nb : Int} (R : RoomIs C n H p l d q ds ns pl sz nb) (s : Same H H') : RoomIs C n H' p l d q ds ns pl sz nb := by
  obtain ⟨⟨kvs, dv, ⟨⟨dx, h1⟩, h2, h3, h4, h5⟩, D, r⟩, hs, lo⟩ := R
  exact ⟨⟨kvs, dv, ⟨⟨dx, s _ _ h1⟩, s _ _ h2, s _ _ h3, s _ _ h4, h5⟩, D.mono fun a xs e => s _ _ e, r⟩, hs, lo⟩
theorem RoomIs.tup {C : Addr} {n : Nat} {H H' : Hp} {p l d q : Addr} {ds : List Deed} {ns : List Int} {pl : Int → Option Int} {sz : Nat} {nb : Int} (R : RoomIs C n H p l d q ds ns pl sz nb) (s : SR p l d q H H') {t : Addr} {xs : List V} (e : H t = some (.tup xs)) : H' t = some (.tup xs) := by
  obtain ⟨⟨kvs, dv, ⟨⟨dx, h1⟩, h2, h3, h4, h5⟩, _⟩, _⟩ := R
  exact s t _ e (ne_of e h1 (by intro z; cases z)) (ne_of e h2 (by intro z; cases z)) (ne_of e h3 (by intro z; cases z)) (ne_of e h4 (by intro z; cases z))
theorem val_put {kvs : List (Key × V)} {pl : Int → Option Int} (h : ∀ b : Int, valV kvs (Sum.inl b) = (pl b).map V.int) (b bx : Int) : ∀ j : Int, valV (putK kvs (Sum.inl b) (.int bx)) (Sum.inl j) = (updf pl b (some bx) j).map V.int := fun j => by
  rw [valV_put]
  unfold updf
  by_cases e : j = b
  · subst e; rw [if_pos rfl, if_pos rfl]; rfl
  · rw [if_neg (fun z => e (Sum.inl.inj z)), if_neg e]; exact h j
theorem val_drop {kvs : List (Key × V)} {pl : Int → Option Int} (h : ∀ b : Int, valV kvs (Sum.inl b) = (pl b).map V.int) (b : Int) : ∀ j : Int, valV (dropK kvs (Sum.inl b)) (Sum.inl j) = (updf pl b none j).map V.int := fun j => by
  rw [valV_drop]
  unfold updf
  by_cases e : j = b
  · subst e; rw [if_pos rfl, if_pos rfl]; rfl
  · rw [if_neg (fun z => e (Sum.inl.inj z)), if_neg e]; exact h j
theorem updf_back {pl : Int → Option Int} {b : Int} {x y : Option Int} (h : pl b = y) : updf (updf pl b x) b y = pl := by
  funext j
  unfold updf
  by_cases e : j = b
  · rw [if_pos e, e, h]
  · rw [if_neg e, if_neg e]
section
variable {P : Program} {w : World} {K : PySem.W.Frag} {mg : Str → Option Value} {base : Heap}
noncomputable def spPut1 (C c4 T : Addr) (z : Str) : Sp := fun vs H Q E => ∃ (p l d q t : Addr) (n : Nat) (ds : List Deed) (ns : List Int) (pl : Int → Option Int) (sz : Nat) (nb : Int) (dr : List Int), vs = [.ref p, .ref t] ∧ RoomIs C n H p l d q ds ns pl sz nb ∧ H t = some (.tup (iv dr)) ∧ dr ≠ [] ∧ (∀ b ∈ dr, 0 ≤ b ∧ b < n) ∧ sz ≤ 60 ∧ ds.length ≤ 1000 ∧ H T = some (.tab z) ∧ (sz = 60 → E (.ref c4) none H) ∧
  (sz < 60 → ∀ (r : Addr) (H' : Hp), RoomIs C n H' p l d q ((true, nb, emF ns dr) :: ds) (inc ns (emF ns dr)) (updf pl nb (some (emF ns dr))) (sz + 1) (nb + 1) → H' r = some (.tup [.int nb, .int (emF ns dr)]) → SR p l d q H H' → Q (.ref r) H')
theorem ok_put1 {C D : Addr} {er : Errs} (R : RmT K mg C) (N : ErrN mg er) (z4 : PySem.W.excIn K er.c4 bmVE "ValueError.__new__" = true) (T : Txt2 mg) {u60 : Value} (gm : mg "MOST_IN_ROOM" = some u60) (g60 : RelV (.int 60) u60) (C_emptiest_of : Cal P w K mg base "emptiest_of" ["numbers", "draw"] 3 (spEm D (qLam "emptiest_of"))) (M_lay : MCal P w K mg base C "lay" ["self", "ball", "box"] 1 (spLay C))
    (F : MFun K C "put" "Room.put" ["self", "draw"] s_Room__put) : MCal1 P w K mg base C "put" ["self", "draw"] 4 (spPut1 C er.c4 D (qLam "emptiest_of")) := by
  have S := sc_Room__put
  have CA := R.ca
  refine F.cal1 sc_Room__put (fun vs H Q E h => ?_) (fun f cdv A outer s H vs Q E hr h => ?_)
  · obtain ⟨p, l, d, q, t, n, ds, ns, pl, sz, nb, dr, rfl, _⟩ := h; rfl
  obtain ⟨p, l, d, q, t, n, ds, ns, pl, sz, nb, dr, rfl, RI, ht, dne, din, h60, dsl, hT, hE, k⟩ := h
  obtain ⟨⟨kvs, dv, RA, De, kl, knd, kval⟩, hs, lo⟩ := id RI
  obtain ⟨⟨dx, h1⟩, hl, hd, hq, lq⟩ := id RA
  have nl := hs.len
  refine ⟨_, (@pss_cons _ _ _ _ _ (@ps_if _ _ _ _ _ _ _ _ (@pt_cmpR _ _ _ _ _ _ _ _ op_ge (@pe_callB _ _ _ _ _ _ _ _ _ call_lenD (by rfl) (by exact T.z_len) (by exact bt_len) (@pa_consN _ _ _ _ _ (@pe_fld _ _ _ _ _ (pv 0) (by rfl)) pa_nil (by first|rfl|decide|exact .inl rfl|exact .inr rfl|(intros; rfl))) (by first|rfl|decide|exact .inl rfl|exact .inr rfl|(intros; rfl)) (by first|rfl|decide|exact .inl rfl|exact .inr rfl|(intros; rfl)) (by first|rfl|decide|exact .inl rfl|exact .inr rfl|(intros; rfl)) (by first|rfl|decide|exact .inl rfl|exact .inr rfl|(intros; rfl))) (@pe_glob _ _ ((.int 60)) _ _ (by rfl) (by exact gm) (by exact g60) (by first|rfl|decide|exact .inl rfl|exact .inr rfl|(intros; rfl))) (by exact (nomark _))) (@pss_one _ _ _ (@ps_raise _ _ _ _ _ _ _ _ _ _ (by exact raises1) (by rfl) (by exact z4) (by rfl) (by exact N.m4) (@pa_consN _ _ _ _ _ pe_str pa_nil (by first|rfl|decide|exact .inl rfl|exact .inr rfl|(intros; rfl))) (by first|rfl|decide|exact .inl rfl|exact .inr rfl|(intros; rfl)) (by first|rfl|decide|exact .inl rfl|exact .inr rfl|(intros; rfl)) (by first|rfl|decide|exact .inl rfl|exact .inr rfl|(intros; rfl)))) pss_nil) (@pss_cons _ _ _ _ _ (@PS.nox _ _ _ (@ps_par _ _ (2) (3) _ _ _ _ _ _ _ _ _ _ _ (by rfl) (by exact S.nd) (by rfl) (by rfl) (by decide) (by rfl) (by rfl) (@pa_consN _ _ _ _ _ (@pe_fld _ _ _ _ _ (pv 0) (by rfl)) (@pa_consN _ _ _ _ _ (@cc _ _ _ _ _ _ _ _ _ _ (by exact C_emptiest_of) (by exact (hr.mono (by decide))) (@pa_consN _ _ _ _ _ (@pe_fld _ _ _ _ _ (pv 0) (by rfl)) (@pa_consN _ _ _ _ _ (pv 1) pa_nil (by first|rfl|decide|exact .inl rfl|exact .inr rfl|(intros; rfl))) (by first|rfl|decide|exact .inl rfl|exact .inr rfl|(intros; rfl))) (by first|rfl|decide|exact .inl rfl|exact .inr rfl|(intros; rfl)) (by first|rfl|decide|exact .inl rfl|exact .inr rfl|(intros; rfl)) (by first|rfl|decide|exact .inl rfl|exact .inr rfl|(intros; rfl)) (by first|rfl|decide|exact .inl rfl|exact .inr rfl|(intros; rfl))) pa_nil (by first|rfl|decide|exact .inl rfl|exact .inr rfl|(intros; rfl))) (by first|rfl|decide|exact .inl rfl|exact .inr rfl|(intros; rfl))) (by rfl) (by first|rfl|decide|exact .inl rfl|exact .inr rfl|(intros; rfl)))) (@pss_cons _ _ _ _ _ (@PS.nox _ _ _ (@ps_fldaug _ _ _ _ _ _ _ _ _ _ (pv 0) pe_int (by exact in_add))) (@pss_cons _ _ _ _ _ (@PS.nox _ _ _ (@ps_expr _ _ _ _ (@pm _ _ _ _ _ _ _ _ _ _ _ _ _ _ (by exact M_lay) (by exact CA.cl) (by exact (hr.mono (by decide))) (pv 0) (@pa_consN _ _ _ _ _ (pv 2) (@pa_consN _ _ _ _ _ (pv 3) pa_nil (by first|rfl|decide|exact .inl rfl|exact .inr rfl|(intros; rfl))) (by first|rfl|decide|exact .inl rfl|exact .inr rfl|(intros; rfl))) (by first|rfl|decide|exact .inl rfl|exact .inr rfl|(intros; rfl)) (by first|rfl|decide|exact .inl rfl|exact .inr rfl|(intros; rfl)) (by first|rfl|decide|exact .inl rfl|exact .inr rfl|(intros; rfl))) (by first|rfl|decide|exact .inl rfl|exact .inr rfl|(intros; rfl)))) (@pss_cons _ _ _ _ _ (@PS.nox _ _ _ (@ps_expr _ _ _ _ (@pe_bm _ _ _ _ _ _ _ _ _ _ _ _ (by exact PySem.F.plainAttrs_list) (by exact PySem.F.slot_list_append) (by exact PySem.F.type_list_append) mt_append (@pe_fld _ _ _ _ _ (pv 0) (by rfl)) (@pa_consN _ _ _ _ _ (@pe_tup _ _ _ _ _ (@pa_consN _ _ _ _ _ pe_str (@pa_consN _ _ _ _ _ (pv 2) (@pa_consN _ _ _ _ _ (pv 3) pa_nil (by first|rfl|decide|exact .inl rfl|exact .inr rfl|(intros; rfl))) (by first|rfl|decide|exact .inl rfl|exact .inr rfl|(intros; rfl))) (by first|rfl|decide|exact .inl rfl|exact .inr rfl|(intros; rfl)))) pa_nil (by first|rfl|decide|exact .inl rfl|exact .inr rfl|(intros; rfl))) (by first|rfl|decide|exact .inl rfl|exact .inr rfl|(intros; rfl)) (by first|rfl|decide|exact .inl rfl|exact .inr rfl|(intros; rfl)) (by first|rfl|decide|exact .inl rfl|exact .inr rfl|(intros; rfl)) (by first|rfl|decide|exact .inl rfl|exact .inr rfl|(intros; rfl)) (by first|rfl|decide|exact .inl rfl|exact .inr rfl|(intros; rfl))) (by first|rfl|decide|exact .inl rfl|exact .inr rfl|(intros; rfl)))) (@pss_one _ _ _ (@PS.nox _ _ _ (@ps_ret _ _ _ _ (@pe_tup _ _ _ _ _ (@pa_consN _ _ _ _ _ (pv 2) (@pa_consN _ _ _ _ _ (pv 3) pa_nil (by first|rfl|decide|exact .inl rfl|exact .inr rfl|(intros; rfl))) (by first|rfl|decide|exact .inl rfl|exact .inr rfl|(intros; rfl)))))))))))), ?_⟩
  refine ⟨_, rfl, p, C, dx, _, _, rfl, h1, CA.cl, R.n2, flds_plc _ _ _ _, d, _, rfl, hd, _, _, rfl, rfl, _, rfl, ite2 (fun c => ⟨(by show 1 ≤ sizeLine; decide), hE (by have := of_decide_eq_true c; omega)⟩) (fun c => ?_)⟩
  have h60' : sz < 60 := by have := of_decide_eq_false (Bool.eq_false_iff.mpr c); omega
  replace k := k h60'
  refine ⟨_, rfl, p, C, dx, _, _, rfl, h1, CA.cl, R.n3, flds_nxt _ _ _ _, _, rfl, p, C, dx, _, _, rfl, h1, CA.cl, R.n1, flds_num _ _ _ _, _, rfl, l, t, ns, dr, rfl, hl, ht, dne, (by rw [nl]; exact din), hT, fun H1 s1 => ⟨_, _, rfl, ?_⟩⟩
  obtain ⟨j0, hj0, em, _⟩ := emF_mem (ns := ns) dne
  have hbx := din dr[j0] (List.getElem_mem hj0)
  rw [← em] at hbx
  generalize emF ns dr = bx at hbx k
  refine ⟨_, rfl, p, C, dx, _, _, rfl, s1 _ _ h1, CA.cl, R.n3, flds_nxt _ _ _ _, _, _, rfl, rfl, dx, _, s1 _ _ h1, (by show 4 < 1000; decide), ?_⟩
  rw [flds_put]
  have npl : p ≠ l := ne_of h1 hl (by intro z; cases z)
  have npd : p ≠ d := ne_of h1 hd (by intro z; cases z)
  have npq : p ≠ q := ne_of h1 hq (by intro z; cases z)
  have nld : l ≠ d := ne_of hl hd (by intro z; cases z)
  have nqd : q ≠ d := ne_of hq hd (by intro z; cases z)
  have RA2 : RoomAt C (upd H1 p (.ins C dx (flds l d (nb + 1) q))) p l d q ns kvs (nb + 1) dv := ⟨⟨dx, upd_same⟩, by rw [upd_ne (Ne.symm npl)]; exact s1 _ _ hl, by rw [upd_ne (Ne.symm npd)]; exact s1 _ _ hd, by rw [upd_ne (Ne.symm npq)]; exact s1 _ _ hq, lq⟩
  have x2 : SR p l d q H (upd H1 p (.ins C dx (flds l d (nb + 1) q))) := fun b o e n1 _ _ _ => by rw [upd_ne n1]; exact s1 _ _ e
  have p2 : (upd H1 p (.ins C dx (flds l d (nb + 1) q))) p = some (.ins C dx (flds l d (nb + 1) q)) := upd_same
  generalize upd H1 p (.ins C dx (flds l d (nb + 1) q)) = H2 at RA2 x2 p2
  refine ⟨_, rfl, p, dx, _, rfl, p2, flds_no _ _ _ _ (by decide +kernel) (by decide +kernel) (by decide +kernel) (by decide +kernel), _, rfl, _, rfl, p, l, d, q, ns, kvs, nb + 1, dv, nb, bx, rfl, RA2, by omega, hbx.1, by omega, ?_⟩
  obtain ⟨_, g2, e2, q2, _⟩ := RA2
  have p3 : (upd (upd H2 d (.dK (putK kvs (Sum.inl nb) (.int bx)))) l (.lst (iv (inc ns bx)))) p = some (.ins C dx (flds l d (nb + 1) q)) := by rw [upd_ne npl, upd_ne npd]; exact p2
  have g3 : (upd (upd H2 d (.dK (putK kvs (Sum.inl nb) (.int bx)))) l (.lst (iv (inc ns bx)))) l = some (.lst (iv (inc ns bx))) := upd_same
  have e3 : (upd (upd H2 d (.dK (putK kvs (Sum.inl nb) (.int bx)))) l (.lst (iv (inc ns bx)))) d = some (.dK (putK kvs (Sum.inl nb) (.int bx))) := by rw [upd_ne (Ne.symm nld), upd_same]
  have q3 : (upd (upd H2 d (.dK (putK kvs (Sum.inl nb) (.int bx)))) l (.lst (iv (inc ns bx)))) q = some (.lst dv) := by rw [upd_ne (Ne.symm lq), upd_ne nqd]; exact q2
  have x3 : SR p l d q H (upd (upd H2 d (.dK (putK kvs (Sum.inl nb) (.int bx)))) l (.lst (iv (inc ns bx)))) := fun b o e n1 n2 n3 n4 => by rw [upd_ne n2, upd_ne n3]; exact x2 b o e n1 n2 n3 n4
  generalize upd (upd H2 d (.dK (putK kvs (Sum.inl nb) (.int bx)))) l (.lst (iv (inc ns bx))) = H3 at p3 g3 e3 q3 x3
  refine ⟨_, rfl, p, C, dx, _, _, rfl, p3, CA.cl, R.n4, flds_ded _ _ _ _, .inl ⟨rfl, _, SqL.of q3⟩, _, rfl, _, rfl, lz 3 rfl, fun t1 ht1 => ?_⟩
  have s4 := same_new ht1 (.tup [.str "put", .int nb, .int bx])
  have t4 : (upd H3 t1 (.tup [.str "put", .int nb, .int bx])) t1 = some (.tup [.str "put", .int nb, .int bx]) := upd_same
  have x4 := x3.trans (SR.of s4)
  have p4 := s4 _ _ p3
  have g4 := s4 _ _ g3
  have e4 := s4 _ _ e3
  have q4 := s4 _ _ q3
  generalize upd H3 t1 (.tup [.str "put", .int nb, .int bx]) = H4 at s4 t4 x4 p4 g4 e4 q4
  have dl := De.len
  refine ⟨q, dv, .ref t1, rfl, rfl, q4, (by rw [sizeLine_eq]; omega), ?_⟩
  have upT : ∀ a xs, H4 a = some (.tup xs) → (upd H4 q (.lst (dv ++ [.ref t1]))) a = some (.tup xs) := fun a xs e => by rw [upd_ne (ne_of e q4 (by intro z; cases z))]; exact e
  have pn : pl nb = none := by
    cases e : pl nb with
    | none => rfl
    | some y =>
      obtain ⟨x, hx, ex⟩ := hs.mem nb (by rw [e]; intro z; cases z)
      have := lo x hx
      omega
  have vn : valV kvs (Sum.inl nb : Key) = none := by rw [kval, pn]; rfl
  have RI5 : RoomIs C n (upd H4 q (.lst (dv ++ [.ref t1]))) p l d q ((true, nb, bx) :: ds) (inc ns bx) (updf pl nb (some bx)) (sz + 1) (nb + 1) := by
    refine ⟨⟨putK kvs (Sum.inl nb) (.int bx), dv ++ [.ref t1], ⟨⟨dx, by rw [upd_ne npq]; exact p4⟩, by rw [upd_ne lq]; exact g4, by rw [upd_ne (Ne.symm nqd)]; exact e4, upd_same, lq⟩, .snoc (upT _ _ t4) ?_, ?_, nd_putK _ knd vn, val_put kval nb bx⟩, .put hs pn hbx.1 hbx.2, fun x hx => ?_⟩
    · exact De.mono fun a xs e => upT _ _ (RI.tup x4 e)
    · rw [putK_new _ vn, List.length_append, kl]; rfl
    · rcases List.mem_cons.mp hx with rfl | hx
      · show nb < nb + 1; omega
      · have := lo x hx; omega
  have x5 : SR p l d q H (upd H4 q (.lst (dv ++ [.ref t1]))) := fun b o e n1 n2 n3 n4 => by rw [upd_ne n4]; exact x4 b o e n1 n2 n3 n4
  generalize upd H4 q (.lst (dv ++ [.ref t1])) = H5 at RI5 x5
  refine ⟨_, rfl, _, rfl, lz 2 rfl, fun r hr' => ?_⟩
  have s6 := same_new hr' (.tup [.int nb, .int bx])
  exact k r _ (RI5.same s6) upd_same (x5.trans (SR.of s6))
/-- where a thing lies, if it is a ball -/
noncomputable def plV (pl : Int → Option Int) : V → Option Int
  | .int b => pl b
  | _ => none
noncomputable def spLeave1 (C c1 : Addr) : Sp := fun vs H Q E => ∃ (p l d q : Addr) (n : Nat) (ds : List Deed) (ns : List Int) (pl : Int → Option Int) (sz : Nat) (nb : Int) (x : V) (dd : PyData), vs = [.ref p, x] ∧ RoomIs C n H p l d q ds ns pl sz nb ∧ DataV H x dd ∧ ds.length ≤ 1000 ∧ (plV pl x = none → E (.ref c1) none H) ∧ ∀ b bx, x = .int b → pl b = some bx →
  ∀ (H' : Hp), RoomIs C n H' p l d q ((false, b, bx) :: ds) (dec ns bx) (updf pl b none) (sz - 1) nb → SR p l d q H H' → Q (.int bx) H'
theorem Hist.pos {n : Nat} {ds : List Deed} {ns : List Int} {pl : Int → Option Int} {sz : Nat} (h : Hist n ds ns pl sz) {kvs : List (Key × V)} (kl : kvs.length = sz) (b : Int) {v : V} (e : valV kvs (Sum.inl b) = some v) : 1 ≤ sz := by
  cases kvs with
  | nil => rw [valV_nil] at e; cases e
  | cons a r => simp at kl; omega
theorem ok_leave1 {C : Addr} {er : Errs} (R : RmT K mg C) (M1_where : MCal1 P w K mg base C "where" ["self", "ball"] 2 (spWhere1 C er.c1)) (M_lift : MCal P w K mg base C "lift" ["self", "ball", "box"] 1 (spLift C))
    (F : MFun K C "leave" "Room.leave" ["self", "ball"] s_Room__leave) : MCal1 P w K mg base C "leave" ["self", "ball"] 3 (spLeave1 C er.c1) := by
  have S := sc_Room__leave
  have CA := R.ca
  refine F.cal1 sc_Room__leave (fun vs H Q E h => ?_) (fun f cdv A outer s H vs Q E hr h => ?_)
  · obtain ⟨p, l, d, q, n, ds, ns, pl, sz, nb, x, dd, rfl, _⟩ := h; rfl
  obtain ⟨p, l, d, q, n, ds, ns, pl, sz, nb, x, dd, rfl, RI, hx, dsl, hE, k⟩ := h
  obtain ⟨⟨kvs, dv, RA, De, kl, knd, kval⟩, hs, lo⟩ := id RI
  obtain ⟨⟨dx, h1⟩, hl, hd, hq, lq⟩ := id RA
  have nl := hs.len
  have no : ∀ {m : Str}, ¬ m = "numbers" → ¬ m = "places" → ¬ m = "next_ball" → ¬ m = "deeds" → (flds l d nb q).lookup m = none := fun a b c e => flds_no _ _ _ _ a b c e
  refine ⟨_, (@pss_cons _ _ _ _ _ (@ps_set _ _ (2) _ _ _ _ (by exact S.nd) (by rfl) (by first | exact Or.inl rfl | exact Or.inr rfl) (@pm1 _ _ _ _ _ _ _ _ _ _ _ _ _ _ _ (by exact passes1) (by exact M1_where) (by exact CA.cl) (by exact (hr.mono (by decide))) (pv 0) (@pa_consN _ _ _ _ _ (pv 1) pa_nil (by first|rfl|decide|exact .inl rfl|exact .inr rfl|(intros; rfl))) (by first|rfl|decide|exact .inl rfl|exact .inr rfl|(intros; rfl)) (by first|rfl|decide|exact .inl rfl|exact .inr rfl|(intros; rfl)) (by first|rfl|decide|exact .inl rfl|exact .inr rfl|(intros; rfl))) (by first|rfl|decide|exact .inl rfl|exact .inr rfl|(intros; rfl)) (by first|rfl|decide|exact .inl rfl|exact .inr rfl|(intros; rfl))) (@pss_cons _ _ _ _ _ (@PS.nox _ _ _ (@ps_expr _ _ _ _ (@pm _ _ _ _ _ _ _ _ _ _ _ _ _ _ (by exact M_lift) (by exact CA.cl) (by exact (hr.mono (by decide))) (pv 0) (@pa_consN _ _ _ _ _ (pv 1) (@pa_consN _ _ _ _ _ (pv 2) pa_nil (by first|rfl|decide|exact .inl rfl|exact .inr rfl|(intros; rfl))) (by first|rfl|decide|exact .inl rfl|exact .inr rfl|(intros; rfl))) (by first|rfl|decide|exact .inl rfl|exact .inr rfl|(intros; rfl)) (by first|rfl|decide|exact .inl rfl|exact .inr rfl|(intros; rfl)) (by first|rfl|decide|exact .inl rfl|exact .inr rfl|(intros; rfl))) (by first|rfl|decide|exact .inl rfl|exact .inr rfl|(intros; rfl)))) (@pss_cons _ _ _ _ _ (@PS.nox _ _ _ (@ps_expr _ _ _ _ (@pe_bm _ _ _ _ _ _ _ _ _ _ _ _ (by exact PySem.F.plainAttrs_list) (by exact PySem.F.slot_list_append) (by exact PySem.F.type_list_append) mt_append (@pe_fld _ _ _ _ _ (pv 0) (by rfl)) (@pa_consN _ _ _ _ _ (@pe_tup _ _ _ _ _ (@pa_consN _ _ _ _ _ pe_str (@pa_consN _ _ _ _ _ (pv 1) (@pa_consN _ _ _ _ _ (pv 2) pa_nil (by first|rfl|decide|exact .inl rfl|exact .inr rfl|(intros; rfl))) (by first|rfl|decide|exact .inl rfl|exact .inr rfl|(intros; rfl))) (by first|rfl|decide|exact .inl rfl|exact .inr rfl|(intros; rfl)))) pa_nil (by first|rfl|decide|exact .inl rfl|exact .inr rfl|(intros; rfl))) (by first|rfl|decide|exact .inl rfl|exact .inr rfl|(intros; rfl)) (by first|rfl|decide|exact .inl rfl|exact .inr rfl|(intros; rfl)) (by first|rfl|decide|exact .inl rfl|exact .inr rfl|(intros; rfl)) (by first|rfl|decide|exact .inl rfl|exact .inr rfl|(intros; rfl)) (by first|rfl|decide|exact .inl rfl|exact .inr rfl|(intros; rfl))) (by first|rfl|decide|exact .inl rfl|exact .inr rfl|(intros; rfl)))) (@pss_one _ _ _ (@PS.nox _ _ _ (@ps_ret _ _ _ _ (pv 2))))))), ?_⟩
  refine ⟨_, rfl, p, dx, _, rfl, h1, no (by decide +kernel) (by decide +kernel) (by decide +kernel) (by decide +kernel), _, rfl, p, l, d, q, ns, kvs, nb, dv, x, dd, rfl, RA, hx, fun ln => hE ?_, fun v hv => ?_⟩
  · cases x with
    | int b =>
      have z := kval b
      rw [show valV kvs (Sum.inl b : Key) = none from ln] at z
      show pl b = none
      cases e : pl b with
      | none => rfl
      | some y => rw [e] at z; cases z
    | _ => rfl
  obtain ⟨b, rfl⟩ : ∃ b, x = .int b := by
    cases x with
    | int b => exact ⟨b, rfl⟩
    | _ => cases hv
  replace hv : valV kvs (Sum.inl b : Key) = some v := hv
  obtain ⟨bx, hb, rfl⟩ : ∃ bx, pl b = some bx ∧ v = .int bx := by
    rw [kval] at hv
    cases e : pl b with
    | none => rw [e] at hv; cases hv
    | some y => rw [e] at hv; exact ⟨y, rfl, (Option.some.inj hv).symm⟩
  replace k := k b bx rfl hb
  have hbx := hs.rng b bx hb
  obtain ⟨sz, rfl⟩ : ∃ m, sz = m + 1 := ⟨sz - 1, by have := hs.pos kl b hv; omega⟩
  rw [Nat.add_sub_cancel] at k
  refine ⟨_, rfl, p, dx, _, rfl, h1, no (by decide +kernel) (by decide +kernel) (by decide +kernel) (by decide +kernel), _, rfl, _, rfl, p, l, d, q, ns, kvs, nb, dv, b, bx, _, rfl, RA, hv, hbx.1, by omega, ?_⟩
  have npl : p ≠ l := ne_of h1 hl (by intro z; cases z)
  have npd : p ≠ d := ne_of h1 hd (by intro z; cases z)
  have npq : p ≠ q := ne_of h1 hq (by intro z; cases z)
  have nld : l ≠ d := ne_of hl hd (by intro z; cases z)
  have nqd : q ≠ d := ne_of hq hd (by intro z; cases z)
  have p3 : (upd (upd H d (.dK (dropK kvs (Sum.inl b)))) l (.lst (iv (dec ns bx)))) p = some (.ins C dx (flds l d nb q)) := by rw [upd_ne npl, upd_ne npd]; exact h1
  have g3 : (upd (upd H d (.dK (dropK kvs (Sum.inl b)))) l (.lst (iv (dec ns bx)))) l = some (.lst (iv (dec ns bx))) := upd_same
  have e3 : (upd (upd H d (.dK (dropK kvs (Sum.inl b)))) l (.lst (iv (dec ns bx)))) d = some (.dK (dropK kvs (Sum.inl b))) := by rw [upd_ne (Ne.symm nld), upd_same]
  have q3 : (upd (upd H d (.dK (dropK kvs (Sum.inl b)))) l (.lst (iv (dec ns bx)))) q = some (.lst dv) := by rw [upd_ne (Ne.symm lq), upd_ne nqd]; exact hq
  have x3 : SR p l d q H (upd (upd H d (.dK (dropK kvs (Sum.inl b)))) l (.lst (iv (dec ns bx)))) := fun b o e n1 n2 n3 n4 => by rw [upd_ne n2, upd_ne n3]; exact e
  generalize upd (upd H d (.dK (dropK kvs (Sum.inl b)))) l (.lst (iv (dec ns bx))) = H3 at p3 g3 e3 q3 x3
  refine ⟨_, rfl, p, C, dx, _, _, rfl, p3, CA.cl, R.n4, flds_ded _ _ _ _, .inl ⟨rfl, _, SqL.of q3⟩, _, rfl, _, rfl, lz 3 rfl, fun t1 ht1 => ?_⟩
  have s4 := same_new ht1 (.tup [.str "leave", .int b, .int bx])
  have t4 : (upd H3 t1 (.tup [.str "leave", .int b, .int bx])) t1 = some (.tup [.str "leave", .int b, .int bx]) := upd_same
  have x4 := x3.trans (SR.of s4)
  have p4 := s4 _ _ p3
  have g4 := s4 _ _ g3
  have e4 := s4 _ _ e3
  have q4 := s4 _ _ q3
  generalize upd H3 t1 (.tup [.str "leave", .int b, .int bx]) = H4 at s4 t4 x4 p4 g4 e4 q4
  have dl := De.len
  refine ⟨q, dv, .ref t1, rfl, rfl, q4, (by rw [sizeLine_eq]; omega), ?_⟩
  have upT : ∀ a xs, H4 a = some (.tup xs) → (upd H4 q (.lst (dv ++ [.ref t1]))) a = some (.tup xs) := fun a xs e => by rw [upd_ne (ne_of e q4 (by intro z; cases z))]; exact e
  have hm : b < nb := by
    obtain ⟨x, hx, ex⟩ := hs.mem b (by rw [hb]; intro z; cases z)
    have := lo x hx
    omega
  have RI5 : RoomIs C n (upd H4 q (.lst (dv ++ [.ref t1]))) p l d q ((false, b, bx) :: ds) (dec ns bx) (updf pl b none) sz nb := by
    refine ⟨⟨dropK kvs (Sum.inl b), dv ++ [.ref t1], ⟨⟨dx, by rw [upd_ne npq]; exact p4⟩, by rw [upd_ne lq]; exact g4, by rw [upd_ne (Ne.symm nqd)]; exact e4, upd_same, lq⟩, .snoc (upT _ _ t4) ?_, ?_, nd_dropK knd, val_drop kval b⟩, .leave hs hb, fun x hx => ?_⟩
    · exact De.mono fun a xs e => upT _ _ (RI.tup x4 e)
    · have := dropK_len knd (valV_in hv); omega
    · rcases List.mem_cons.mp hx with rfl | hx
      · exact hm
      · exact lo x hx
  refine ⟨_, rfl, k _ RI5 fun b o e n1 n2 n3 n4 => ?_⟩
  rw [upd_ne n4]
  exact x4 b o e n1 n2 n3 n4
end
end My

set_option Elab.async false
set_option linter.all false
set_option maxRecDepth 100000
set_option maxHeartbeats 4000000
namespace My
open PySem L2 MA
theorem Hist.szl {n : Nat} {ds : List Deed} {ns : List Int} {pl : Int → Option Int} {sz : Nat} (h : Hist n ds ns pl sz) : sz ≤ ds.length := by
  induction h with
  | nil => exact Nat.le_refl _
  | put _ _ _ _ ih => simp; omega
  | leave _ _ ih => simp; omega
section
variable {P : Program} {w : World} {K : PySem.W.Frag} {mg : Str → Option Value} {base : Heap}
noncomputable def spFalling : Sp := fun vs H Q _ => ∃ l ns, vs = [.ref l] ∧ H l = some (.lst (iv ns)) ∧ ns.length < 64 ∧ ∀ (a : Addr) (ms : List Int) (H' : Hp), ms.Perm ns → ms.Pairwise (· ≥ ·) → H' a = some (.tup (iv ms)) → Same H H' → Q (.ref a) H'
theorem ok_falling (T : Txt2 mg) (F : FunAt K mg "falling" ["numbers"] s_falling) : Cal P w K mg base "falling" ["numbers"] 1 spFalling := by
  have S := sc_falling
  refine F.cal sc_falling (fun vs H Q E h => ?_) (fun f cdv A outer s H vs Q E hr h => ?_)
  · obtain ⟨l, ns, rfl, _⟩ := h; rfl
  obtain ⟨l, ns, rfl, hl, h64, k⟩ := h
  refine ⟨_, (@pss_one _ _ _ (@ps_ret _ _ _ _ (@pe_callTy _ _ _ _ _ _ _ _ _ call_tuple_of (by rfl) (by exact T.z_tuple) (by exact bt_tuple) (@pa_consN _ _ _ _ _ (@pe_sortedR _ _ _ _ _ _ _ _ _ (by rfl) (by exact T.z_sorted) (@pa_consN _ _ _ _ _ (pv 0) pa_nil (by first|rfl|decide|exact .inl rfl|exact .inr rfl|(intros; rfl))) (by first|rfl|decide|exact .inl rfl|exact .inr rfl|(intros; rfl)) (by first|rfl|decide|exact .inl rfl|exact .inr rfl|(intros; rfl))) pa_nil (by first|rfl|decide|exact .inl rfl|exact .inr rfl|(intros; rfl))) (by first|rfl|decide|exact .inl rfl|exact .inr rfl|(intros; rfl)) (by first|rfl|decide|exact .inl rfl|exact .inr rfl|(intros; rfl)) (by first|rfl|decide|exact .inl rfl|exact .inr rfl|(intros; rfl)) (by first|rfl|decide|exact .inl rfl|exact .inr rfl|(intros; rfl))))), ?_⟩
  refine ⟨_, rfl, l, ns, rfl, hl, h64, fun q ms hq pm od => ?_⟩
  have s1 := same_new hq (.lst (iv ms))
  refine ⟨q, iv ms, rfl, .inl ⟨SqL.of upd_same, fun t ht => ?_⟩⟩
  exact k t ms _ pm od upd_same (s1.trans (same_new ht _))
noncomputable def spBack1 (C c5 : Addr) : Sp := fun vs H Q E => ∃ (p l d q : Addr) (n : Nat) (ds1 : List Deed) (ns : List Int) (pl : Int → Option Int) (sz : Nat) (nb : Int), vs = [.ref p] ∧ RoomIs C n H p l d q ds1 ns pl sz nb ∧ ds1.length ≤ 900 ∧ (ds1 = [] → E (.ref c5) none H) ∧
  ∀ (x : Deed) (ds : List Deed) (ns0 : List Int) (pl0 : Int → Option Int) (sz0 : Nat), ds1 = x :: ds → Hist n ds ns0 pl0 sz0 → ∀ (H' : Hp), RoomIs C n H' p l d q ds ns0 pl0 sz0 nb → SR p l d q H H' → Q (.int x.2.1) H'
theorem Hist.prev {n : Nat} {x : Deed} {ds : List Deed} {ns : List Int} {pl : Int → Option Int} {sz : Nat} (h : Hist n (x :: ds) ns pl sz) : ∃ ns0 pl0 sz0, Hist n ds ns0 pl0 sz0 := by
  cases h with
  | put h _ _ _ => exact ⟨_, _, _, h⟩
  | leave h _ => exact ⟨_, _, _, h⟩
theorem ok_back1 {C : Addr} {er : Errs} (R : RmT K mg C) (N : ErrN mg er) (z5 : PySem.W.excIn K er.c5 bmVE "ValueError.__new__" = true) (M_lay : MCal P w K mg base C "lay" ["self", "ball", "box"] 1 (spLay C)) (M_lift : MCal P w K mg base C "lift" ["self", "ball", "box"] 1 (spLift C))
    (F : MFun K C "back" "Room.back" ["self"] s_Room__back) : MCal1 P w K mg base C "back" ["self"] 2 (spBack1 C er.c5) := by
  have S := sc_Room__back
  have CA := R.ca
  refine F.cal1 sc_Room__back (fun vs H Q E h => ?_) (fun f cdv A outer s H vs Q E hr h => ?_)
  · obtain ⟨p, l, d, q, n, ds1, ns, pl, sz, nb, rfl, _⟩ := h; rfl
  obtain ⟨p, l, d, q, n, ds1, ns, pl, sz, nb, rfl, RI, dsl, hE, k⟩ := h
  obtain ⟨⟨kvs, dv, RA, De, kl, knd, kval⟩, hs, lo⟩ := id RI
  obtain ⟨⟨dx, h1⟩, hl, hd, hq, lq⟩ := id RA
  have no : ∀ {m : Str}, ¬ m = "numbers" → ¬ m = "places" → ¬ m = "next_ball" → ¬ m = "deeds" → (flds l d nb q).lookup m = none := fun a b c e => flds_no _ _ _ _ a b c e
  have npl : p ≠ l := ne_of h1 hl (by intro z; cases z)
  have npd : p ≠ d := ne_of h1 hd (by intro z; cases z)
  have npq : p ≠ q := ne_of h1 hq (by intro z; cases z)
  have nld : l ≠ d := ne_of hl hd (by intro z; cases z)
  have nqd : q ≠ d := ne_of hq hd (by intro z; cases z)
  refine ⟨_, (@pss_cons _ _ _ _ _ (@ps_if _ _ _ _ _ _ _ _ (@pt_not _ _ _ _ (@pt_list _ _ _ (@pe_fld _ _ _ _ _ (pv 0) (by rfl)) (by first|rfl|decide|exact .inl rfl|exact .inr rfl|(intros; rfl)))) (@pss_one _ _ _ (@ps_raise _ _ _ _ _ _ _ _ _ _ (by exact raises1) (by rfl) (by exact z5) (by rfl) (by exact N.m5) (@pa_consN _ _ _ _ _ pe_str pa_nil (by first|rfl|decide|exact .inl rfl|exact .inr rfl|(intros; rfl))) (by first|rfl|decide|exact .inl rfl|exact .inr rfl|(intros; rfl)) (by first|rfl|decide|exact .inl rfl|exact .inr rfl|(intros; rfl)) (by first|rfl|decide|exact .inl rfl|exact .inr rfl|(intros; rfl)))) pss_nil) (@pss_cons _ _ _ _ _ (@PS.nox _ _ _ (@ps_asg _ _ _ _ _ _ (@pe_bm0 _ _ _ _ _ _ _ _ _ (by exact PySem.F.plainAttrs_list) (by exact PySem.F.slot_list_pop) (by exact PySem.F.type_list_pop) mt_pop (@pe_fld _ _ _ _ _ (pv 0) (by rfl)) (by first|rfl|decide|exact .inl rfl|exact .inr rfl|(intros; rfl)) (by first|rfl|decide|exact .inl rfl|exact .inr rfl|(intros; rfl))) (@pg_tup _ _ _ _ _ _ (by rfl) (@pgs_cons _ _ _ _ _ (@pg_name _ _ (1) _ (by exact S.nd) (by rfl) (by first | exact Or.inl rfl | exact Or.inr rfl) (by first|rfl|decide|exact .inl rfl|exact .inr rfl|(intros; rfl))) (@pgs_cons _ _ _ _ _ (@pg_name _ _ (2) _ (by exact S.nd) (by rfl) (by first | exact Or.inl rfl | exact Or.inr rfl) (by first|rfl|decide|exact .inl rfl|exact .inr rfl|(intros; rfl))) (@pgs_cons _ _ _ _ _ (@pg_name _ _ (3) _ (by exact S.nd) (by rfl) (by first | exact Or.inl rfl | exact Or.inr rfl) (by first|rfl|decide|exact .inl rfl|exact .inr rfl|(intros; rfl))) pgs_nil (by first|rfl|decide|exact .inl rfl|exact .inr rfl|(intros; rfl))) (by first|rfl|decide|exact .inl rfl|exact .inr rfl|(intros; rfl))) (by first|rfl|decide|exact .inl rfl|exact .inr rfl|(intros; rfl))) (by first|rfl|decide|exact .inl rfl|exact .inr rfl|(intros; rfl)) (by first|rfl|decide|exact .inl rfl|exact .inr rfl|(intros; rfl))) (by first|rfl|decide|exact .inl rfl|exact .inr rfl|(intros; rfl)) (by first|rfl|decide|exact .inl rfl|exact .inr rfl|(intros; rfl)) (by first|rfl|decide|exact .inl rfl|exact .inr rfl|(intros; rfl)))) (@pss_cons _ _ _ _ _ (@PS.nox _ _ _ (@ps_if _ _ _ _ _ _ _ _ (@pt_cmpR _ _ _ _ _ _ _ _ op_eq (pv 1) pe_str (by exact (nomark _))) (@pss_one _ _ _ (@ps_expr _ _ _ _ (@pm _ _ _ _ _ _ _ _ _ _ _ _ _ _ (by exact M_lift) (by exact CA.cl) (by exact (hr.mono (by decide))) (pv 0) (@pa_consN _ _ _ _ _ (pv 2) (@pa_consN _ _ _ _ _ (pv 3) pa_nil (by first|rfl|decide|exact .inl rfl|exact .inr rfl|(intros; rfl))) (by first|rfl|decide|exact .inl rfl|exact .inr rfl|(intros; rfl))) (by first|rfl|decide|exact .inl rfl|exact .inr rfl|(intros; rfl)) (by first|rfl|decide|exact .inl rfl|exact .inr rfl|(intros; rfl)) (by first|rfl|decide|exact .inl rfl|exact .inr rfl|(intros; rfl))) (by first|rfl|decide|exact .inl rfl|exact .inr rfl|(intros; rfl)))) (@pss_one _ _ _ (@ps_expr _ _ _ _ (@pm _ _ _ _ _ _ _ _ _ _ _ _ _ _ (by exact M_lay) (by exact CA.cl) (by exact (hr.mono (by decide))) (pv 0) (@pa_consN _ _ _ _ _ (pv 2) (@pa_consN _ _ _ _ _ (pv 3) pa_nil (by first|rfl|decide|exact .inl rfl|exact .inr rfl|(intros; rfl))) (by first|rfl|decide|exact .inl rfl|exact .inr rfl|(intros; rfl))) (by first|rfl|decide|exact .inl rfl|exact .inr rfl|(intros; rfl)) (by first|rfl|decide|exact .inl rfl|exact .inr rfl|(intros; rfl)) (by first|rfl|decide|exact .inl rfl|exact .inr rfl|(intros; rfl))) (by first|rfl|decide|exact .inl rfl|exact .inr rfl|(intros; rfl)))))) (@pss_one _ _ _ (@PS.nox _ _ _ (@ps_ret _ _ _ _ (pv 2))))))), ?_⟩
  refine ⟨_, rfl, p, C, dx, _, _, rfl, h1, CA.cl, R.n4, flds_ded _ _ _ _, q, _, rfl, hq, ?_⟩
  cases ds1 with
  | nil =>
    cases De
    exact iteT ⟨(by show 1 ≤ sizeLine; decide), hE rfl⟩
  | cons x ds =>
  obtain ⟨ns0, pl0, sz0, h0⟩ := hs.prev
  replace k := k x ds ns0 pl0 sz0 rfl h0
  obtain ⟨dv0, t, rfl, ht, De0⟩ : ∃ dv0 t, dv = dv0 ++ [.ref t] ∧ H t = some (.tup [.str (dword x.1), .int x.2.1, .int x.2.2]) ∧ Deeds H dv0 ds := by
    cases De with
    | snoc e r => exact ⟨_, _, rfl, e, r⟩
  rw [show (dv0 ++ [V.ref t]).isEmpty = false by simp]
  refine iteF ?_
  refine ⟨_, rfl, p, C, dx, _, _, rfl, h1, CA.cl, R.n4, flds_ded _ _ _ _, .inl ⟨rfl, _, SqL.of hq⟩, q, _, .ref t, rfl, rfl, hq, (by simp), ?_⟩
  rw [List.dropLast_concat]
  have RA2 : RoomAt C (upd H q (.lst dv0)) p l d q ns kvs nb dv0 := ⟨⟨dx, by rw [upd_ne npq]; exact h1⟩, by rw [upd_ne lq]; exact hl, by rw [upd_ne (Ne.symm nqd)]; exact hd, upd_same, lq⟩
  have p2 : (upd H q (.lst dv0)) p = some (.ins C dx (flds l d nb q)) := by rw [upd_ne npq]; exact h1
  have t2 : (upd H q (.lst dv0)) t = some (.tup [.str (dword x.1), .int x.2.1, .int x.2.2]) := by rw [upd_ne (ne_of ht hq (by intro z; cases z))]; exact ht
  have x2 : SR p l d q H (upd H q (.lst dv0)) := fun b o e n1 n2 n3 n4 => by rw [upd_ne n4]; exact e
  have q2 : (upd H q (.lst dv0)) q = some (.lst dv0) := upd_same
  generalize upd H q (.lst dv0) = H2 at RA2 p2 t2 x2 q2
  obtain ⟨kd, b, bx⟩ := x
  refine ⟨t, _, rfl, SqT.of t2, rfl, _, _, rfl, _, _, rfl, _, _, rfl, rfl, ?_⟩
  refine ⟨_, rfl, rfl, _, rfl, ?_⟩
  have lo' : ∀ x ∈ ds, x.2.1 < nb := fun x hx => lo x (List.mem_cons_of_mem _ hx)
  have szl := hs.szl
  cases hs with
  | @put _ ns1 pl1 sz1 _ _ h1' pn b0 b1 =>
    obtain ⟨rfl, rfl, rfl⟩ := h1'.det h0
    have nl := h1'.len
    refine iteT ?_
    have hv : valV kvs (Sum.inl b : Key) = some (.int bx) := by rw [kval]; unfold updf; rw [if_pos rfl]; rfl
    refine ⟨_, rfl, p, dx, _, rfl, p2, no (by decide +kernel) (by decide +kernel) (by decide +kernel) (by decide +kernel), _, rfl, _, rfl, p, l, d, q, _, kvs, nb, dv0, b, bx, _, rfl, RA2, hv, b0, by rw [inc_len]; omega, ?_⟩
    rw [dec_inc (by omega)]
    obtain ⟨_, g2, e2, _, _⟩ := RA2
    have x3 : SR p l d q H (upd (upd H2 d (.dK (dropK kvs (Sum.inl b)))) l (.lst (iv ns1))) := fun b o e n1 n2 n3 n4 => by rw [upd_ne n2, upd_ne n3]; exact x2 b o e n1 n2 n3 n4
    refine ⟨_, rfl, k _ ⟨⟨dropK kvs (Sum.inl b), dv0, ⟨⟨dx, by rw [upd_ne npl, upd_ne npd]; exact p2⟩, upd_same, by rw [upd_ne (Ne.symm nld), upd_same], by rw [upd_ne (Ne.symm lq), upd_ne nqd]; exact q2, lq⟩, De0.mono fun a xs e => RI.tup x3 e, ?_, nd_dropK knd, ?_⟩, h0, lo'⟩ x3⟩
    · have := dropK_len knd (valV_in hv); omega
    · have := val_drop kval b
      rw [updf_back pn] at this
      exact this
  | @leave _ ns1 pl1 sz1 _ _ h1' hb =>
    obtain ⟨rfl, rfl, rfl⟩ := h1'.det h0
    have nl := h1'.len
    have hbx := h1'.rng b bx hb
    refine iteF ?_
    have vn : valV kvs (Sum.inl b : Key) = none := by rw [kval]; unfold updf; rw [if_pos rfl]; rfl
    refine ⟨_, rfl, p, dx, _, rfl, p2, no (by decide +kernel) (by decide +kernel) (by decide +kernel) (by decide +kernel), _, rfl, _, rfl, p, l, d, q, _, kvs, nb, dv0, b, bx, rfl, RA2, (by simp at szl dsl; omega), hbx.1, by rw [dec_len]; omega, ?_⟩
    rw [inc_dec (by omega)]
    have x3 : SR p l d q H (upd (upd H2 d (.dK (putK kvs (Sum.inl b) (.int bx)))) l (.lst (iv ns1))) := fun b o e n1 n2 n3 n4 => by rw [upd_ne n2, upd_ne n3]; exact x2 b o e n1 n2 n3 n4
    refine ⟨_, rfl, k _ ⟨⟨putK kvs (Sum.inl b) (.int bx), dv0, ⟨⟨dx, by rw [upd_ne npl, upd_ne npd]; exact p2⟩, upd_same, by rw [upd_ne (Ne.symm nld), upd_same], by rw [upd_ne (Ne.symm lq), upd_ne nqd]; exact q2, lq⟩, De0.mono fun a xs e => RI.tup x3 e, ?_, nd_putK _ knd vn, ?_⟩, h0, lo'⟩ x3⟩
    · rw [putK_new _ vn, List.length_append, kl]; rfl
    · have := val_put kval b bx
      rw [updf_back hb] at this
      exact this
noncomputable def spStand (C : Addr) : Sp := fun vs H Q _ => ∃ (p l d q : Addr) (n : Nat) (ds : List Deed) (ns : List Int) (pl : Int → Option Int) (sz : Nat) (nb : Int), vs = [.ref p] ∧ RoomIs C n H p l d q ds ns pl sz nb ∧ ∀ (r : Addr) (H' : Hp), Same H H' → H' r = some (.tup (iv ns)) → Q (.ref r) H'
theorem ok_stand {C : Addr} (R : RmT K mg C) (T : Txt2 mg) (F : MFun K C "stand" "Room.stand" ["self"] s_Room__stand) : MCal P w K mg base C "stand" ["self"] 1 (spStand C) := by
  have S := sc_Room__stand
  have CA := R.ca
  refine F.cal sc_Room__stand (fun vs H Q E h => ?_) (fun f cdv A outer s H vs Q E hr h => ?_)
  · obtain ⟨p, l, d, q, n, ds, ns, pl, sz, nb, rfl, _⟩ := h; rfl
  obtain ⟨p, l, d, q, n, ds, ns, pl, sz, nb, rfl, RI, k⟩ := h
  obtain ⟨⟨kvs, dv, ⟨⟨dx, h1⟩, hl, hd, hq, lq⟩, _⟩, _, _⟩ := id RI
  refine ⟨_, (@pss_one _ _ _ (@ps_ret _ _ _ _ (@pe_callTy _ _ _ _ _ _ _ _ _ call_tuple_of (by rfl) (by exact T.z_tuple) (by exact bt_tuple) (@pa_consN _ _ _ _ _ (@pe_fld _ _ _ _ _ (pv 0) (by rfl)) pa_nil (by first|rfl|decide|exact .inl rfl|exact .inr rfl|(intros; rfl))) (by first|rfl|decide|exact .inl rfl|exact .inr rfl|(intros; rfl)) (by first|rfl|decide|exact .inl rfl|exact .inr rfl|(intros; rfl)) (by first|rfl|decide|exact .inl rfl|exact .inr rfl|(intros; rfl)) (by first|rfl|decide|exact .inl rfl|exact .inr rfl|(intros; rfl))))), ?_⟩
  refine ⟨_, rfl, p, C, dx, _, _, rfl, h1, CA.cl, R.n1, flds_num _ _ _ _, l, _, rfl, .inl ⟨SqL.of hl, fun t ht => ?_⟩⟩
  exact k t _ (same_new ht _) upd_same
noncomputable def spLoadR (C : Addr) : Sp := fun vs H Q _ => ∃ (p l d q : Addr) (n : Nat) (ds : List Deed) (ns : List Int) (pl : Int → Option Int) (sz : Nat) (nb : Int), vs = [.ref p] ∧ RoomIs C n H p l d q ds ns pl sz nb ∧ ns.length < 64 ∧ ∀ (r : Addr) (ms : List Int) (H' : Hp), Same H H' → ms.Perm ns → ms.Pairwise (· ≥ ·) → H' r = some (.tup (iv ms)) → Q (.ref r) H'
theorem ok_loadR {C : Addr} (R : RmT K mg C) (T : Txt2 mg) (C_falling : Cal P w K mg base "falling" ["numbers"] 1 spFalling) (F : MFun K C "load" "Room.load" ["self"] s_Room__load) : MCal P w K mg base C "load" ["self"] 2 (spLoadR C) := by
  have S := sc_Room__load
  have CA := R.ca
  refine F.cal sc_Room__load (fun vs H Q E h => ?_) (fun f cdv A outer s H vs Q E hr h => ?_)
  · obtain ⟨p, l, d, q, n, ds, ns, pl, sz, nb, rfl, _⟩ := h; rfl
  obtain ⟨p, l, d, q, n, ds, ns, pl, sz, nb, rfl, RI, h64, k⟩ := h
  obtain ⟨⟨kvs, dv, ⟨⟨dx, h1⟩, hl, hd, hq, lq⟩, _⟩, _, _⟩ := id RI
  refine ⟨_, (@pss_one _ _ _ (@ps_ret _ _ _ _ (@cc _ _ _ _ _ _ _ _ _ _ (by exact C_falling) (by exact (hr.mono (by decide))) (@pa_consN _ _ _ _ _ (@pe_fld _ _ _ _ _ (pv 0) (by rfl)) pa_nil (by first|rfl|decide|exact .inl rfl|exact .inr rfl|(intros; rfl))) (by first|rfl|decide|exact .inl rfl|exact .inr rfl|(intros; rfl)) (by first|rfl|decide|exact .inl rfl|exact .inr rfl|(intros; rfl)) (by first|rfl|decide|exact .inl rfl|exact .inr rfl|(intros; rfl)) (by first|rfl|decide|exact .inl rfl|exact .inr rfl|(intros; rfl))))), ?_⟩
  exact ⟨_, rfl, p, C, dx, _, _, rfl, h1, CA.cl, R.n1, flds_num _ _ _ _, l, ns, rfl, hl, h64, fun r ms H' pm od hr' s' => k r ms H' s' pm od hr'⟩
end
end My

set_option Elab.async false
set_option linter.all false
set_option maxRecDepth 100000
set_option maxHeartbeats 4000000
namespace My
open PySem L2 MA
/-! ### the law's own world beside a room -/
noncomputable def wL (n : Int) (ly : Addr) (kn : Int) (pa : Addr) : List (Key × V) := [(.inr "boxes", .int n), (.inr "lying", .ref ly), (.inr "known", .int kn), (.inr "past", .ref pa)]
theorem get_boxes {H : Hp} {p ly pa : Addr} {n kn : Int} (h : H p = some (.dK (wL n ly kn pa))) : DGet H p (.str "boxes") (some (.int n)) := by
  have := DGet.k (k := Sum.inr "boxes") h; exact this
theorem get_lying {H : Hp} {p ly pa : Addr} {n kn : Int} (h : H p = some (.dK (wL n ly kn pa))) : DGet H p (.str "lying") (some (.ref ly)) := by
  have := DGet.k (k := Sum.inr "lying") h; exact this
theorem get_known {H : Hp} {p ly pa : Addr} {n kn : Int} (h : H p = some (.dK (wL n ly kn pa))) : DGet H p (.str "known") (some (.int kn)) := by
  have := DGet.k (k := Sum.inr "known") h; exact this
theorem get_past {H : Hp} {p ly pa : Addr} {n kn : Int} (h : H p = some (.dK (wL n ly kn pa))) : DGet H p (.str "past") (some (.ref pa)) := by
  have := DGet.k (k := Sum.inr "past") h; exact this
theorem dput_known {H : Hp} {p ly pa : Addr} {n kn x : Int} (h : H p = some (.dK (wL n ly kn pa))) : DPut H p (.str "known") (.int x) (upd H p (.dK (wL n ly x pa))) := by
  have := DPut.k (k := Sum.inr "known") (v := .int x) h (by show 4 < sizeLine; decide); exact this
noncomputable def iV (e : Int × Int) : Int × V := (e.1, .int e.2)
noncomputable def lkV (lk : List (Int × Int)) : List (Key × V) := (lk.map iV).map kN
theorem lkV_val (b : Int) : ∀ lk : List (Int × Int), valV (lkV lk) (Sum.inl b : Key) = (lk.lookup b).map V.int
  | [] => valV_nil
  | (x, y) :: r => by
    by_cases e : x = b
    · subst e
      rw [show lkV ((x, y) :: r) = (Sum.inl x, V.int y) :: lkV r from rfl, valV_pos rfl, List.lookup_cons_self]; rfl
    · rw [show lkV ((x, y) :: r) = (Sum.inl x, V.int y) :: lkV r from rfl, valV_neg (fun z => e (Sum.inl.inj z)), lkV_val b r, List.lookup_cons]
      rw [show (b == x) = false by simpa using fun z : b = x => e z.symm]
theorem lkV_app (lk : List (Int × Int)) (e : Int × Int) : lkV (lk ++ [e]) = lkV lk ++ [(Sum.inl e.1, V.int e.2)] := by unfold lkV; rw [List.map_append, List.map_append]; rfl
theorem lkV_drop (b : Int) : ∀ lk : List (Int × Int), dropK (lkV lk) (Sum.inl b : Key) = lkV (lk.filter fun e => decide (e.1 ≠ b))
  | [] => rfl
  | (x, y) :: r => by
    by_cases e : x = b
    · rw [show lkV ((x, y) :: r) = (Sum.inl x, V.int y) :: lkV r from rfl, dropK_pos (by rw [e]), lkV_drop b r, List.filter_cons_of_neg (by simp [e])]
    · rw [show lkV ((x, y) :: r) = (Sum.inl x, V.int y) :: lkV r from rfl, dropK_neg (fun z => e (Sum.inl.inj z)), lkV_drop b r, List.filter_cons_of_pos (by simp [e])]; rfl
noncomputable def cntF (lk : List (Int × Int)) (i : Nat) : Int := ((lk.countP fun e => decide (e.2 = (i : Int)) : Nat) : Int)
theorem cnt_app (lk : List (Int × Int)) (b bx : Int) (i : Nat) : cntF (lk ++ [(b, bx)]) i = cntF lk i + if bx = (i : Int) then 1 else 0 := by
  unfold cntF
  rw [List.countP_append, List.countP_cons, List.countP_nil]
  by_cases e : bx = (i : Int) <;> simp [e]
theorem lookup_none : ∀ {lk : List (Int × Int)} {b : Int}, b ∉ lk.map (·.1) → lk.lookup b = none
  | [], _, _ => rfl
  | (x, y) :: r, b, h => by
    rw [List.map_cons, List.mem_cons, not_or] at h
    rw [List.lookup_cons, show (b == x) = false by simpa using h.1]
    exact lookup_none h.2
theorem filter_all {b : Int} : ∀ {lk : List (Int × Int)}, b ∉ lk.map (·.1) → (lk.filter fun e => decide (e.1 ≠ b)) = lk
  | [], _ => rfl
  | (x, y) :: r, h => by
    rw [List.map_cons, List.mem_cons, not_or] at h
    rw [List.filter_cons_of_pos (by simpa using fun z : x = b => h.1 z.symm), filter_all h.2]
theorem cnt_drop {b bx : Int} (i : Nat) : ∀ {lk : List (Int × Int)}, (lk.map (·.1)).Nodup → lk.lookup b = some bx → cntF (lk.filter fun e => decide (e.1 ≠ b)) i = cntF lk i - if bx = (i : Int) then 1 else 0
  | [], _, h => by cases h
  | (x, y) :: r, nd, h => by
    rw [List.map_cons, List.nodup_cons] at nd
    by_cases e : x = b
    · subst e
      rw [List.lookup_cons_self] at h
      cases h
      rw [List.filter_cons_of_neg (by simp), filter_all nd.1]
      unfold cntF
      rw [List.countP_cons]
      by_cases e : bx = (i : Int) <;> simp [e]
    · rw [List.lookup_cons, show (b == x) = false by simpa using fun z : b = x => e z.symm] at h
      rw [List.filter_cons_of_pos (by simpa using e)]
      have ih := cnt_drop i nd.2 h
      unfold cntF at ih ⊢
      rw [List.countP_cons, List.countP_cons]
      omega
theorem drop_len {b bx : Int} : ∀ {lk : List (Int × Int)}, (lk.map (·.1)).Nodup → lk.lookup b = some bx → (lk.filter fun e => decide (e.1 ≠ b)).length + 1 = lk.length
  | [], _, h => by cases h
  | (x, y) :: r, nd, h => by
    rw [List.map_cons, List.nodup_cons] at nd
    by_cases e : x = b
    · subst e
      rw [List.filter_cons_of_neg (by simp), filter_all nd.1]; rfl
    · rw [List.lookup_cons, show (b == x) = false by simpa using fun z : b = x => e z.symm] at h
      rw [List.filter_cons_of_pos (by simpa using e), List.length_cons, List.length_cons, drop_len nd.2 h]
theorem nd_drop {b : Int} {lk : List (Int × Int)} (h : (lk.map (·.1)).Nodup) : ((lk.filter fun e => decide (e.1 ≠ b)).map (·.1)).Nodup := h.sublist (List.Sublist.map _ List.filter_sublist)
theorem lookup_app (lk : List (Int × Int)) (b bx : Int) (h : lk.lookup b = none) (j : Int) : (lk ++ [(b, bx)]).lookup j = if j = b then some bx else lk.lookup j := by
  induction lk with
  | nil =>
    rw [List.nil_append, List.lookup_cons]
    by_cases e : j = b
    · subst e; simp
    · rw [if_neg e, show (j == b) = false by simpa using e]
  | cons a r ih =>
    obtain ⟨x, y⟩ := a
    rw [List.cons_append, List.lookup_cons]
    rw [List.lookup_cons] at h
    by_cases e : j = x
    · subst e
      rw [show (j == j) = true by simp, List.lookup_cons, show (j == j) = true by simp]
      by_cases e2 : j = b
      · subst e2; rw [show (j == j) = true by simp] at h; cases h
      · rw [if_neg e2]
    · rw [show (j == x) = false by simpa using e]
      rw [List.lookup_cons, show (j == x) = false by simpa using e]
      refine ih ?_
      by_cases e3 : b = x
      · subst e3; rw [show (b == b) = true by simp] at h; cases h
      · rwa [show (b == x) = false by simpa using e3] at h
theorem lookup_drop (b j : Int) : ∀ lk : List (Int × Int), (lk.filter fun e => decide (e.1 ≠ b)).lookup j = if j = b then none else lk.lookup j
  | [] => by simp
  | (x, y) :: r => by
    by_cases e : x = b
    · subst e
      rw [List.filter_cons_of_neg (by simp), lookup_drop x j r]
      by_cases e2 : j = x
      · rw [if_pos e2, if_pos e2]
      · rw [if_neg e2, if_neg e2, List.lookup_cons, show (j == x) = false by simpa using e2]
    · rw [List.filter_cons_of_pos (by simpa using e), List.lookup_cons, List.lookup_cons, lookup_drop b j r]
      by_cases e2 : j = x
      · subst e2; simp [e]
      · rw [show (j == x) = false by simpa using e2]
theorem lookup_of : ∀ {lk : List (Int × Int)} {e : Int × Int}, (lk.map (·.1)).Nodup → e ∈ lk → lk.lookup e.1 = some e.2
  | [], _, _, h => by cases h
  | (x, y) :: r, e, nd, h => by
    rw [List.map_cons, List.nodup_cons] at nd
    rcases List.mem_cons.mp h with z | z
    · subst z; exact List.lookup_cons_self
    · rw [List.lookup_cons, show (e.1 == x) = false by
        have : e.1 ∈ r.map (·.1) := List.mem_map_of_mem z
        simpa using fun z : e.1 = x => nd.1 (z ▸ this)]
      exact lookup_of nd.2 z
theorem inc_get {ns : List Int} {bx : Int} (h0 : 0 ≤ bx) (h1 : bx < ns.length) (i : Nat) (hi : i < ns.length) : (inc ns bx).getD i 0 = ns.getD i 0 + if bx = (i : Int) then 1 else 0 := by
  unfold inc
  by_cases e : bx = (i : Int)
  · subst e
    rw [if_pos rfl, show ((i : Int)).toNat = i from rfl, getD_set hi]
  · rw [if_neg e, Int.add_zero, List.getD_eq_getElem?_getD, List.getElem?_set_ne (by omega), ← List.getD_eq_getElem?_getD]
theorem dec_get {ns : List Int} {bx : Int} (h0 : 0 ≤ bx) (h1 : bx < ns.length) (i : Nat) (hi : i < ns.length) : (dec ns bx).getD i 0 = ns.getD i 0 - if bx = (i : Int) then 1 else 0 := by
  unfold dec
  by_cases e : bx = (i : Int)
  · subst e
    rw [if_pos rfl, show ((i : Int)).toNat = i from rfl, getD_set hi]
  · rw [if_neg e, Int.sub_zero, List.getD_eq_getElem?_getD, List.getElem?_set_ne (by omega), ← List.getD_eq_getElem?_getD]
/-! ### room and world together -/
structure Ad where
  p : Addr
  l : Addr
  d : Addr
  q : Addr
  wd : Addr
  ly : Addr
  pa : Addr
noncomputable def Ad.all (a : Ad) : List Addr := [a.p, a.l, a.d, a.q, a.wd, a.ly, a.pa]
structure Sx where
  ds : List Deed
  ns : List Int
  pl : Int → Option Int
  sz : Nat
  nb : Int
noncomputable def pword (b : Bool) : Str := if b then "come" else "gone"
inductive Past (H : Hp) : List V → List Deed → Prop
  | nil : Past H [] []
  | snoc {dv : List V} {ds : List Deed} {t : Addr} {x : Deed} : H t = some (.tup [.str (pword x.1), .int x.2.1, .int x.2.2]) → Past H dv ds → Past H (dv ++ [.ref t]) (x :: ds)
theorem Past.mono {H H' : Hp} (s : ∀ a xs, H a = some (.tup xs) → H' a = some (.tup xs)) {dv : List V} {ds : List Deed} (h : Past H dv ds) : Past H' dv ds := by
  induction h with
  | nil => exact .nil
  | snoc e _ ih => exact .snoc (s _ _ e) ih
theorem Past.len {H : Hp} {dv : List V} {ds : List Deed} (h : Past H dv ds) : dv.length = ds.length := by
  induction h with
  | nil => rfl
  | snoc e _ ih => simp [ih]
/-- what the law keeps: where the balls lie, how many lie in each box -/
structure LyIs (n : Nat) (lk : List (Int × Int)) (x : Sx) : Prop where
  len : lk.length = x.sz
  nd : (lk.map (·.1)).Nodup
  val : ∀ b, lk.lookup b = x.pl b
  cnt : ∀ i, i < n → x.ns.getD i 0 = cntF lk i
structure RW (C : Addr) (n : Nat) (H : Hp) (a : Ad) (x : Sx) : Prop where
  r : RoomIs C n H a.p a.l a.d a.q x.ds x.ns x.pl x.sz x.nb
  wd : H a.wd = some (.dK (wL n a.ly x.nb a.pa))
  ly : ∃ lk, H a.ly = some (.dK (lkV lk)) ∧ LyIs n lk x
  pa : ∃ pv, H a.pa = some (.lst pv) ∧ Past H pv x.ds
  low : ∀ k ns' pl' sz', Hist n (x.ds.drop k) ns' pl' sz' → sz' ≤ 60
  nd : a.all.Nodup
/-- all but the room and its world -/
noncomputable def Off (L : List Addr) (H H' : Hp) : Prop := ∀ b o, H b = some o → b ∉ L → H' b = some o
theorem Off.trans {L : List Addr} {H H1 H2 : Hp} (a : Off L H H1) (b : Off L H1 H2) : Off L H H2 := fun c o e h => b c o (a c o e h) h
theorem Off.of {L : List Addr} {H H1 : Hp} (s : Same H H1) : Off L H H1 := fun c o e _ => s _ _ e
theorem Off.refl (L : List Addr) (H : Hp) : Off L H H := fun _ _ e _ => e
theorem Off.mono {L M : List Addr} {H H1 : Hp} (h : Off L H H1) (k : ∀ b ∈ L, b ∈ M) : Off M H H1 := fun c o e n => h c o e fun z => n (k c z)
theorem RW.szl {C : Addr} {n : Nat} {H : Hp} {a : Ad} {x : Sx} (R : RW C n H a x) : x.sz ≤ 60 := R.low 0 _ _ _ R.r.hs
theorem RW.keep {C : Addr} {n : Nat} {H H' : Hp} {a : Ad} {x : Sx} (R : RW C n H a x) (h1 : ∀ b o, H b = some o → b ∈ a.all → H' b = some o) (h2 : ∀ b xs, H b = some (.tup xs) → H' b = some (.tup xs)) : RW C n H' a x := by
  obtain ⟨⟨⟨kvs, dv, ⟨⟨dx, e1⟩, e2, e3, e4, e5⟩, De, r⟩, hs, lo⟩, w1, ⟨lk, w2, w3⟩, ⟨pv, w4, w5⟩, low, nd⟩ := R
  exact ⟨⟨⟨kvs, dv, ⟨⟨dx, h1 _ _ e1 (by simp [Ad.all])⟩, h1 _ _ e2 (by simp [Ad.all]), h1 _ _ e3 (by simp [Ad.all]), h1 _ _ e4 (by simp [Ad.all]), e5⟩, De.mono h2, r⟩, hs, lo⟩, h1 _ _ w1 (by simp [Ad.all]), ⟨lk, h1 _ _ w2 (by simp [Ad.all]), w3⟩, ⟨pv, h1 _ _ w4 (by simp [Ad.all]), w5.mono h2⟩, low, nd⟩
theorem RW.same {C : Addr} {n : Nat} {H H' : Hp} {a : Ad} {x : Sx} (R : RW C n H a x) (s : Same H H') : RW C n H' a x := R.keep (fun b o e _ => s _ _ e) fun b xs e => s _ _ e
/-- a tuple, a table, the room's own list are none of the room's things -/
theorem RW.out {C : Addr} {n : Nat} {H : Hp} {a : Ad} {x : Sx} (R : RW C n H a x) {b : Addr} {o : HO} (e : H b = some o) (h1 : ∀ C dx fs, o ≠ .ins C dx fs) (h2 : ∀ xs, o ≠ .lst xs) (h3 : ∀ kvs, o ≠ .dK kvs) : b ∉ a.all := by
  obtain ⟨⟨⟨kvs, dv, ⟨⟨dx, e1⟩, e2, e3, e4, e5⟩, De, r⟩, hs, lo⟩, w1, ⟨lk, w2, w3⟩, ⟨pv, w4, w5⟩, low, nd⟩ := R
  unfold Ad.all
  simp only [List.mem_cons, List.not_mem_nil, or_false, not_or]
  exact ⟨ne_of e e1 (h1 _ _ _), ne_of e e2 (h2 _), ne_of e e3 (h3 _), ne_of e e4 (h2 _), ne_of e w1 (h3 _), ne_of e w2 (h3 _), ne_of e w4 (h2 _)⟩
theorem RW.tup {C : Addr} {n : Nat} {H H' : Hp} {a : Ad} {x : Sx} (R : RW C n H a x) (s : Off a.all H H') {b : Addr} {xs : List V} (e : H b = some (.tup xs)) : H' b = some (.tup xs) := s b _ e (R.out e (fun _ _ _ z => nomatch z) (fun _ z => nomatch z) (fun _ z => nomatch z))
theorem RW.tab {C : Addr} {n : Nat} {H H' : Hp} {a : Ad} {x : Sx} (R : RW C n H a x) (s : Off a.all H H') {b : Addr} {z : Str} (e : H b = some (.tab z)) : H' b = some (.tab z) := s b _ e (R.out e (fun _ _ _ z => nomatch z) (fun _ z => nomatch z) (fun _ z => nomatch z))
/-- the pen is none of them -/
noncomputable def PenW (L : List Addr) (H : Hp) (p : Addr) (n : Nat) : Prop := ∃ (c : Addr) (ns : List Int) (a l : Int), H p = some (.dK (penL c a l)) ∧ H c = some (.lst (ns.map V.int)) ∧ 0 ≤ a ∧ a ≤ n ∧ c ∉ L ∧ p ∉ L
theorem PenW.pen {L : List Addr} {H : Hp} {p : Addr} {n : Nat} (h : PenW L H p n) : Pen H p n := let ⟨c, ns, a, l, h1, h2, h3, h4, _⟩ := h; ⟨c, ns, a, l, h1, h2, h3, h4⟩
theorem PenW.draw {L : List Addr} {H H' : Hp} {p : Addr} {n m : Nat} (h : PenW L H p n) (x : SameX p H H') (q : Pen H' p m) : PenW L H' p m := by
  obtain ⟨c, ns, a, l, h1, h2, h3, h4, h5, h6⟩ := h
  obtain ⟨c', ns', a', l', g1, g2, g3, g4⟩ := q
  obtain ⟨a2, l2, e⟩ := x.pen c a l h1
  rw [g1] at e
  have e2 := HO.dK.inj (Option.some.inj e)
  unfold penL at e2
  simp only [List.cons.injEq, Prod.mk.injEq, true_and, V.ref.injEq] at e2
  obtain ⟨rfl, _⟩ := e2
  exact ⟨c', ns', a', l', g1, g2, g3, g4, h5, h6⟩
theorem PenW.off {L : List Addr} {H H' : Hp} {p : Addr} {n : Nat} (h : PenW L H p n) (s : Off L H H') : PenW L H' p n := by
  obtain ⟨c, ns, a, l, h1, h2, h3, h4, h5, h6⟩ := h
  exact ⟨c, ns, a, l, s _ _ h1 h6, s _ _ h2 h5, h3, h4, h5, h6⟩
theorem PenW.same {L : List Addr} {H H' : Hp} {p : Addr} {n : Nat} (h : PenW L H p n) (s : Same H H') : PenW L H' p n := h.off (Off.of s)
theorem PenW.mono {L : List Addr} {H : Hp} {p : Addr} {n m : Nat} (h : PenW L H p n) (z : n ≤ m) : PenW L H p m := by
  obtain ⟨c, ns, a, l, h1, h2, h3, h4, h5, h6⟩ := h
  exact ⟨c, ns, a, l, h1, h2, h3, by omega, h5, h6⟩
theorem PenW.nl {L : List Addr} {H : Hp} {p : Addr} {n : Nat} (h : PenW L H p n) : p ∉ L := let ⟨_, _, _, _, _, _, _, _, _, h6⟩ := h; h6
theorem RW.pen {C : Addr} {n : Nat} {H H' : Hp} {a : Ad} {x : Sx} {p : Addr} {m : Nat} {L : List Addr} (R : RW C n H a x) (pw : PenW L H p m) (k : ∀ b ∈ a.all, b ∈ L) (s : SameX p H H') : RW C n H' a x :=
  R.keep (fun b o e hb => s.all b o e fun z => pw.nl (z ▸ k b hb)) fun b xs e => pw.pen.keep s e
theorem all_ne {p l d q wd ly pa : Addr} (h : (Ad.all ⟨p, l, d, q, wd, ly, pa⟩).Nodup) : (p ≠ l ∧ p ≠ d ∧ p ≠ q ∧ p ≠ wd ∧ p ≠ ly ∧ p ≠ pa) ∧ (l ≠ d ∧ l ≠ q ∧ l ≠ wd ∧ l ≠ ly ∧ l ≠ pa) ∧ (d ≠ q ∧ d ≠ wd ∧ d ≠ ly ∧ d ≠ pa) ∧ (q ≠ wd ∧ q ≠ ly ∧ q ≠ pa) ∧ (wd ≠ ly ∧ wd ≠ pa) ∧ ly ≠ pa := by
  simp only [Ad.all, List.nodup_cons, List.mem_cons, List.not_mem_nil, or_false, not_or, List.nodup_nil, and_true, not_false_eq_true] at h
  exact h
/-- what the room's own deed leaves of the world -/
theorem RW.offR {C : Addr} {n : Nat} {H H' : Hp} {a : Ad} {x : Sx} (R : RW C n H a x) (s : SR a.p a.l a.d a.q H H') {lk : List (Int × Int)} {pv : List V} (hl : H a.ly = some (.dK (lkV lk))) (hp : H a.pa = some (.lst pv)) : H' a.wd = some (.dK (wL n a.ly x.nb a.pa)) ∧ H' a.ly = some (.dK (lkV lk)) ∧ H' a.pa = some (.lst pv) := by
  obtain ⟨p, l, d, q, wd, ly, pa⟩ := a
  obtain ⟨⟨_, _, _, p4, p5, p6⟩, ⟨_, _, l4, l5, l6⟩, ⟨_, d4, d5, d6⟩, ⟨q4, q5, q6⟩, _⟩ := all_ne R.nd
  exact ⟨s _ _ R.wd (Ne.symm p4) (Ne.symm l4) (Ne.symm d4) (Ne.symm q4), s _ _ hl (Ne.symm p5) (Ne.symm l5) (Ne.symm d5) (Ne.symm q5), s _ _ hp (Ne.symm p6) (Ne.symm l6) (Ne.symm d6) (Ne.symm q6)⟩
theorem SR.off {a : Ad} {H H' : Hp} (s : SR a.p a.l a.d a.q H H') : Off a.all H H' := fun b o e hb => by
  simp only [Ad.all, List.mem_cons, List.not_mem_nil, or_false, not_or] at hb
  exact s b o e hb.1 hb.2.1 hb.2.2.1 hb.2.2.2.1
theorem RoomIs.keepR {C : Addr} {n : Nat} {H H' : Hp} {p l d q : Addr} {ds : List Deed} {ns : List Int} {pl : Int → Option Int} {sz : Nat} {nb : Int} (R : RoomIs C n H p l d q ds ns pl sz nb) (h1 : ∀ b o, H b = some o → b = p ∨ b = l ∨ b = d ∨ b = q → H' b = some o) (h2 : ∀ b xs, H b = some (.tup xs) → H' b = some (.tup xs)) : RoomIs C n H' p l d q ds ns pl sz nb := by
  obtain ⟨⟨kvs, dv, ⟨⟨dx, e1⟩, e2, e3, e4, e5⟩, De, r⟩, hs, lo⟩ := R
  exact ⟨⟨kvs, dv, ⟨⟨dx, h1 _ _ e1 (.inl rfl)⟩, h1 _ _ e2 (.inr (.inl rfl)), h1 _ _ e3 (.inr (.inr (.inl rfl))), h1 _ _ e4 (.inr (.inr (.inr rfl))), e5⟩, De.mono h2, r⟩, hs, lo⟩
theorem low_cons {n : Nat} {e : Deed} {ds : List Deed} {ns : List Int} {pl : Int → Option Int} {sz : Nat} (low : ∀ k ns' pl' sz', Hist n (ds.drop k) ns' pl' sz' → sz' ≤ 60) (h : Hist n (e :: ds) ns pl sz) (hz : sz ≤ 60) : ∀ k ns' pl' sz', Hist n ((e :: ds).drop k) ns' pl' sz' → sz' ≤ 60 := fun k ns' pl' sz' g => by
  cases k with
  | zero => obtain ⟨_, _, rfl⟩ := h.det g; exact hz
  | succ k => exact low k ns' pl' sz' g
theorem LyIs.put {n : Nat} {lk : List (Int × Int)} {x : Sx} (L : LyIs n lk x) (hl : x.ns.length = n) {bx : Int} (h0 : 0 ≤ bx) (h1 : bx < n) {b nb : Int} (hb : x.pl b = none) {ds : List Deed} : LyIs n (lk ++ [(b, bx)]) ⟨ds, inc x.ns bx, updf x.pl b (some bx), x.sz + 1, nb⟩ := by
  have nn : b ∉ lk.map (·.1) := fun z => by
    obtain ⟨e, he, rfl⟩ := List.mem_map.mp z
    have := lookup_of L.nd he
    rw [L.val, hb] at this; cases this
  refine ⟨by simp [L.len], ?_, fun j => ?_, fun i hi => ?_⟩
  · rw [List.map_append]; exact nd_snoc L.nd nn
  · rw [lookup_app _ _ _ (lookup_none nn)]
    show _ = updf x.pl b (some bx) j
    unfold updf
    rw [L.val]
  · show (inc x.ns bx).getD i 0 = _
    rw [inc_get h0 (by omega) i (by omega), cnt_app, L.cnt i hi]
theorem LyIs.drop {n : Nat} {lk : List (Int × Int)} {x : Sx} (L : LyIs n lk x) (hl : x.ns.length = n) {bx : Int} (h0 : 0 ≤ bx) (h1 : bx < n) {b nb : Int} (hb : x.pl b = some bx) {ds : List Deed} : LyIs n (lk.filter fun e => decide (e.1 ≠ b)) ⟨ds, dec x.ns bx, updf x.pl b none, x.sz - 1, nb⟩ := by
  have hb' : lk.lookup b = some bx := by rw [L.val]; exact hb
  refine ⟨?_, nd_drop L.nd, fun j => ?_, fun i hi => ?_⟩
  · have := drop_len L.nd hb'
    show _ = x.sz - 1
    rw [← L.len]; omega
  · rw [lookup_drop]
    show _ = updf x.pl b none j
    unfold updf
    rw [L.val]
  · show (dec x.ns bx).getD i 0 = _
    rw [dec_get h0 (by omega) i (by omega), cnt_drop i L.nd hb', L.cnt i hi]
end My

set_option Elab.async false
set_option linter.all false
set_option maxRecDepth 100000
set_option maxHeartbeats 4000000
namespace My
open PySem L2 MA
section
variable {P : Program} {w : World} {K : PySem.W.Frag} {mg : Str → Option Value} {base : Heap}
noncomputable def cntL (n : Nat) (lk : List (Int × Int)) : List Int := (List.range n).map (cntF lk)
theorem cntL_len (n : Nat) (lk : List (Int × Int)) : (cntL n lk).length = n := by simp [cntL]
theorem cntL_get {n : Nat} {lk : List (Int × Int)} {i : Nat} (h : i < n) : (cntL n lk).getD i 0 = cntF lk i := by unfold cntL; simp [h]
theorem cntL_eq {n : Nat} {lk : List (Int × Int)} {ns : List Int} (hl : ns.length = n) (h : ∀ i, i < n → ns.getD i 0 = cntF lk i) : cntL n lk = ns := by
  refine List.ext_getElem (by rw [cntL_len, hl]) fun i h1 h2 => ?_
  rw [← getD_of h1, ← getD_of h2, cntL_get (by rw [cntL_len] at h1; exact h1), h i (by omega)]
theorem cntL_snoc {n : Nat} (lk : List (Int × Int)) {b bx : Int} (h0 : 0 ≤ bx) (h1 : bx < n) : cntL n (lk ++ [(b, bx)]) = inc (cntL n lk) bx := by
  refine cntL_eq (by rw [inc_len, cntL_len]) fun i hi => ?_
  rw [inc_get h0 (by rw [cntL_len]; exact h1) i (by rw [cntL_len]; exact hi), cntL_get hi, cnt_app]
theorem cntL_nil (n : Nat) : cntL n [] = List.replicate n 0 := by
  refine cntL_eq (by simp) fun i hi => ?_
  simp [cntF, hi]
noncomputable def spCounts : Sp := fun vs H Q _ => ∃ (wd ly pa : Addr) (n : Nat) (kn : Int) (lk : List (Int × Int)), vs = [.ref wd] ∧ H wd = some (.dK (wL n ly kn pa)) ∧ H ly = some (.dK (lkV lk)) ∧ 1 ≤ n ∧ n ≤ 6 ∧ lk.length ≤ 60 ∧ (lk.map (·.1)).Nodup ∧ (∀ e ∈ lk, 0 ≤ e.2 ∧ e.2 < n) ∧
  ∀ (q : Addr) (H' : Hp), H q = none → Same H H' → H' q = some (.lst (iv (cntL n lk))) → Q (.ref q) H'
theorem getF {H : Hp} {d : Addr} {o : Obj} {lk : List (Int × Int)} {i : Nat} {e : Int × Int} (h : H d = some (.frz o (.dK (lkV lk)))) (nd : (lk.map (·.1)).Nodup) (hi : lk[i]? = some e) : DGet H d (.int e.1) (some (.int e.2)) := by
  refine .inl ⟨_, Sum.inl e.1, .inr ⟨o, h⟩, rfl, ?_⟩
  rw [lkV_val]
  have : lk.lookup e.1 = some e.2 := by
    clear h
    induction lk generalizing i with
    | nil => simp at hi
    | cons a r ih =>
      obtain ⟨x, y⟩ := a
      rw [List.map_cons, List.nodup_cons] at nd
      cases i with
      | zero => simp at hi; subst hi; exact List.lookup_cons_self
      | succ i =>
        have hi' : r[i]? = some e := by simpa using hi
        rw [List.lookup_cons, show (e.1 == x) = false by
          have : e.1 ∈ r.map (·.1) := List.mem_map_of_mem (List.mem_of_getElem? hi')
          simpa using fun z : e.1 = x => nd.1 (z ▸ this)]
        exact ih nd.2 hi'
  rw [this]; rfl
theorem ok_counts (T : Txt2 mg) (F : FunAt K mg "_law_counts" ["_law_world"] s_l_counts) : Cal P w K mg base "_law_counts" ["_law_world"] 1 spCounts := by
  have S := sc_l_counts
  refine F.cal sc_l_counts (fun vs H Q E h => ?_) (fun f cdv A outer s H vs Q E hr h => ?_)
  · obtain ⟨wd, ly, pa, n, kn, lk, rfl, _⟩ := h; rfl
  obtain ⟨wd, ly, pa, n, kn, lk, rfl, hw, hl, n1, n6, l60, nd, rg, k⟩ := h
  have hu := hu_of hr
  have hu1 := hu_of hr
  refine ⟨_, (@pss_cons _ _ _ _ _ (@ps_set _ _ (1) _ _ _ _ (by exact S.nd) (by rfl) (by first | exact Or.inl rfl | exact Or.inr rfl) (@pe_op _ _ _ _ _ _ _ _ op_rep (@pe_lst _ _ _ _ (@pa_consN _ _ _ _ _ pe_int pa_nil (by first|rfl|decide|exact .inl rfl|exact .inr rfl|(intros; rfl)))) (@pe_dget _ _ _ _ _ _ (by exact hu) (pv 0) pe_str (by exact (fun _ _ => rfl)))) (by first|rfl|decide|exact .inl rfl|exact .inr rfl|(intros; rfl)) (by first|rfl|decide|exact .inl rfl|exact .inr rfl|(intros; rfl))) (@pss_cons _ _ _ _ _ (@ps_thawK _ _ _ (@ps_for _ _ _ _ _ _ _ _ (by exact PassesOwn.never) (by rfl) (@pi_keysK _ _ _ _ (@pe_dget _ _ _ _ _ _ (by exact hu) (pv 0) pe_str (by exact (fun _ _ => rfl)))) (@pg_name _ _ (2) _ (by exact S.nd) (by rfl) (by first | exact Or.inl rfl | exact Or.inr rfl) (by first|rfl|decide|exact .inl rfl|exact .inr rfl|(intros; rfl))) (@pss_one _ _ _ (@ps_asg _ _ _ _ _ _ (@pe_op _ _ _ _ _ _ _ _ op_add (@pe_ix _ _ _ _ _ _ _ ix_list (pv 1) (@pe_dget _ _ _ _ _ _ (by exact hu1) (@pe_dget _ _ _ _ _ _ (by exact hu) (pv 0) pe_str (by exact (fun _ _ => rfl))) (pv 2) (by exact (fun _ _ => rfl))) (by exact (fun _ _ => rfl))) pe_int) (@pg_sub _ _ _ _ _ _ _ (pv 1) (@pe_dget _ _ _ _ _ _ (by exact hu1) (@pe_dget _ _ _ _ _ _ (by exact hu) (pv 0) pe_str (by exact (fun _ _ => rfl))) (pv 2) (by exact (fun _ _ => rfl))) set_list (by first|rfl|decide|exact .inl rfl|exact .inr rfl|(intros; rfl))) (by first|rfl|decide|exact .inl rfl|exact .inr rfl|(intros; rfl)) (by first|rfl|decide|exact .inl rfl|exact .inr rfl|(intros; rfl)) (by first|rfl|decide|exact .inl rfl|exact .inr rfl|(intros; rfl)))) (by first|rfl|decide|exact .inl rfl|exact .inr rfl|(intros; rfl)))) (@pss_one _ _ _ (@ps_ret _ _ _ _ (pv 1))))), ?_⟩
  refine ⟨lz 1 rfl, fun a1 ha1 => ⟨_, rfl, wd, _, rfl, get_boxes (same_new ha1 _ _ _ hw), a1, n, _, rfl, rfl, upd_same, by omega, by omega, (by rw [sizeLine_eq]; simp; omega), fun acc hacc => ?_⟩⟩
  rw [rep1', Int.toNat_natCast, ← cntL_nil]
  have s1 := (same_new ha1 (.lst [.int 0])).trans (same_new hacc (.lst (iv (cntL n []))))
  have ea : (upd (upd H a1 (.lst [.int 0])) acc (.lst (iv (cntL n [])))) acc = some (.lst (iv (cntL n []))) := upd_same
  have hacc0 : H acc = none := by
    cases e : H acc with
    | none => rfl
    | some o => rw [same_new ha1 _ _ _ e] at hacc; cases hacc
  generalize upd (upd H a1 (.lst [.int 0])) acc (.lst (iv (cntL n []))) = H1 at s1 ea
  have hw1 := s1 _ _ hw
  have hl1 := s1 _ _ hl
  have nal : ly ≠ acc := ne_of hl1 ea (by intro z; cases z)
  have naw : wd ≠ acc := ne_of hw1 ea (by intro z; cases z)
  have nwl : wd ≠ ly := ne_of hw1 hl1 (by
    intro z
    have := HO.dK.inj z
    cases lk with
    | nil => cases this
    | cons a r => cases this)
  refine ⟨ly, _, hl1, _, rfl, wd, _, rfl, get_lying hw1, ly, _, rfl, .inl ⟨hl1, fun o => for_Y (yields_keysK (kws := lk.map iV)) (fun i σ H' => Off [acc] (upd H1 ly (.frz o (.dK (lkV lk)))) H' ∧ H' acc = some (.lst (iv (cntL n (lk.take i)))) ∧ ∃ o2, σ = [some (.ref wd), some (.ref acc), o2]) ?_ ?_ ?_ ?_⟩⟩
  · refine ⟨Off.refl _ _, ?_, _, rfl⟩
    rw [upd_ne (Ne.symm nal)]; exact ea
  · rintro i σ H' ⟨off, _⟩
    exact off _ _ upd_same (by simpa using nal)
  · rintro i x σ H2 H3 hi ⟨off, hA, o2, rfl⟩ ⟨rfl, kw, rfl, hkw⟩
    rw [List.getElem?_map, Option.map_eq_some_iff] at hkw
    obtain ⟨e, he, rfl⟩ := hkw
    have hz := off _ _ (upd_same (H := H1) (a := ly) (o := .frz o (.dK (lkV lk)))) (by simpa using nal)
    have hwz : H3 wd = some (.dK (wL n ly kn pa)) := off _ _ (by rw [upd_ne nwl]; exact hw1) (by simpa using naw)
    obtain ⟨e0, e1⟩ := rg e (List.mem_of_getElem? he)
    have gl := get_lying hwz
    have gf := getF hz nd he
    obtain ⟨b, bx⟩ := e
    dsimp only at e0 e1
    obtain ⟨B, rfl⟩ : ∃ B : Nat, bx = (B : Int) := ⟨bx.toNat, by omega⟩
    have hB : B < (cntL n (lk.take i)).length := by rw [cntL_len]; omega
    refine ⟨_, rfl, _, rfl, wd, _, rfl, gl, _, rfl, ly, _, rfl, gf, acc, _, _, _, rfl, rfl, SqL.of hA, iv_atI hB, _, _, rfl, rfl, _, rfl, _, rfl, wd, _, rfl, gl, _, rfl, ly, _, rfl, gf, acc, _, (B : Int), B, rfl, rfl, hA, ixN_nat (by simpa using hB), ?_⟩
    rw [iv_set]
    refine ⟨fun c u hc hn => ?_, ?_, _, rfl⟩
    · rw [upd_ne (by simpa using hn)]; exact off c u hc hn
    · rw [upd_same, List.take_add_one, he]
      show _ = some (HO.lst (iv (cntL n (lk.take i ++ [(b, (B : Int))]))))
      rw [cntL_snoc _ e0 e1]
      rfl
  · rintro σ H2 ⟨off, hA, o2, rfl⟩
    have hz := off _ _ (upd_same (H := H1) (a := ly) (o := .frz o (.dK (lkV lk)))) (by simpa using nal)
    refine ⟨o, _, hz, _, rfl, k acc _ hacc0 (fun c u hc => ?_) ?_⟩
    · by_cases e : c = ly
      · subst e
        rw [upd_same]
        rw [hl] at hc; cases hc; rfl
      · rw [upd_ne e]
        exact off c u (by rw [upd_ne e]; exact s1 _ _ hc) (by simpa using ne_of_none hc hacc0)
    · rw [upd_ne (Ne.symm nal), hA, List.take_of_length_le (by simp)]
end
end My

set_option Elab.async false
set_option linter.all false
set_option maxRecDepth 100000
set_option maxHeartbeats 4000000
namespace My
open PySem L2 MA
theorem gN_ {i : Nat} {v : V} {σ : St} {H : Hp} {Q : St → Hp → Prop} (h : Q (σ.set i (some v)) H) : gName i v σ H Q := h
theorem atI_at {ns : List Int} {b : Int} (h0 : 0 ≤ b) (h : b.toNat < ns.length) : atI (iv ns) b = some (.int (ns.getD b.toNat 0)) := by
  obtain ⟨B, rfl⟩ : ∃ B : Nat, b = (B : Int) := ⟨b.toNat, by omega⟩
  exact iv_atI h
theorem atI_0 (b : Int) (rs : List Int) : atI (iv (b :: rs)) 0 = some (.int b) := iv_atI (show 0 < (b :: rs).length from Nat.succ_pos _)
theorem lkV_len (lk : List (Int × Int)) : (lkV lk).length = lk.length := by simp [lkV]
theorem out_none {C : Addr} {n : Nat} {H : Hp} {a : Ad} {ds : List Deed} {ns : List Int} {pl : Int → Option Int} {sz : Nat} {nb : Int} (RI : RoomIs C n H a.p a.l a.d a.q ds ns pl sz nb) {o1 o2 o3 : HO} (h1 : H a.wd = some o1) (h2 : H a.ly = some o2) (h3 : H a.pa = some o3) {b : Addr} (hb : H b = none) : b ∉ a.all := by
  obtain ⟨⟨kvs, dv, ⟨⟨dx, e1⟩, e2, e3, e4, _⟩, _⟩, _⟩ := RI
  have f : ∀ {c : Addr} {o : HO}, H c = some o → b ≠ c := fun e z => by rw [z, e] at hb; cases hb
  simp only [Ad.all, List.mem_cons, List.not_mem_nil, or_false, not_or]
  exact ⟨f e1, f e2, f e3, f e4, f h1, f h2, f h3⟩
theorem Hist.put_inv {n : Nat} {b bx : Int} {ds : List Deed} {ns ns0 : List Int} {pl pl0 : Int → Option Int} {sz sz0 : Nat} (h : Hist n ((true, b, bx) :: ds) ns pl sz) (h0 : Hist n ds ns0 pl0 sz0) : pl0 b = none ∧ 0 ≤ bx ∧ bx < n := by
  cases h with
  | put h pn b0 b1 =>
    obtain ⟨rfl, rfl, rfl⟩ := h.det h0
    exact ⟨pn, b0, b1⟩
theorem find_congr {p q : Int → Bool} : ∀ {l : List Int}, (∀ b ∈ l, p b = q b) → l.find? p = l.find? q
  | [], _ => rfl
  | a :: r, h => by rw [List.find?_cons, List.find?_cons, h a List.mem_cons_self, find_congr fun b hb => h b (List.mem_cons_of_mem _ hb)]
theorem LyIs.rng {n : Nat} {lk : List (Int × Int)} {x : Sx} (h : LyIs n lk x) (hs : Hist n x.ds x.ns x.pl x.sz) : ∀ e ∈ lk, 0 ≤ e.2 ∧ e.2 < n := fun e he => hs.rng e.1 e.2 (by rw [← h.val]; exact lookup_of h.nd he)
theorem em_least {ns dr : List Int} (h : dr ≠ []) {m : Int} (h1 : m ∈ dr.map fun b => ns.getD b.toNat 0) (h2 : ∀ y ∈ dr.map (fun b => ns.getD b.toNat 0), m ≤ y) : ∃ r, dr.filter (fun b => decide (ns.getD b.toNat 0 = m)) = emF ns dr :: r := by
  have e : (dr.find? fun b => decide (ns.getD b.toNat 0 = m)) = dr.find? fun b => dr.all fun c => decide (ns.getD b.toNat 0 ≤ ns.getD c.toNat 0) := by
    have : ∀ b ∈ dr, decide (ns.getD b.toNat 0 = m) = dr.all fun c => decide (ns.getD b.toNat 0 ≤ ns.getD c.toNat 0) := by
      intro b hb
      rw [Bool.eq_iff_iff, List.all_eq_true, decide_eq_true_iff]
      constructor
      · intro z c hc
        rw [decide_eq_true_iff, z]
        exact h2 _ (List.mem_map_of_mem hc)
      · intro z
        obtain ⟨c, hc, rfl⟩ := List.mem_map.mp h1
        exact Int.le_antisymm (of_decide_eq_true (z c hc)) (h2 _ (List.mem_map_of_mem (f := fun b : Int => ns.getD b.toNat 0) hb))
    exact find_congr this
  obtain ⟨i, hi, e2, _⟩ := emF_mem (ns := ns) h
  obtain ⟨c, hc, rfl⟩ := List.mem_map.mp h1
  unfold emF
  rw [← e]
  cases hf : dr.filter (fun b => decide (ns.getD b.toNat 0 = ns.getD c.toNat 0)) with
  | nil =>
    have : c ∈ dr.filter (fun b => decide (ns.getD b.toNat 0 = ns.getD c.toNat 0)) := List.mem_filter.mpr ⟨hc, by simp⟩
    rw [hf] at this; cases this
  | cons x r =>
    refine ⟨r, ?_⟩
    rw [← List.head?_filter, hf]; rfl
section
variable {P : Program} {w : World} {K : PySem.W.Frag} {mg : Str → Option Value} {base : Heap}
noncomputable def spPR (C TE TP : Addr) (z1 z2 : Str) : Sp := fun vs H Q _ => ∃ (a : Ad) (n : Nat) (x : Sx) (t : Addr) (dr : List Int), vs = [.ref a.p, .ref a.wd, .ref t] ∧ RW C n H a x ∧ 1 ≤ n ∧ n ≤ 6 ∧ H t = some (.tup (iv dr)) ∧ dr ≠ [] ∧ dr.length ≤ 3 ∧ (∀ b ∈ dr, 0 ≤ b ∧ b < n) ∧ x.ds.length ≤ 500 ∧ H TE = some (.tab z1) ∧ H TP = some (.tab z2) ∧
  ∀ (y : Sx) (H' : Hp), RW C n H' a y → Off a.all H H' → y.ds.length ≤ x.ds.length + 1 → x.nb ≤ y.nb → y.nb ≤ x.nb + 1 → Q (.bl true) H'
theorem ok_pr {C D E1 : Addr} {c : Addr} {er : Errs} (R : RmT K mg C) (T : Txt2 mg) (kb : K.In base) (L : LamFor mg base "_law_put_right" c D) (e4 : ErrI K er er.c4 4) (C_l_counts : Cal P w K mg base "_law_counts" ["_law_world"] 1 spCounts) (C_l_is_whole : Cal P w K mg base "_law_is_whole" ["_law_thing"] 1 spWholeV)
    (C_l_heard : Cal P w K mg base "_law_heard" ["_law_asked"] 7 (spH P w K mg base 6 (hHeard K er))) (M1_put : MCal1 P w K mg base C "put" ["self", "draw"] 4 (spPut1 C er.c4 E1 (qLam "emptiest_of")))
    (F : FunAt K mg "_law_put_right" ["_law_room", "_law_world", "_law_draw_here"] s_l_put_right) : Cal P w K mg base "_law_put_right" ["_law_room", "_law_world", "_law_draw_here"] 8 (spPR C E1 D (qLam "emptiest_of") (qLam "_law_put_right")) := by
  have S := sc_l_put_right
  have LB := L.lb
  have CA := R.ca
  refine F.calL kb L sc_l_put_right (fun vs H Q E h => ?_) (fun f A outer s H vs Q E hr h => ?_)
  · obtain ⟨a, n, x, t, dr, rfl, _⟩ := h; rfl
  obtain ⟨a, n, x, t, dr, rfl, RWx, n1, n6, ht, dne, d3, din, dl, hTE, hTP, k⟩ := h
  have hu := hu_of hr
  have hu1 := hu_of hr
  have hu2 := hu2_of hr
  refine ⟨_, (@pss_cons _ _ _ _ _ (@ps_set _ _ (3) _ _ _ _ (by exact S.nd) (by rfl) (by first | exact Or.inl rfl | exact Or.inr rfl) (@cc _ _ _ _ _ _ _ _ _ _ (by exact C_l_counts) (by exact (hr.mono (by decide))) (@pa_consN _ _ _ _ _ (pv 1) pa_nil (by first|rfl|decide|exact .inl rfl|exact .inr rfl|(intros; rfl))) (by first|rfl|decide|exact .inl rfl|exact .inr rfl|(intros; rfl)) (by first|rfl|decide|exact .inl rfl|exact .inr rfl|(intros; rfl)) (by first|rfl|decide|exact .inl rfl|exact .inr rfl|(intros; rfl)) (by first|rfl|decide|exact .inl rfl|exact .inr rfl|(intros; rfl))) (by first|rfl|decide|exact .inl rfl|exact .inr rfl|(intros; rfl)) (by first|rfl|decide|exact .inl rfl|exact .inr rfl|(intros; rfl))) (@pss_cons _ _ _ _ _ (@ps_set _ _ (4) _ _ _ _ (by exact S.nd) (by rfl) (by first | exact Or.inl rfl | exact Or.inr rfl) (@pe_callB _ _ _ _ _ _ _ _ _ (call_minB true (by rfl)) (by rfl) (by exact T.z_min) (by exact bt_min) (@pa_consN _ _ _ _ _ (@pe_comp _ _ _ _ _ _ _ _ _ _ _ _ _ (by rfl) (by exact (fun _ _ h => h)) (by decide +kernel) (by rfl) (by decide +kernel) (by exact hfr_of rfl) (by exact Sees.frees ["_law_box"] [("_law_counts_here", 3)] (fr_cons ⟨rfl, rfl⟩ fr_nil)) (@pi_tup _ _ _ _ (pv 2)) (fun _ _ _ _ _ => @pg_name _ _ (0) _ (by exact (show (["_law_box", "_law_counts_here"] : List Str).Nodup by decide +kernel)) (by rfl) (by first | exact Or.inl rfl | exact Or.inr rfl) (by first|rfl|decide|exact .inl rfl|exact .inr rfl|(intros; rfl))) (fun _ _ _ _ _ => pts_nil) (fun _ _ _ _ _ => (@pe_ix _ _ _ _ _ _ _ ix_list0 (pv 1) (pv 0) (by exact (fun _ _ => rfl)))) (by first|rfl|decide|exact .inl rfl|exact .inr rfl|(intros; rfl))) pa_nil (by first|rfl|decide|exact .inl rfl|exact .inr rfl|(intros; rfl))) (by first|rfl|decide|exact .inl rfl|exact .inr rfl|(intros; rfl)) (by first|rfl|decide|exact .inl rfl|exact .inr rfl|(intros; rfl)) (by first|rfl|decide|exact .inl rfl|exact .inr rfl|(intros; rfl)) (by first|rfl|decide|exact .inl rfl|exact .inr rfl|(intros; rfl))) (by first|rfl|decide|exact .inl rfl|exact .inr rfl|(intros; rfl)) (by first|rfl|decide|exact .inl rfl|exact .inr rfl|(intros; rfl))) (@pss_cons _ _ _ _ _ (@ps_set _ _ (5) _ _ _ _ (by exact S.nd) (by rfl) (by first | exact Or.inl rfl | exact Or.inr rfl) (@pe_ix _ _ _ _ _ _ _ ix_list (@pe_comp _ _ _ _ _ _ _ _ _ _ _ _ _ (by rfl) (by exact (fun _ _ h => h)) (by decide +kernel) (by rfl) (by decide +kernel) (by exact hfr_of rfl) (by exact Sees.frees ["_law_one"] [("_law_counts_here", 3), ("_law_least", 4)] (fr_cons ⟨rfl, rfl⟩ (fr_cons ⟨rfl, rfl⟩ fr_nil))) (@pi_tup _ _ _ _ (pv 2)) (fun _ _ _ _ _ => @pg_name _ _ (0) _ (by exact (show (["_law_one", "_law_counts_here", "_law_least"] : List Str).Nodup by decide +kernel)) (by rfl) (by first | exact Or.inl rfl | exact Or.inr rfl) (by first|rfl|decide|exact .inl rfl|exact .inr rfl|(intros; rfl))) (fun _ _ _ _ _ => (@pts_one _ _ _ (@pt_cmpR _ _ _ _ _ _ _ _ op_eq (@pe_ix _ _ _ _ _ _ _ ix_list0 (pv 1) (pv 0) (by exact (fun _ _ => rfl))) (pv 2) (by exact (nomark _))))) (fun _ _ _ _ _ => (pv 0)) (by first|rfl|decide|exact .inl rfl|exact .inr rfl|(intros; rfl))) pe_int (by exact (fun _ _ => rfl))) (by first|rfl|decide|exact .inl rfl|exact .inr rfl|(intros; rfl)) (by first|rfl|decide|exact .inl rfl|exact .inr rfl|(intros; rfl))) (@pss_cons _ _ _ _ _ (@ps_set _ _ (6) _ _ _ _ (by exact S.nd) (by rfl) (by first | exact Or.inl rfl | exact Or.inr rfl) (@pe_callLam _ _ _ _ _ _ _ _ _ _ _ _ _ _ _ _ _ _ (by exact C_l_heard) (by exact (hr.mono (by decide))) (by exact LB) (by rfl) (by rfl) (by exact (fun _ => rfl)) (by rfl) (by rfl) (by rfl) (by rfl) (by decide +kernel) (by exact hfr_of rfl) (by exact Sees.frees [] [("_law_draw_here", 2), ("_law_room", 0)] (fr_cons ⟨rfl, rfl⟩ (fr_cons ⟨rfl, rfl⟩ fr_nil))) (by exact (fun _ _ _ _ => rfl)) (fun _ _ _ _ _ _ _ _ hrl => (@pm1 _ _ _ _ _ _ _ _ _ _ _ _ _ _ _ (by exact passesL) (by exact M1_put) (by exact CA.cl) (by exact (hrl.mono (by decide))) (pv 1) (@pa_consN _ _ _ _ _ (pv 0) pa_nil (by first|rfl|decide|exact .inl rfl|exact .inr rfl|(intros; rfl))) (by first|rfl|decide|exact .inl rfl|exact .inr rfl|(intros; rfl)) (by first|rfl|decide|exact .inl rfl|exact .inr rfl|(intros; rfl)) (by first|rfl|decide|exact .inl rfl|exact .inr rfl|(intros; rfl)))) (by first|rfl|decide|exact .inl rfl|exact .inr rfl|(intros; rfl)) (by first|rfl|decide|exact .inl rfl|exact .inr rfl|(intros; rfl)) (by first|rfl|decide|exact .inl rfl|exact .inr rfl|(intros; rfl)) (by first|rfl|decide|exact .inl rfl|exact .inr rfl|(intros; rfl))) (by first|rfl|decide|exact .inl rfl|exact .inr rfl|(intros; rfl)) (by first|rfl|decide|exact .inl rfl|exact .inr rfl|(intros; rfl))) (@pss_cons _ _ _ _ _ (@ps_if _ _ _ _ _ _ _ _ (@pt_cmpR _ _ _ _ _ _ _ _ op_eq (@pe_callB _ _ _ _ _ _ _ _ _ call_lenD (by rfl) (by exact T.z_len) (by exact bt_len) (@pa_consN _ _ _ _ _ (@pe_dget _ _ _ _ _ _ (by exact hu) (pv 1) pe_str (by exact (fun _ _ => rfl))) pa_nil (by first|rfl|decide|exact .inl rfl|exact .inr rfl|(intros; rfl))) (by first|rfl|decide|exact .inl rfl|exact .inr rfl|(intros; rfl)) (by first|rfl|decide|exact .inl rfl|exact .inr rfl|(intros; rfl)) (by first|rfl|decide|exact .inl rfl|exact .inr rfl|(intros; rfl)) (by first|rfl|decide|exact .inl rfl|exact .inr rfl|(intros; rfl))) pe_int (by exact (nomark _))) (@pss_one _ _ _ (@ps_ret _ _ _ _ (@pe_cmpR _ _ _ _ _ _ _ _ op_eq (pv 6) pe_str (by exact (nomark _))))) pss_nil) (@pss_cons _ _ _ _ _ (@ps_set _ _ (7) _ _ _ _ (by exact S.nd) (by rfl) (by first | exact Or.inl rfl | exact Or.inr rfl) (@pe_dget _ _ _ _ _ _ (by exact hu) (pv 1) pe_str (by exact (fun _ _ => rfl))) (by first|rfl|decide|exact .inl rfl|exact .inr rfl|(intros; rfl)) (by first|rfl|decide|exact .inl rfl|exact .inr rfl|(intros; rfl))) (@pss_cons _ _ _ _ _ (@ps_dput _ _ _ _ _ _ _ _ _ (by exact hu) (pv 1) pe_str (@pe_op _ _ _ _ _ _ _ _ op_add (pv 7) pe_int) (by rfl)) (@pss_cons _ _ _ _ _ (@ps_dput _ _ _ _ _ _ _ _ _ (by exact hu1) (@pe_dget _ _ _ _ _ _ (by exact hu) (pv 1) pe_str (by exact (fun _ _ => rfl))) (pv 7) (pv 5) (by rfl)) (@pss_cons _ _ _ _ _ (@ps_expr _ _ _ _ (@pe_bm _ _ _ _ _ _ _ _ _ _ _ _ (by exact PySem.F.plainAttrs_list) (by exact PySem.F.slot_list_append) (by exact PySem.F.type_list_append) mt_append (@pe_dget _ _ _ _ _ _ (by exact hu) (pv 1) pe_str (by exact (fun _ _ => rfl))) (@pa_consN _ _ _ _ _ (@pe_tup _ _ _ _ _ (@pa_consN _ _ _ _ _ pe_str (@pa_consN _ _ _ _ _ (pv 7) (@pa_consN _ _ _ _ _ (pv 5) pa_nil (by first|rfl|decide|exact .inl rfl|exact .inr rfl|(intros; rfl))) (by first|rfl|decide|exact .inl rfl|exact .inr rfl|(intros; rfl))) (by first|rfl|decide|exact .inl rfl|exact .inr rfl|(intros; rfl)))) pa_nil (by first|rfl|decide|exact .inl rfl|exact .inr rfl|(intros; rfl))) (by first|rfl|decide|exact .inl rfl|exact .inr rfl|(intros; rfl)) (by first|rfl|decide|exact .inl rfl|exact .inr rfl|(intros; rfl)) (by first|rfl|decide|exact .inl rfl|exact .inr rfl|(intros; rfl)) (by first|rfl|decide|exact .inl rfl|exact .inr rfl|(intros; rfl)) (by first|rfl|decide|exact .inl rfl|exact .inr rfl|(intros; rfl))) (by first|rfl|decide|exact .inl rfl|exact .inr rfl|(intros; rfl))) (@pss_one _ _ _ (@ps_ret _ _ _ _ (@pe_and _ _ _ _ _ _ _ (@pe_cmpR _ _ _ _ _ _ _ _ (op_eqD 1 hu2) (pv 6) (@pe_lst _ _ _ _ (@pa_consN _ _ _ _ _ (@pe_tup _ _ _ _ _ (@pa_consN _ _ _ _ _ (pv 7) (@pa_consN _ _ _ _ _ (pv 5) pa_nil (by first|rfl|decide|exact .inl rfl|exact .inr rfl|(intros; rfl))) (by first|rfl|decide|exact .inl rfl|exact .inr rfl|(intros; rfl)))) pa_nil (by first|rfl|decide|exact .inl rfl|exact .inr rfl|(intros; rfl)))) (by exact (nomark _))) (@pe_one _ _ _ _ _ (@pe_callB _ _ _ _ _ _ _ _ _ (call_all (by rfl)) (by rfl) (by exact T.z_all) (by exact bt_all) (@pa_consN _ _ _ _ _ (@pe_comp0 _ _ _ _ _ _ _ _ _ _ _ (["_law_one"]) (fun _ => [none]) (by rfl) (by exact (fun _ _ h => h)) (by decide +kernel) (by rfl) (by decide +kernel) (by decide +kernel) (by exact Sees.none1) (@pi_tup _ _ _ _ (@pe_ix _ _ _ _ _ _ _ ix_list (pv 6) pe_int (by exact (fun _ _ => rfl)))) (fun _ _ _ _ _ => @pg_name _ _ (0) _ (by exact (show (["_law_one"] : List Str).Nodup by decide +kernel)) (by rfl) (by first | exact Or.inl rfl | exact Or.inr rfl) (by first|rfl|decide|exact .inl rfl|exact .inr rfl|(intros; rfl))) (fun _ _ _ _ _ => pts_nil) (fun _ _ _ _ _ => (@cc _ _ _ _ _ _ _ _ _ _ (by exact C_l_is_whole) (by exact (hr.mono (by decide))) (@pa_consN _ _ _ _ _ (pv 0) pa_nil (by first|rfl|decide|exact .inl rfl|exact .inr rfl|(intros; rfl))) (by first|rfl|decide|exact .inl rfl|exact .inr rfl|(intros; rfl)) (by first|rfl|decide|exact .inl rfl|exact .inr rfl|(intros; rfl)) (by first|rfl|decide|exact .inl rfl|exact .inr rfl|(intros; rfl)) (by first|rfl|decide|exact .inl rfl|exact .inr rfl|(intros; rfl)))) (by first|rfl|decide|exact .inl rfl|exact .inr rfl|(intros; rfl))) pa_nil (by first|rfl|decide|exact .inl rfl|exact .inr rfl|(intros; rfl))) (by first|rfl|decide|exact .inl rfl|exact .inr rfl|(intros; rfl)) (by first|rfl|decide|exact .inl rfl|exact .inr rfl|(intros; rfl)) (by first|rfl|decide|exact .inl rfl|exact .inr rfl|(intros; rfl)) (by first|rfl|decide|exact .inl rfl|exact .inr rfl|(intros; rfl)))))))))))))))), ?_⟩
  obtain ⟨RI, hw, ⟨lk, hl, LY⟩, ⟨pv, hpa, Pa⟩, low, nd⟩ := id RWx
  have szl := RWx.szl
  have hlen := RI.hs.len
  have cl : cntL n lk = x.ns := cntL_eq hlen LY.cnt
  refine ⟨_, rfl, a.wd, a.ly, a.pa, n, x.nb, lk, rfl, hw, hl, n1, n6, by rw [LY.len]; omega, LY.nd, LY.rng RI.hs, fun q1 H1 hq1 s1 e1 => ?_⟩
  rw [cl] at e1
  have ht1 := s1 _ _ ht
  refine ⟨_, rfl, t, rfl, ⟨_, SqT.of ht1⟩, comp_Y (yields_tup (xs := iv dr)) (fun p i ys σ' H' => Same H1 H' ∧ (∃ o1, σ' = [o1, some (.ref q1)]) ∧ ys = iv ((dr.take i).map fun b => x.ns.getD b.toNat 0)) (by simp; omega) ?_ ?_ ?_ ?_⟩
  · intro p hp; exact ⟨same_new hp _, ⟨_, rfl⟩, by simp [iv]⟩
  · rintro p i ys σ' H' hp ⟨s', _⟩; exact s' _ _ ht1
  · rintro p i ys σ' H' v H'' hp hi hyl ⟨s', ⟨o1, rfl⟩, rfl⟩ hp' ⟨rfl, hv⟩ Q1 Q2 hQ1 hQ2
    have hi' : i < dr.length := by simpa using hi
    have ev : v = .int dr[i] := by
      rw [List.getElem?_map, List.getElem?_eq_getElem hi'] at hv
      exact (Option.some.inj hv).symm
    subst ev
    have hb := din dr[i] (List.getElem_mem hi')
    have hB : dr[i].toNat < x.ns.length := by omega
    refine gN_ ⟨_, rfl, _, rfl, q1, _, _, _, rfl, rfl, s' _ _ e1, atI_at hb.1 hB, hQ1 _ _ _ hp' ⟨same_updN hp s' _, ⟨_, rfl⟩, ?_⟩⟩
    rw [List.take_succ_eq_append_getElem hi', List.map_append, iv_app]; rfl
  rintro p1 ys σ' H2 hp1 ⟨s2, _, rfl⟩ e2 _
  rw [List.length_map, List.take_length] at e2
  refine ⟨p1, _, rfl, SqB.l e2, by simpa using dne, fun m hm1 hm2 => ?_⟩
  have ht2 := s2 _ _ ht1
  have e1' := s2 _ _ e1
  refine ⟨_, rfl, t, rfl, ⟨_, SqT.of ht2⟩, comp_Y (yields_tup (xs := iv dr)) (fun p i ys σ' H' => Same H2 H' ∧ (∃ o1, σ' = [o1, some (.ref q1), some (.int m)]) ∧ ys = iv ((dr.take i).filter fun b => decide (x.ns.getD b.toNat 0 = m))) (by simp; omega) ?_ ?_ ?_ ?_⟩
  · intro p hp; exact ⟨same_new hp _, ⟨_, rfl⟩, by simp [iv]⟩
  · rintro p i ys σ' H' hp ⟨s', _⟩; exact s' _ _ ht2
  · rintro p i ys σ' H' v H'' hp hi hyl ⟨s', ⟨o1, rfl⟩, rfl⟩ hp' ⟨rfl, hv⟩ Q1 Q2 hQ1 hQ2
    have hi' : i < dr.length := by simpa using hi
    have ev : v = .int dr[i] := by
      rw [List.getElem?_map, List.getElem?_eq_getElem hi'] at hv
      exact (Option.some.inj hv).symm
    subst ev
    have hb := din dr[i] (List.getElem_mem hi')
    have hB : dr[i].toNat < x.ns.length := by omega
    refine gN_ ⟨_, rfl, _, rfl, q1, _, _, _, rfl, rfl, s' _ _ e1', atI_at hb.1 hB, _, rfl, rfl, _, rfl, ite2 (fun c => ?_) (fun c => ?_)⟩
    · refine ⟨_, rfl, hQ1 _ _ _ hp' ⟨same_updN hp s' _, ⟨_, rfl⟩, ?_⟩⟩
      have c' : x.ns.getD dr[i].toNat 0 = m := V.int.inj (of_decide_eq_true c)
      rw [List.take_succ_eq_append_getElem hi', List.filter_append, List.filter_cons_of_pos (by simpa using c'), iv_app]; rfl
    · refine hQ2 _ _ hp' ⟨s', ⟨_, rfl⟩, ?_⟩
      have c' : ¬ x.ns.getD dr[i].toNat 0 = m := fun z => c (decide_eq_true (by rw [z]))
      rw [List.take_succ_eq_append_getElem hi', List.filter_append, List.filter_cons_of_neg (by simpa using c')]; simp
  rintro p2 ys σ' H3 hp2 ⟨s3, _, rfl⟩ e3 _
  rw [List.length_map, List.take_length] at e3
  obtain ⟨rs, ers⟩ := em_least dne hm1 hm2
  rw [ers] at e3
  refine ⟨p2, _, _, _, rfl, rfl, SqL.of e3, atI_0 _ _, ?_⟩
  have s13 := (s1.trans s2).trans s3
  generalize hbx : emF x.ns dr = bx at *
  clear e3 ers e1' e2 hm1 hm2
  refine ⟨s13 _ _ hTP, fun H4 s4 => ?_⟩
  have s14 := s13.trans s4
  have RW4 := RWx.same s14
  obtain ⟨⟨kvs, dv, ⟨⟨dx, h1⟩, _⟩, _⟩, _⟩ := id RW4.r
  refine ⟨_, rfl, a.p, dx, _, rfl, h1, flds_no _ _ _ _ (by decide +kernel) (by decide +kernel) (by decide +kernel) (by decide +kernel), _, rfl, a.p, a.l, a.d, a.q, t, n, x.ds, x.ns, x.pl, x.sz, x.nb, dr, rfl, RW4.r, s14 _ _ ht, dne, din, szl, by omega, s14 _ _ hTE, fun e60 => ?_, fun l60 => ?_⟩
  · refine ⟨_, 4, rfl, e4, fun H5 s5 => ?_⟩
    have s15 := s14.trans s5
    have RW5 := RWx.same s15
    refine ⟨_, rfl, a.wd, _, rfl, get_lying RW5.wd, a.ly, _, rfl, s15 _ _ hl, rfl, _, rfl, ite2 (fun _ => ?_) (fun c => absurd (decide_eq_true (by rw [lkV_len, LY.len, e60]; rfl)) c)⟩
    refine ⟨_, rfl, rfl, ?_⟩
    rw [decide_eq_true (show V.str (heardWord 4) = V.str "many" from rfl)]
    exact k x H5 RW5 (Off.of s15) (by omega) (Int.le_refl _) (by omega)
  · intro r H5 RI5 hr5 sr5 p4 hp4
    rw [hbx] at RI5 hr5
    obtain ⟨hw5, hl5, hpa5⟩ := RW4.offR sr5 (s14 _ _ hl) (s14 _ _ hpa)
    have o5 : Off a.all H H5 := (Off.of s14).trans sr5.off
    have Pa5 : Past H5 pv x.ds := Pa.mono fun b xs e => RWx.tup o5 e
    have s6 := same_new hp4 (.lst [.ref r])
    have o6 := o5.trans (Off.of s6)
    have f6 : (upd H5 p4 (.lst [.ref r])) p4 = some (.lst [.ref r]) := upd_same
    have RI6 := RI5.same s6
    have hw6 := s6 _ _ hw5
    have hl6 := s6 _ _ hl5
    have hpa6 := s6 _ _ hpa5
    have hr6 := s6 _ _ hr5
    have Pa6 := Pa5.mono fun b xs e => s6 _ _ e
    have p4n : p4 ∉ a.all := out_none RI5 hw5 hl5 hpa5 hp4
    obtain ⟨pn, b0, b1⟩ := RI5.hs.put_inv RI.hs
    generalize upd H5 p4 (.lst [.ref r]) = H6 at *
    refine ⟨_, rfl, a.wd, _, rfl, get_lying hw6, a.ly, _, rfl, hl6, rfl, _, rfl, ite2 (fun c => absurd (V.int.inj (of_decide_eq_true c)) (by rw [lkV_len, LY.len]; omega)) (fun _ => ?_)⟩
    refine ⟨_, rfl, a.wd, _, rfl, get_known hw6, ?_⟩
    refine ⟨_, rfl, _, _, rfl, rfl, _, rfl, a.wd, _, rfl, dput_known hw6, ?_⟩
    obtain ⟨ap, al, ad, aq, awd, aly, apa⟩ := a
    dsimp only at *
    obtain ⟨⟨_, _, _, g4, g5, g6⟩, ⟨_, _, l4, l5, l6⟩, ⟨_, d4, d5, d6⟩, ⟨q4, q5, q6⟩, ⟨w5, w6⟩, y6⟩ := all_ne nd
    have k7 : ∀ b o, H6 b = some o → b ≠ awd → (upd H6 awd (.dK (wL n aly (x.nb + 1) apa))) b = some o := fun b o e h => by rw [upd_ne h]; exact e
    have hw7 : (upd H6 awd (.dK (wL n aly (x.nb + 1) apa))) awd = some (.dK (wL n aly (x.nb + 1) apa)) := upd_same
    generalize upd H6 awd (.dK (wL n aly (x.nb + 1) apa)) = H7 at k7 hw7
    have hl7 := k7 _ _ hl6 (Ne.symm w5)
    refine ⟨_, rfl, _, rfl, awd, _, rfl, get_lying hw7, _, rfl, aly, _, rfl, DPut.k (k := Sum.inl x.nb) hl7 (by rw [lkV_len, LY.len, sizeLine_eq]; omega), ?_⟩
    rw [putK_new _ (by rw [lkV_val, LY.val, pn]; rfl), ← lkV_app lk (x.nb, bx)]
    have k8 : ∀ b o, H6 b = some o → b ≠ awd → b ≠ aly → (upd H7 aly (.dK (lkV (lk ++ [(x.nb, bx)])))) b = some o := fun b o e h h2 => by rw [upd_ne h2]; exact k7 _ _ e h
    have hw8 : (upd H7 aly (.dK (lkV (lk ++ [(x.nb, bx)])))) awd = some (.dK (wL n aly (x.nb + 1) apa)) := by rw [upd_ne w5]; exact hw7
    have hl8 : (upd H7 aly (.dK (lkV (lk ++ [(x.nb, bx)])))) aly = some (.dK (lkV (lk ++ [(x.nb, bx)]))) := upd_same
    generalize upd H7 aly (.dK (lkV (lk ++ [(x.nb, bx)]))) = H8 at k8 hw8 hl8
    have hpa8 := k8 _ _ hpa6 (Ne.symm w6) (Ne.symm y6)
    refine ⟨_, rfl, awd, _, rfl, get_past hw8, .inl ⟨rfl, _, SqL.of hpa8⟩, _, rfl, _, rfl, lz 3 rfl, fun t1 ht1 => ?_⟩
    have s9 := same_new ht1 (.tup [.str "come", .int x.nb, .int bx])
    have t9 : (upd H8 t1 (.tup [.str "come", .int x.nb, .int bx])) t1 = some (.tup [.str "come", .int x.nb, .int bx]) := upd_same
    generalize upd H8 t1 (.tup [.str "come", .int x.nb, .int bx]) = H9 at s9 t9
    have pvl := Pa.len
    refine ⟨apa, pv, .ref t1, rfl, rfl, s9 _ _ hpa8, (by rw [sizeLine_eq]; omega), ?_⟩
    have k10 : ∀ b o, H6 b = some o → b ≠ awd → b ≠ aly → b ≠ apa → (upd H9 apa (.lst (pv ++ [.ref t1]))) b = some o := fun b o e h h2 h3 => by rw [upd_ne h3]; exact s9 _ _ (k8 _ _ e h h2)
    have hw10 : (upd H9 apa (.lst (pv ++ [.ref t1]))) awd = some (.dK (wL n aly (x.nb + 1) apa)) := by rw [upd_ne w6]; exact s9 _ _ hw8
    have hl10 : (upd H9 apa (.lst (pv ++ [.ref t1]))) aly = some (.dK (lkV (lk ++ [(x.nb, bx)]))) := by rw [upd_ne y6]; exact s9 _ _ hl8
    have hp10 : (upd H9 apa (.lst (pv ++ [.ref t1]))) apa = some (.lst (pv ++ [.ref t1])) := upd_same
    have t10 : (upd H9 apa (.lst (pv ++ [.ref t1]))) t1 = some (.tup [.str "come", .int x.nb, .int bx]) := by rw [upd_ne (ne_of t9 (s9 _ _ hpa8) (by intro z; cases z))]; exact t9
    generalize upd H9 apa (.lst (pv ++ [.ref t1])) = H10 at k10 hw10 hl10 hp10 t10
    have tt : ∀ b xs, H6 b = some (.tup xs) → H10 b = some (.tup xs) := fun b xs e => k10 _ _ e (ne_of e hw6 (by intro z; cases z)) (ne_of e hl6 (by intro z; cases z)) (ne_of e hpa6 (by intro z; cases z))
    have RW10 : RW C n H10 ⟨ap, al, ad, aq, awd, aly, apa⟩ ⟨(true, x.nb, bx) :: x.ds, inc x.ns bx, updf x.pl x.nb (some bx), x.sz + 1, x.nb + 1⟩ :=
      ⟨RI6.keepR (fun b o e hb => by
        rcases hb with z | z | z | z <;> subst z
        · exact k10 _ _ e g4 g5 g6
        · exact k10 _ _ e l4 l5 l6
        · exact k10 _ _ e d4 d5 d6
        · exact k10 _ _ e q4 q5 q6) tt, hw10, ⟨_, hl10, LY.put hlen b0 b1 pn⟩, ⟨_, hp10, .snoc t10 (Pa6.mono tt)⟩, low_cons low RI5.hs (by omega), nd⟩
    have o10 : Off (Ad.all ⟨ap, al, ad, aq, awd, aly, apa⟩) H H10 := fun b o e hb => by
      have e6 := o6 b o e hb
      simp only [Ad.all, List.mem_cons, List.not_mem_nil, or_false, not_or] at hb
      exact k10 _ _ e6 hb.2.2.2.2.1 hb.2.2.2.2.2.1 hb.2.2.2.2.2.2
    have fp : H10 p4 = some (.lst [.ref r]) := by
      simp only [Ad.all, List.mem_cons, List.not_mem_nil, or_false, not_or] at p4n
      exact k10 _ _ f6 p4n.2.2.2.2.1 p4n.2.2.2.2.2.1 p4n.2.2.2.2.2.2
    have fr := tt _ _ hr6
    refine ⟨_, rfl, _, rfl, _, rfl, lz 2 rfl, fun t2 ht2 => ⟨lz 1 rfl, fun l2 hl2 => ?_⟩⟩
    have s11 := same_new ht2 (.tup [.int x.nb, .int bx])
    have t11 : (upd H10 t2 (.tup [.int x.nb, .int bx])) t2 = some (.tup [.int x.nb, .int bx]) := upd_same
    generalize upd H10 t2 (.tup [.int x.nb, .int bx]) = H11 at s11 t11 hl2
    have s12 := same_new hl2 (.lst [.ref t2])
    have l12 : (upd H11 l2 (.lst [.ref t2])) l2 = some (.lst [.ref t2]) := upd_same
    have t12 := s12 _ _ t11
    generalize upd H11 l2 (.lst [.ref t2]) = H12 at s12 l12 t12
    have s10 := s11.trans s12
    have RW12 := RW10.same s10
    have fp12 := s10 _ _ fp
    have fr12 := s10 _ _ fr
    refine ⟨.list [.tuple [.int x.nb, .int bx]], .list [.tuple [.int x.nb, .int bx]], ?_, ?_, ?_, fun b hb => ?_⟩
    · exact .lst fp12 (.cons (.tup fr12 (.cons (.int _) (.cons (.int _) .nil))) .nil)
    · exact .lst l12 (.cons (.tup t12 (.cons (.int _) (.cons (.int _) .nil))) .nil)
    · simp [cmpN]
    obtain rfl : b = true := hb.mpr rfl
    refine ⟨true, rfl, iteT ?_⟩
    refine ⟨_, rfl, p4, _, _, _, rfl, rfl, SqL.of fp12, rfl, r, rfl, ⟨_, SqT.of fr12⟩, comp_Y (yields_tup (xs := iv [x.nb, bx])) (fun p i ys σ' H' => Same H12 H' ∧ (∃ o1, σ' = [o1]) ∧ ys = (List.replicate i true).map V.bl) (by simp) ?_ ?_ ?_ ?_⟩
    · intro p hp; exact ⟨same_new hp _, ⟨_, rfl⟩, rfl⟩
    · rintro p i ys σ' H' hp ⟨s', _⟩; exact s' _ _ fr12
    · rintro p i ys σ' H' v H'' hp hi hyl ⟨s', ⟨o1, rfl⟩, rfl⟩ hp' ⟨rfl, hv⟩ Q1 Q2 hQ1 hQ2
      obtain ⟨z, _, rfl⟩ : ∃ z : Int, z ∈ [x.nb, bx] ∧ V.int z = v := by
        have := List.mem_of_getElem? hv
        exact List.mem_map.mp this
      refine gN_ ⟨_, rfl, .int z, .int z, rfl, .int z, hQ1 _ _ _ hp' ⟨same_updN hp s' _, ⟨_, rfl⟩, ?_⟩⟩
      rw [List.replicate_succ', List.map_append]; rfl
    rintro p ys σ' H13 hp ⟨s13', _, rfl⟩ e13 _
    refine ⟨p, _, rfl, e13, ?_⟩
    rw [show (List.replicate (iv [x.nb, bx]).length true).all id = true by simp]
    exact k _ H13 (RW12.same s13') (o10.trans (Off.of (s10.trans s13'))) (by simp) (by show x.nb ≤ x.nb + 1; omega) (Int.le_refl _)
end
end My

set_option Elab.async false
set_option linter.all false
set_option maxRecDepth 100000
set_option maxHeartbeats 4000000
namespace L2
open PySem PySem.Spec PyProof.Rows
theorem MCal1.imp {P : Program} {w : World} {K : PySem.W.Frag} {mg : Str → Option Value} {base : Heap} {C : Addr} {m : Str} {ps : List Str} {k : Nat} {sp sp' : Sp} (c : MCal1 P w K mg base C m ps k sp) (h : ∀ vs H Q E, sp' vs H Q E → sp vs H Q E) : MCal1 P w K mg base C m ps k sp' :=
  let ⟨f, fd, F, r⟩ := c.ex
  ⟨f, fd, F.imp h, r⟩
end L2
namespace My
open PySem L2 MA
noncomputable def spWhereR1 (C c1 : Addr) : Sp := fun vs H Q E => ∃ (p l d q : Addr) (n : Nat) (ds : List Deed) (ns : List Int) (pl : Int → Option Int) (sz : Nat) (nb : Int) (x : V) (dd : PyData), vs = [.ref p, x] ∧ RoomIs C n H p l d q ds ns pl sz nb ∧ DataV H x dd ∧ (plV pl x = none → E (.ref c1) none H) ∧ ∀ bx, plV pl x = some bx → Q (.int bx) H
theorem whereR1 {C c1 : Addr} : ∀ vs H Q E, spWhereR1 C c1 vs H Q E → spWhere1 C c1 vs H Q E := fun vs H Q E ⟨p, l, d, q, n, ds, ns, pl, sz, nb, x, dd, e, ⟨⟨kvs, dv, RA, _, _, _, kval⟩, _, _⟩, hx, hE, k⟩ => by
  have lk : look kvs x = (plV pl x).map V.int := by
    cases x with
    | int b => exact kval b
    | _ => rfl
  refine ⟨p, l, d, q, ns, kvs, nb, dv, x, dd, e, RA, hx, fun h => hE ?_, fun v hv => ?_⟩
  · rw [lk] at h
    cases e : plV pl x with
    | none => rfl
    | some y => rw [e] at h; cases h
  · rw [lk] at hv
    cases e : plV pl x with
    | none => rw [e] at hv; cases hv
    | some y => rw [e] at hv; cases hv; exact k y e
section
variable {P : Program} {w : World} {K : PySem.W.Frag} {mg : Str → Option Value} {base : Heap}
noncomputable def spLR (C TL : Addr) (z1 : Str) : Sp := fun vs H Q _ => ∃ (a : Ad) (n : Nat) (x : Sx) (v : V) (dd : PyData), vs = [.ref a.p, .ref a.wd, v] ∧ RW C n H a x ∧ DataV H v dd ∧ x.ds.length ≤ 500 ∧ H TL = some (.tab z1) ∧
  ∀ (y : Sx) (H' : Hp), RW C n H' a y → Off a.all H H' → y.ds.length ≤ x.ds.length + 1 → y.nb = x.nb → Q (.bl true) H'
theorem ok_lr {C D : Addr} {c : Addr} {er : Errs} (R : RmT K mg C) (T : Txt2 mg) (kb : K.In base) (L : LamFor mg base "_law_leave_right" c D) (e1 : ErrI K er er.c1 1) (C_l_is_whole : Cal P w K mg base "_law_is_whole" ["_law_thing"] 1 spWholeV)
    (C_l_heard : Cal P w K mg base "_law_heard" ["_law_asked"] 7 (spH P w K mg base 6 (hHeard K er))) (M1_leave : MCal1 P w K mg base C "leave" ["self", "ball"] 3 (spLeave1 C er.c1)) (M1_where : MCal1 P w K mg base C "where" ["self", "ball"] 2 (spWhereR1 C er.c1))
    (F : FunAt K mg "_law_leave_right" ["_law_room", "_law_world", "_law_ball_here"] s_l_leave_right) : Cal P w K mg base "_law_leave_right" ["_law_room", "_law_world", "_law_ball_here"] 8 (spLR C D (qLam "_law_leave_right")) := by
  have S := sc_l_leave_right
  have LB := L.lb
  have CA := R.ca
  refine F.calL kb L sc_l_leave_right (fun vs H Q E h => ?_) (fun f A outer s H vs Q E hr h => ?_)
  · obtain ⟨a, n, x, v, dd, rfl, _⟩ := h; rfl
  obtain ⟨a, n, x, v, dd, rfl, RWx, hv, dl, hTL, k⟩ := h
  have hu := hu_of hr
  have hu1 := hu_of hr
  refine ⟨_, (@pss_cons _ _ _ _ _ (@ps_set _ _ (3) _ _ _ _ (by exact S.nd) (by rfl) (by first | exact Or.inl rfl | exact Or.inr rfl) (@pe_callLam _ _ _ _ _ _ _ _ _ _ _ _ _ _ _ _ _ _ (by exact C_l_heard) (by exact (hr.mono (by decide))) (by exact LB) (by rfl) (by rfl) (by exact (fun _ => rfl)) (by rfl) (by rfl) (by rfl) (by rfl) (by decide +kernel) (by exact hfr_of rfl) (by exact Sees.frees [] [("_law_ball_here", 2), ("_law_room", 0)] (fr_cons ⟨rfl, rfl⟩ (fr_cons ⟨rfl, rfl⟩ fr_nil))) (by exact (fun _ _ _ _ => rfl)) (fun _ _ _ _ _ _ _ _ hrl => (@pm1 _ _ _ _ _ _ _ _ _ _ _ _ _ _ _ (by exact passesL) (by exact M1_leave) (by exact CA.cl) (by exact (hrl.mono (by decide))) (pv 1) (@pa_consN _ _ _ _ _ (pv 0) pa_nil (by first|rfl|decide|exact .inl rfl|exact .inr rfl|(intros; rfl))) (by first|rfl|decide|exact .inl rfl|exact .inr rfl|(intros; rfl)) (by first|rfl|decide|exact .inl rfl|exact .inr rfl|(intros; rfl)) (by first|rfl|decide|exact .inl rfl|exact .inr rfl|(intros; rfl)))) (by first|rfl|decide|exact .inl rfl|exact .inr rfl|(intros; rfl)) (by first|rfl|decide|exact .inl rfl|exact .inr rfl|(intros; rfl)) (by first|rfl|decide|exact .inl rfl|exact .inr rfl|(intros; rfl)) (by first|rfl|decide|exact .inl rfl|exact .inr rfl|(intros; rfl))) (by first|rfl|decide|exact .inl rfl|exact .inr rfl|(intros; rfl)) (by first|rfl|decide|exact .inl rfl|exact .inr rfl|(intros; rfl))) (@pss_cons _ _ _ _ _ (@ps_if _ _ _ _ _ _ _ _ (@PW.pt _ _ _ (@pw_or _ _ _ _ _ _ _ (@pt_not _ _ _ _ (@pt_val _ _ _ (@cc _ _ _ _ _ _ _ _ _ _ (by exact C_l_is_whole) (by exact (hr.mono (by decide))) (@pa_consN _ _ _ _ _ (pv 2) pa_nil (by first|rfl|decide|exact .inl rfl|exact .inr rfl|(intros; rfl))) (by first|rfl|decide|exact .inl rfl|exact .inr rfl|(intros; rfl)) (by first|rfl|decide|exact .inl rfl|exact .inr rfl|(intros; rfl)) (by first|rfl|decide|exact .inl rfl|exact .inr rfl|(intros; rfl)) (by first|rfl|decide|exact .inl rfl|exact .inr rfl|(intros; rfl))) (by first|rfl|decide|exact .inl rfl|exact .inr rfl|(intros; rfl)))) (@pw_or1 _ _ _ _ (@pt_cmp _ _ _ _ _ _ (@pc_dnotin _ _ _ _ _ (by exact hu1) (pv 2) (@pe_dget _ _ _ _ _ _ (by exact hu) (pv 1) pe_str (by exact (fun _ _ => rfl)))) (by first|rfl|decide|exact .inl rfl|exact .inr rfl|(intros; rfl)))))) (@pss_one _ _ _ (@ps_ret _ _ _ _ (@pe_chain _ _ _ _ _ _ _ _ _ _ _ _ op_eq op_eq (pv 3) pe_str (@pe_callLam _ _ _ _ _ _ _ _ _ _ _ _ _ _ _ _ _ _ (by exact C_l_heard) (by exact (hr.mono (by decide))) (by exact LB) (by rfl) (by rfl) (by exact (fun _ => rfl)) (by rfl) (by rfl) (by rfl) (by rfl) (by decide +kernel) (by exact hfr_of rfl) (by exact Sees.frees [] [("_law_ball_here", 2), ("_law_room", 0)] (fr_cons ⟨rfl, rfl⟩ (fr_cons ⟨rfl, rfl⟩ fr_nil))) (by exact (fun _ _ _ _ => rfl)) (fun _ _ _ _ _ _ _ _ hrl => (@pm1 _ _ _ _ _ _ _ _ _ _ _ _ _ _ _ (by exact passesL) (by exact M1_where) (by exact CA.cl) (by exact (hrl.mono (by decide))) (pv 1) (@pa_consN _ _ _ _ _ (pv 0) pa_nil (by first|rfl|decide|exact .inl rfl|exact .inr rfl|(intros; rfl))) (by first|rfl|decide|exact .inl rfl|exact .inr rfl|(intros; rfl)) (by first|rfl|decide|exact .inl rfl|exact .inr rfl|(intros; rfl)) (by first|rfl|decide|exact .inl rfl|exact .inr rfl|(intros; rfl)))) (by first|rfl|decide|exact .inl rfl|exact .inr rfl|(intros; rfl)) (by first|rfl|decide|exact .inl rfl|exact .inr rfl|(intros; rfl)) (by first|rfl|decide|exact .inl rfl|exact .inr rfl|(intros; rfl)) (by first|rfl|decide|exact .inl rfl|exact .inr rfl|(intros; rfl))) (by first|rfl|decide|exact .inl rfl|exact .inr rfl|(intros; rfl))))) pss_nil) (@pss_cons _ _ _ _ _ (@ps_set _ _ (4) _ _ _ _ (by exact S.nd) (by rfl) (by first | exact Or.inl rfl | exact Or.inr rfl) (@pe_dpop1 _ _ _ _ _ _ _ (@pe_dget _ _ _ _ _ _ (by exact hu) (pv 1) pe_str (by exact (fun _ _ => rfl))) (pv 2) (by exact ⟨rfl, rfl, rfl, rfl⟩)) (by first|rfl|decide|exact .inl rfl|exact .inr rfl|(intros; rfl)) (by first|rfl|decide|exact .inl rfl|exact .inr rfl|(intros; rfl))) (@pss_cons _ _ _ _ _ (@ps_expr _ _ _ _ (@pe_bm _ _ _ _ _ _ _ _ _ _ _ _ (by exact PySem.F.plainAttrs_list) (by exact PySem.F.slot_list_append) (by exact PySem.F.type_list_append) mt_append (@pe_dget _ _ _ _ _ _ (by exact hu) (pv 1) pe_str (by exact (fun _ _ => rfl))) (@pa_consN _ _ _ _ _ (@pe_tup _ _ _ _ _ (@pa_consN _ _ _ _ _ pe_str (@pa_consN _ _ _ _ _ (pv 2) (@pa_consN _ _ _ _ _ (pv 4) pa_nil (by first|rfl|decide|exact .inl rfl|exact .inr rfl|(intros; rfl))) (by first|rfl|decide|exact .inl rfl|exact .inr rfl|(intros; rfl))) (by first|rfl|decide|exact .inl rfl|exact .inr rfl|(intros; rfl)))) pa_nil (by first|rfl|decide|exact .inl rfl|exact .inr rfl|(intros; rfl))) (by first|rfl|decide|exact .inl rfl|exact .inr rfl|(intros; rfl)) (by first|rfl|decide|exact .inl rfl|exact .inr rfl|(intros; rfl)) (by first|rfl|decide|exact .inl rfl|exact .inr rfl|(intros; rfl)) (by first|rfl|decide|exact .inl rfl|exact .inr rfl|(intros; rfl)) (by first|rfl|decide|exact .inl rfl|exact .inr rfl|(intros; rfl))) (by first|rfl|decide|exact .inl rfl|exact .inr rfl|(intros; rfl))) (@pss_one _ _ _ (@ps_ret _ _ _ _ (@pe_and _ _ _ _ _ _ _ (@pe_cmpR _ _ _ _ _ _ _ _ (op_eqD 0 hu1) (pv 3) (@pe_lst _ _ _ _ (@pa_consN _ _ _ _ _ (pv 4) pa_nil (by first|rfl|decide|exact .inl rfl|exact .inr rfl|(intros; rfl)))) (by exact (nomark _))) (@pe_one _ _ _ _ _ (@pe_cmpR _ _ _ _ _ _ _ _ op_eq (@pe_callLam _ _ _ _ _ _ _ _ _ _ _ _ _ _ _ _ _ _ (by exact C_l_heard) (by exact (hr.mono (by decide))) (by exact LB) (by rfl) (by rfl) (by exact (fun _ => rfl)) (by rfl) (by rfl) (by rfl) (by rfl) (by decide +kernel) (by exact hfr_of rfl) (by exact Sees.frees [] [("_law_ball_here", 2), ("_law_room", 0)] (fr_cons ⟨rfl, rfl⟩ (fr_cons ⟨rfl, rfl⟩ fr_nil))) (by exact (fun _ _ _ _ => rfl)) (fun _ _ _ _ _ _ _ _ hrl => (@pm1 _ _ _ _ _ _ _ _ _ _ _ _ _ _ _ (by exact passesL) (by exact M1_where) (by exact CA.cl) (by exact (hrl.mono (by decide))) (pv 1) (@pa_consN _ _ _ _ _ (pv 0) pa_nil (by first|rfl|decide|exact .inl rfl|exact .inr rfl|(intros; rfl))) (by first|rfl|decide|exact .inl rfl|exact .inr rfl|(intros; rfl)) (by first|rfl|decide|exact .inl rfl|exact .inr rfl|(intros; rfl)) (by first|rfl|decide|exact .inl rfl|exact .inr rfl|(intros; rfl)))) (by first|rfl|decide|exact .inl rfl|exact .inr rfl|(intros; rfl)) (by first|rfl|decide|exact .inl rfl|exact .inr rfl|(intros; rfl)) (by first|rfl|decide|exact .inl rfl|exact .inr rfl|(intros; rfl)) (by first|rfl|decide|exact .inl rfl|exact .inr rfl|(intros; rfl))) pe_str (by exact (nomark _))))))))))), ?_⟩
  obtain ⟨RI, hw, ⟨lk, hl, LY⟩, ⟨pav, hpa, Pa⟩, low, nd⟩ := id RWx
  refine ⟨hTL, fun H1 s1 => ?_⟩
  have RW1 := RWx.same s1
  obtain ⟨⟨kvs, dv, ⟨⟨dx, h1⟩, _⟩, _⟩, _⟩ := id RW1.r
  have no : ∀ {m : Str} {kn : Int}, ¬ m = "numbers" → ¬ m = "places" → ¬ m = "next_ball" → ¬ m = "deeds" → (flds a.l a.d kn a.q).lookup m = none := fun a b c e => flds_no _ _ _ _ a b c e
  refine ⟨_, rfl, a.p, dx, _, rfl, h1, no (by decide +kernel) (by decide +kernel) (by decide +kernel) (by decide +kernel), _, rfl, a.p, a.l, a.d, a.q, n, x.ds, x.ns, x.pl, x.sz, x.nb, v, dd, rfl, RW1.r, hv.same s1, by omega, fun en => ?_, fun b bx ev eb => ?_⟩
  · refine ⟨_, 1, rfl, e1, fun H2 s2 => ?_⟩
    have s12 := s1.trans s2
    have RW2 := RWx.same s12
    refine ⟨_, rfl, v, dd, rfl, hv.same s12, _, rfl, ?_⟩
    have go : ∀ {α : Prop}, α → α := fun h => h
    cases ei : isI dd with
    | false =>
      refine iteT ?_
      refine ⟨_, rfl, rfl, _, rfl, ?_⟩
      rw [decide_eq_true (show V.str (heardWord 1) = V.str "ball" from rfl)]
      refine iteT ⟨s12 _ _ hTL, fun H3 s3 => ?_⟩
      have s13 := s12.trans s3
      have RW3 := RWx.same s13
      obtain ⟨⟨kvs, dv, ⟨⟨dx, h1⟩, _⟩, _⟩, _⟩ := id RW3.r
      refine ⟨_, rfl, a.p, dx, _, rfl, h1, no (by decide +kernel) (by decide +kernel) (by decide +kernel) (by decide +kernel), _, rfl, a.p, a.l, a.d, a.q, n, x.ds, x.ns, x.pl, x.sz, x.nb, v, dd, rfl, RW3.r, hv.same s13, fun _ => ⟨_, 1, rfl, e1, fun H4 s4 => ⟨rfl, ?_⟩⟩, fun bx z => by rw [en] at z; cases z⟩
      rw [decide_eq_true (show V.str "ball" = V.str (heardWord 1) from rfl)]
      exact k x H4 (RW3.same s4) (Off.of (s13.trans s4)) (by omega) rfl
    | true =>
      obtain ⟨b, rfl⟩ := isI_int hv ei
      refine iteF ⟨_, rfl, _, rfl, a.wd, _, rfl, get_lying RW2.wd, a.ly, _, rfl, DGet.k (k := Sum.inl b) (s12 _ _ hl), _, rfl, ?_⟩
      rw [lkV_val, LY.val, show x.pl b = none from en]
      refine iteT ?_
      refine ⟨_, rfl, rfl, _, rfl, ?_⟩
      rw [decide_eq_true (show V.str (heardWord 1) = V.str "ball" from rfl)]
      refine iteT ⟨s12 _ _ hTL, fun H3 s3 => ?_⟩
      have s13 := s12.trans s3
      have RW3 := RWx.same s13
      obtain ⟨⟨kvs, dv, ⟨⟨dx, h1⟩, _⟩, _⟩, _⟩ := id RW3.r
      refine ⟨_, rfl, a.p, dx, _, rfl, h1, no (by decide +kernel) (by decide +kernel) (by decide +kernel) (by decide +kernel), _, rfl, a.p, a.l, a.d, a.q, n, x.ds, x.ns, x.pl, x.sz, x.nb, .int b, dd, rfl, RW3.r, hv.same s13, fun _ => ⟨_, 1, rfl, e1, fun H4 s4 => ⟨rfl, ?_⟩⟩, fun bx z => by rw [en] at z; cases z⟩
      rw [decide_eq_true (show V.str "ball" = V.str (heardWord 1) from rfl)]
      exact k x H4 (RW3.same s4) (Off.of (s13.trans s4)) (by omega) rfl
  · subst ev
    intro H2 RI2 sr2 ph hph
    obtain ⟨hw2, hl2, hpa2⟩ := RW1.offR sr2 (s1 _ _ hl) (s1 _ _ hpa)
    have o2 : Off a.all H H2 := (Off.of s1).trans sr2.off
    have Pa2 : Past H2 pav x.ds := Pa.mono fun b xs e => RWx.tup o2 e
    have hT2 := RWx.tab o2 hTL
    have s3 := same_new hph (.lst [.int bx])
    have o3 := o2.trans (Off.of s3)
    have f3 : (upd H2 ph (.lst [.int bx])) ph = some (.lst [.int bx]) := upd_same
    have RI3 := RI2.same s3
    have hw3 := s3 _ _ hw2
    have hl3 := s3 _ _ hl2
    have hpa3 := s3 _ _ hpa2
    have hT3 := s3 _ _ hT2
    have Pa3 := Pa2.mono fun b xs e => s3 _ _ e
    have phn : ph ∉ a.all := out_none RI2 hw2 hl2 hpa2 hph
    have hlen := RI.hs.len
    obtain ⟨b0, b1⟩ := RI.hs.rng b bx eb
    generalize upd H2 ph (.lst [.int bx]) = H3 at *
    refine ⟨_, rfl, .int b, dd, rfl, (by cases hv; exact .int b), _, rfl, ?_⟩
    rw [isI_of hv]
    refine iteF ⟨_, rfl, _, rfl, a.wd, _, rfl, get_lying hw3, a.ly, _, rfl, DGet.k (k := Sum.inl b) hl3, _, rfl, ?_⟩
    rw [lkV_val, LY.val, eb]
    refine iteF ?_
    refine ⟨_, rfl, a.wd, _, rfl, get_lying hw3, a.ly, rfl, .inl ⟨_, .inl hl3⟩, _, rfl, lkV lk, Sum.inl b, .int bx, hl3, rfl, (by rw [lkV_val, LY.val, eb]; rfl), ?_⟩
    rw [lkV_drop]
    obtain ⟨ap, al, ad, aq, awd, aly, apa⟩ := a
    dsimp only at *
    obtain ⟨⟨_, _, _, g4, g5, g6⟩, ⟨_, _, l4, l5, l6⟩, ⟨_, d4, d5, d6⟩, ⟨q4, q5, q6⟩, ⟨w5, w6⟩, y6⟩ := all_ne nd
    generalize hlk : (lk.filter fun e => decide (e.1 ≠ b)) = lk2
    have LY2 := LY.drop hlen b0 b1 eb (ds := (false, b, bx) :: x.ds) (nb := x.nb)
    rw [hlk] at LY2
    have k4 : ∀ c o, H3 c = some o → c ≠ aly → (upd H3 aly (.dK (lkV lk2))) c = some o := fun c o e h => by rw [upd_ne h]; exact e
    have hl4 : (upd H3 aly (.dK (lkV lk2))) aly = some (.dK (lkV lk2)) := upd_same
    generalize upd H3 aly (.dK (lkV lk2)) = H4 at k4 hl4
    have hw4 := k4 _ _ hw3 w5
    have hpa4 := k4 _ _ hpa3 (Ne.symm y6)
    refine ⟨_, rfl, awd, _, rfl, get_past hw4, .inl ⟨rfl, _, SqL.of hpa4⟩, _, rfl, _, rfl, lz 3 rfl, fun t1 ht1 => ?_⟩
    have s5 := same_new ht1 (.tup [.str "gone", .int b, .int bx])
    have t5 : (upd H4 t1 (.tup [.str "gone", .int b, .int bx])) t1 = some (.tup [.str "gone", .int b, .int bx]) := upd_same
    generalize upd H4 t1 (.tup [.str "gone", .int b, .int bx]) = H5 at s5 t5
    have pvl := Pa.len
    refine ⟨apa, pav, .ref t1, rfl, rfl, s5 _ _ hpa4, (by rw [sizeLine_eq]; omega), ?_⟩
    have k6 : ∀ c o, H3 c = some o → c ≠ aly → c ≠ apa → (upd H5 apa (.lst (pav ++ [.ref t1]))) c = some o := fun c o e h h3 => by rw [upd_ne h3]; exact s5 _ _ (k4 _ _ e h)
    have hl6 : (upd H5 apa (.lst (pav ++ [.ref t1]))) aly = some (.dK (lkV lk2)) := by rw [upd_ne y6]; exact s5 _ _ hl4
    have hp6 : (upd H5 apa (.lst (pav ++ [.ref t1]))) apa = some (.lst (pav ++ [.ref t1])) := upd_same
    have t6 : (upd H5 apa (.lst (pav ++ [.ref t1]))) t1 = some (.tup [.str "gone", .int b, .int bx]) := by rw [upd_ne (ne_of t5 (s5 _ _ hpa4) (by intro z; cases z))]; exact t5
    generalize upd H5 apa (.lst (pav ++ [.ref t1])) = H6 at k6 hl6 hp6 t6
    have hw6 := k6 _ _ hw3 w5 w6
    have tt : ∀ c xs, H3 c = some (.tup xs) → H6 c = some (.tup xs) := fun c xs e => k6 _ _ e (ne_of e hl3 (by intro z; cases z)) (ne_of e hpa3 (by intro z; cases z))
    have RW6 : RW C n H6 ⟨ap, al, ad, aq, awd, aly, apa⟩ ⟨(false, b, bx) :: x.ds, dec x.ns bx, updf x.pl b none, x.sz - 1, x.nb⟩ :=
      ⟨RI3.keepR (fun c o e hb => by
        rcases hb with z | z | z | z <;> subst z
        · exact k6 _ _ e g5 g6
        · exact k6 _ _ e l5 l6
        · exact k6 _ _ e d5 d6
        · exact k6 _ _ e q5 q6) tt, hw6, ⟨_, hl6, LY2⟩, ⟨_, hp6, .snoc t6 (Pa3.mono tt)⟩, low_cons low RI2.hs (by have := RWx.szl; omega), nd⟩
    have o6 : Off (Ad.all ⟨ap, al, ad, aq, awd, aly, apa⟩) H H6 := fun c o e hb => by
      have e6 := o3 c o e hb
      simp only [Ad.all, List.mem_cons, List.not_mem_nil, or_false, not_or] at hb
      exact k6 _ _ e6 hb.2.2.2.2.2.1 hb.2.2.2.2.2.2
    have fp : H6 ph = some (.lst [.int bx]) := by
      simp only [Ad.all, List.mem_cons, List.not_mem_nil, or_false, not_or] at phn
      exact k6 _ _ f3 phn.2.2.2.2.2.1 phn.2.2.2.2.2.2
    have hT6 := RWx.tab o6 hTL
    refine ⟨_, rfl, _, rfl, lz 1 rfl, fun l2 hl2 => ?_⟩
    have s7 := same_new hl2 (.lst [.int bx])
    have l7 : (upd H6 l2 (.lst [.int bx])) l2 = some (.lst [.int bx]) := upd_same
    generalize upd H6 l2 (.lst [.int bx]) = H7 at s7 l7
    refine ⟨.list [.int bx], .list [.int bx], .lst (s7 _ _ fp) (.cons (.int _) .nil), .lst l7 (.cons (.int _) .nil), by simp [cmpN], fun bb hb => ?_⟩
    obtain rfl : bb = true := hb.mpr rfl
    refine ⟨true, rfl, iteT ⟨s7 _ _ hT6, fun H8 s8 => ?_⟩⟩
    have s68 := s7.trans s8
    have RW8 := RW6.same s68
    obtain ⟨⟨kvs, dv, ⟨⟨dx, h1⟩, _⟩, _⟩, _⟩ := id RW8.r
    have pn : plV (updf x.pl b none) (.int b) = none := by show updf x.pl b none b = none; unfold updf; rw [if_pos rfl]
    refine ⟨_, rfl, ap, dx, _, rfl, h1, no (by decide +kernel) (by decide +kernel) (by decide +kernel) (by decide +kernel), _, rfl, ap, al, ad, aq, n, _, _, _, _, _, .int b, .int b, rfl, RW8.r, .int b, fun _ => ⟨_, 1, rfl, e1, fun H9 s9 => ⟨rfl, ?_⟩⟩, fun bx z => by rw [pn] at z; cases z⟩
    rw [decide_eq_true (show V.str (heardWord 1) = V.str "ball" from rfl)]
    exact k _ H9 (RW8.same s9) (o6.trans (Off.of (s68.trans s9))) (by simp) rfl
end
end My

set_option Elab.async false
set_option linter.all false
set_option maxRecDepth 100000
set_option maxHeartbeats 4000000
namespace L2
open PySem PySem.Spec PyProof.Rows
theorem op_eqL0 {X : Cx} (hu : X.A.units < cLine) : OpR X (compareOp .Eq) (fun x y H Q => ∃ p q xs, x = .ref p ∧ y = .ref q ∧ H p = some (.lst xs) ∧ H q = some (.lst []) ∧ Q (.bl xs.isEmpty) H) := by
  intro pins s σ H x y v u Q I rx ry h
  obtain ⟨p, q, xs, rfl, rfl, h1, h2, k⟩ := h
  cases xs with
  | nil => exact op_eqLs hu pins s σ H _ _ v u Q I rx ry ⟨p, q, [], rfl, rfl, h1, h2, rfl, rfl, k⟩
  | cons a r => exact op_eqLE hu pins s σ H _ _ v u Q I rx ry ⟨p, q, a :: r, rfl, rfl, h1, h2, by simp, k⟩
end L2
namespace My
open PySem L2 MA
theorem Past.shape {H : Hp} {pav : List V} {x0 : Deed} {ds : List Deed} (h : Past H pav (x0 :: ds)) : ∃ pv0 t, pav = pv0 ++ [.ref t] ∧ H t = some (.tup [.str (pword x0.1), .int x0.2.1, .int x0.2.2]) ∧ Past H pv0 ds := by
  cases h with
  | snoc e r => exact ⟨_, _, rfl, e, r⟩
theorem low_tail {n : Nat} {e : Deed} {ds : List Deed} (low : ∀ k ns' pl' sz', Hist n ((e :: ds).drop k) ns' pl' sz' → sz' ≤ 60) : ∀ k ns' pl' sz', Hist n (ds.drop k) ns' pl' sz' → sz' ≤ 60 := fun k ns' pl' sz' g => low (k + 1) ns' pl' sz' g
section
variable {P : Program} {w : World} {K : PySem.W.Frag} {mg : Str → Option Value} {base : Heap}
noncomputable def spBR (C TB : Addr) (z1 : Str) : Sp := fun vs H Q _ => ∃ (a : Ad) (n : Nat) (x : Sx), vs = [.ref a.p, .ref a.wd] ∧ RW C n H a x ∧ x.ds.length ≤ 800 ∧ H TB = some (.tab z1) ∧
  ∀ (y : Sx) (H' : Hp), RW C n H' a y → Off a.all H H' → y.ds = x.ds.tail → y.nb = x.nb → Q (.bl true) H'
theorem ok_br {C D : Addr} {c : Addr} {er : Errs} (R : RmT K mg C) (T : Txt2 mg) (kb : K.In base) (L : LamFor mg base "_law_back_right" c D) (e5 : ErrI K er er.c5 5)
    (C_l_heard : Cal P w K mg base "_law_heard" ["_law_asked"] 7 (spH P w K mg base 6 (hHeard K er))) (M1_back : MCal1 P w K mg base C "back" ["self"] 2 (spBack1 C er.c5))
    (F : FunAt K mg "_law_back_right" ["_law_room", "_law_world"] s_l_back_right) : Cal P w K mg base "_law_back_right" ["_law_room", "_law_world"] 8 (spBR C D (qLam "_law_back_right")) := by
  have S := sc_l_back_right
  have LB := L.lb
  have CA := R.ca
  refine F.calL kb L sc_l_back_right (fun vs H Q E h => ?_) (fun f A outer s H vs Q E hr h => ?_)
  · obtain ⟨a, n, x, rfl, _⟩ := h; rfl
  obtain ⟨a, n, x, rfl, RWx, dl, hTB, k⟩ := h
  have hu := hu_of hr
  have hu0 := hr.units0
  have hu1 := hu_of hr
  refine ⟨_, (@pss_cons _ _ _ _ _ (@ps_set _ _ (2) _ _ _ _ (by exact S.nd) (by rfl) (by first | exact Or.inl rfl | exact Or.inr rfl) (@pe_callLam _ _ _ _ _ _ _ _ _ _ _ _ _ _ _ _ _ _ (by exact C_l_heard) (by exact (hr.mono (by decide))) (by exact LB) (by rfl) (by rfl) (by exact (fun _ => rfl)) (by rfl) (by rfl) (by rfl) (by rfl) (by decide +kernel) (by exact hfr_of rfl) (by exact Sees.frees [] [("_law_room", 0)] (fr_cons ⟨rfl, rfl⟩ fr_nil)) (by exact (fun _ _ _ _ => rfl)) (fun _ _ _ _ _ _ _ _ hrl => (@pm01 _ _ _ _ _ _ _ _ _ _ _ _ (by exact passesL) (by exact M1_back) (by exact CA.cl) (by exact (hrl.mono (by decide))) (pv 0) (by first|rfl|decide|exact .inl rfl|exact .inr rfl|(intros; rfl)))) (by first|rfl|decide|exact .inl rfl|exact .inr rfl|(intros; rfl)) (by first|rfl|decide|exact .inl rfl|exact .inr rfl|(intros; rfl)) (by first|rfl|decide|exact .inl rfl|exact .inr rfl|(intros; rfl)) (by first|rfl|decide|exact .inl rfl|exact .inr rfl|(intros; rfl))) (by first|rfl|decide|exact .inl rfl|exact .inr rfl|(intros; rfl)) (by first|rfl|decide|exact .inl rfl|exact .inr rfl|(intros; rfl))) (@pss_cons _ _ _ _ _ (@ps_if _ _ _ _ _ _ _ _ (@pt_cmpR _ _ _ _ _ _ _ _ (op_eqL0 hu0) (@pe_dget _ _ _ _ _ _ (by exact hu) (pv 1) pe_str (by exact (fun _ _ => rfl))) (@pe_lst _ _ _ _ pa_nil) (by exact (nomark _))) (@pss_one _ _ _ (@ps_ret _ _ _ _ (@pe_cmpR _ _ _ _ _ _ _ _ op_eq (pv 2) pe_str (by exact (nomark _))))) pss_nil) (@pss_cons _ _ _ _ _ (@ps_asg _ _ _ _ _ _ (@pe_bm0 _ _ _ _ _ _ _ _ _ (by exact PySem.F.plainAttrs_list) (by exact PySem.F.slot_list_pop) (by exact PySem.F.type_list_pop) mt_pop (@pe_dget _ _ _ _ _ _ (by exact hu) (pv 1) pe_str (by exact (fun _ _ => rfl))) (by first|rfl|decide|exact .inl rfl|exact .inr rfl|(intros; rfl)) (by first|rfl|decide|exact .inl rfl|exact .inr rfl|(intros; rfl))) (@pg_tup _ _ _ _ _ _ (by rfl) (@pgs_cons _ _ _ _ _ (@pg_name _ _ (3) _ (by exact S.nd) (by rfl) (by first | exact Or.inl rfl | exact Or.inr rfl) (by first|rfl|decide|exact .inl rfl|exact .inr rfl|(intros; rfl))) (@pgs_cons _ _ _ _ _ (@pg_name _ _ (4) _ (by exact S.nd) (by rfl) (by first | exact Or.inl rfl | exact Or.inr rfl) (by first|rfl|decide|exact .inl rfl|exact .inr rfl|(intros; rfl))) (@pgs_cons _ _ _ _ _ (@pg_name _ _ (5) _ (by exact S.nd) (by rfl) (by first | exact Or.inl rfl | exact Or.inr rfl) (by first|rfl|decide|exact .inl rfl|exact .inr rfl|(intros; rfl))) pgs_nil (by first|rfl|decide|exact .inl rfl|exact .inr rfl|(intros; rfl))) (by first|rfl|decide|exact .inl rfl|exact .inr rfl|(intros; rfl))) (by first|rfl|decide|exact .inl rfl|exact .inr rfl|(intros; rfl))) (by first|rfl|decide|exact .inl rfl|exact .inr rfl|(intros; rfl)) (by first|rfl|decide|exact .inl rfl|exact .inr rfl|(intros; rfl))) (by first|rfl|decide|exact .inl rfl|exact .inr rfl|(intros; rfl)) (by first|rfl|decide|exact .inl rfl|exact .inr rfl|(intros; rfl)) (by first|rfl|decide|exact .inl rfl|exact .inr rfl|(intros; rfl))) (@pss_cons _ _ _ _ _ (@ps_if _ _ _ _ _ _ _ _ (@pt_cmpR _ _ _ _ _ _ _ _ op_eq (pv 3) pe_str (by exact (nomark _))) (@pss_one _ _ _ (@ps_expr _ _ _ _ (@pe_dpop1 _ _ _ _ _ _ _ (@pe_dget _ _ _ _ _ _ (by exact hu) (pv 1) pe_str (by exact (fun _ _ => rfl))) (pv 4) (by exact ⟨rfl, rfl, rfl, rfl⟩)) (by first|rfl|decide|exact .inl rfl|exact .inr rfl|(intros; rfl)))) (@pss_one _ _ _ (@ps_dput _ _ _ _ _ _ _ _ _ (by exact hu1) (@pe_dget _ _ _ _ _ _ (by exact hu) (pv 1) pe_str (by exact (fun _ _ => rfl))) (pv 4) (pv 5) (by rfl)))) (@pss_one _ _ _ (@ps_ret _ _ _ _ (@pe_cmpR _ _ _ _ _ _ _ _ (op_eqD 0 hu1) (pv 2) (@pe_lst _ _ _ _ (@pa_consN _ _ _ _ _ (pv 4) pa_nil (by first|rfl|decide|exact .inl rfl|exact .inr rfl|(intros; rfl)))) (by exact (nomark _))))))))), ?_⟩
  obtain ⟨RI, hw, ⟨lk, hl, LY⟩, ⟨pav, hpa, Pa⟩, low, nd⟩ := id RWx
  refine ⟨hTB, fun H1 s1 => ?_⟩
  have RW1 := RWx.same s1
  obtain ⟨⟨kvs, dv, ⟨⟨dx, h1⟩, _⟩, _⟩, _⟩ := id RW1.r
  have no : ∀ {m : Str} {kn : Int}, ¬ m = "numbers" → ¬ m = "places" → ¬ m = "next_ball" → ¬ m = "deeds" → (flds a.l a.d kn a.q).lookup m = none := fun a b c e => flds_no _ _ _ _ a b c e
  refine ⟨_, rfl, a.p, dx, _, rfl, h1, no (by decide +kernel) (by decide +kernel) (by decide +kernel) (by decide +kernel), a.p, a.l, a.d, a.q, n, x.ds, x.ns, x.pl, x.sz, x.nb, rfl, RW1.r, by omega, fun en => ?_, fun x0 ds0 ns0 pl0 sz0 ed h0 H2 RI2 sr2 => ?_⟩
  · refine ⟨_, 5, rfl, e5, fun H2 s2 => ?_⟩
    have s12 := s1.trans s2
    have RW2 := RWx.same s12
    refine ⟨_, rfl, a.wd, _, rfl, get_past RW2.wd, lz 0 rfl, fun q hq => ?_⟩
    have s3 := same_new hq (.lst [])
    have s13 := s12.trans s3
    obtain rfl : pav = [] := by rw [en] at Pa; cases Pa; rfl
    refine ⟨a.pa, q, [], rfl, rfl, s13 _ _ hpa, upd_same, _, rfl, iteT ⟨_, rfl, rfl, ?_⟩⟩
    rw [decide_eq_true (show V.str (heardWord 5) = V.str "back" from rfl)]
    exact k x _ (RWx.same s13) (Off.of s13) (by rw [en]; rfl) rfl
  · intro ph hph
    obtain ⟨hw2, hl2, hpa2⟩ := RW1.offR sr2 (s1 _ _ hl) (s1 _ _ hpa)
    have o2 : Off a.all H H2 := (Off.of s1).trans sr2.off
    have Pa2 : Past H2 pav x.ds := Pa.mono fun b xs e => RWx.tup o2 e
    rw [ed] at Pa2
    obtain ⟨pv0, t, rfl, ht2, Pa0⟩ := Pa2.shape
    have s3 := same_new hph (.lst [.int x0.2.1])
    have o3 := o2.trans (Off.of s3)
    have f3 : (upd H2 ph (.lst [.int x0.2.1])) ph = some (.lst [.int x0.2.1]) := upd_same
    have RI3 := RI2.same s3
    have hw3 := s3 _ _ hw2
    have hl3 := s3 _ _ hl2
    have hpa3 := s3 _ _ hpa2
    have ht3 := s3 _ _ ht2
    have Pa3 := Pa0.mono fun b xs e => s3 _ _ e
    have phn : ph ∉ a.all := out_none RI2 hw2 hl2 hpa2 hph
    generalize upd H2 ph (.lst [.int x0.2.1]) = H3 at *
    refine ⟨_, rfl, a.wd, _, rfl, get_past hw3, lz 0 rfl, fun q hq => ?_⟩
    have s4 := same_new hq (.lst [])
    have q4 : (upd H3 q (.lst [])) q = some (.lst []) := upd_same
    have o4 := o3.trans (Off.of s4)
    generalize upd H3 q (.lst []) = H4 at s4 q4 o4
    refine ⟨a.pa, q, _, rfl, rfl, s4 _ _ hpa3, q4, _, rfl, ?_⟩
    rw [show (pv0 ++ [V.ref t]).isEmpty = false by simp]
    refine iteF ?_
    refine ⟨_, rfl, a.wd, _, rfl, get_past (s4 _ _ hw3), .inl ⟨rfl, _, SqL.of (s4 _ _ hpa3)⟩, a.pa, _, .ref t, rfl, rfl, s4 _ _ hpa3, (by simp), ?_⟩
    rw [List.dropLast_concat]
    obtain ⟨ap, al, ad, aq, awd, aly, apa⟩ := a
    dsimp only at *
    obtain ⟨⟨_, _, _, g4, g5, g6⟩, ⟨_, _, l4, l5, l6⟩, ⟨_, d4, d5, d6⟩, ⟨q4', q5, q6⟩, ⟨w5, w6⟩, y6⟩ := all_ne nd
    have k5 : ∀ c o, H3 c = some o → c ≠ apa → (upd H4 apa (.lst pv0)) c = some o := fun c o e h => by rw [upd_ne h]; exact s4 _ _ e
    have hp5 : (upd H4 apa (.lst pv0)) apa = some (.lst pv0) := upd_same
    generalize upd H4 apa (.lst pv0) = H5 at k5 hp5
    have hw5 := k5 _ _ hw3 w6
    have hl5 := k5 _ _ hl3 y6
    have tp : ∀ c xs, H3 c = some (.tup xs) → H5 c = some (.tup xs) := fun c xs e => k5 _ _ e (ne_of e hpa3 (by intro z; cases z))
    have ht5 := tp _ _ ht3
    obtain ⟨kd, b, bx⟩ := x0
    dsimp only at *
    refine ⟨t, _, rfl, SqT.of ht5, rfl, _, _, rfl, _, _, rfl, _, _, rfl, rfl, ?_⟩
    refine ⟨_, rfl, rfl, _, rfl, ?_⟩
    have fin : ∀ (lk2 : List (Int × Int)) (H6 : Hp), H6 = upd H5 aly (.dK (lkV lk2)) → LyIs n lk2 ⟨ds0, ns0, pl0, sz0, x.nb⟩ → RW C n H6 ⟨ap, al, ad, aq, awd, aly, apa⟩ ⟨ds0, ns0, pl0, sz0, x.nb⟩ ∧ Off (Ad.all ⟨ap, al, ad, aq, awd, aly, apa⟩) H H6 ∧ H6 ph = some (.lst [.int b]) := by
      intro lk2 H6 e6 L2
      have k6 : ∀ c o, H3 c = some o → c ≠ apa → c ≠ aly → H6 c = some o := fun c o e h h2 => by rw [e6, upd_ne h2]; exact k5 _ _ e h
      refine ⟨⟨RI3.keepR (fun c o e hb => ?_) (fun c xs e => ?_), k6 _ _ hw3 w6 w5, ⟨lk2, by rw [e6]; exact upd_same, L2⟩, ⟨pv0, by rw [e6, upd_ne (Ne.symm y6)]; exact hp5, Pa3.mono fun c xs e => ?_⟩, ?_, nd⟩, fun c o e hb => ?_, ?_⟩
      · rcases hb with z | z | z | z <;> subst z
        · exact k6 _ _ e g6 g5
        · exact k6 _ _ e l6 l5
        · exact k6 _ _ e d6 d5
        · exact k6 _ _ e q6 q5
      · exact k6 _ _ e (ne_of e hpa3 (by intro z; cases z)) (ne_of e hl3 (by intro z; cases z))
      · exact k6 _ _ e (ne_of e hpa3 (by intro z; cases z)) (ne_of e hl3 (by intro z; cases z))
      · rw [ed] at low; exact low_tail low
      · have e3 := o3 c o e hb
        simp only [Ad.all, List.mem_cons, List.not_mem_nil, or_false, not_or] at hb
        exact k6 _ _ e3 hb.2.2.2.2.2.2 hb.2.2.2.2.2.1
      · simp only [Ad.all, List.mem_cons, List.not_mem_nil, or_false, not_or] at phn
        exact k6 _ _ f3 phn.2.2.2.2.2.2 phn.2.2.2.2.2.1
    have hs := RI.hs
    have hlen := hs.len
    obtain ⟨xds, xns, xpl, xsz, xnb⟩ := x
    dsimp only at *
    subst ed
    cases hs with
    | @put _ ns1 pl1 sz1 _ _ h1' pn b0 b1 =>
      obtain ⟨rfl, rfl, rfl⟩ := h1'.det h0
      have eb : updf pl1 b (some bx) b = some bx := by unfold updf; rw [if_pos rfl]
      have LY2 := LY.drop hlen b0 b1 eb (ds := ds0) (nb := xnb)
      dsimp only at LY2
      rw [dec_inc (by rw [inc_len] at hlen; omega), updf_back pn, Nat.add_sub_cancel] at LY2
      refine iteT ?_
      refine ⟨_, rfl, awd, _, rfl, get_lying hw5, aly, rfl, .inl ⟨_, .inl hl5⟩, _, rfl, lkV lk, Sum.inl b, .int bx, hl5, rfl, (by rw [lkV_val, LY.val]; show (updf pl1 b (some bx) b).map V.int = _; rw [eb]; rfl), ?_⟩
      rw [lkV_drop]
      obtain ⟨RW6, o6, f6⟩ := fin _ _ rfl LY2
      refine ⟨_, rfl, _, rfl, lz 1 rfl, fun l2 hl2' => ?_⟩
      have s7 := same_new hl2' (.lst [.int b])
      refine ⟨.list [.int b], .list [.int b], .lst (s7 _ _ f6) (.cons (.int _) .nil), .lst upd_same (.cons (.int _) .nil), by simp [cmpN], fun bb hb => ?_⟩
      obtain rfl : bb = true := hb.mpr rfl
      exact k _ _ (RW6.same s7) (o6.trans (Off.of s7)) rfl rfl
    | @leave _ ns1 pl1 sz1 _ _ h1' hb =>
      obtain ⟨rfl, rfl, rfl⟩ := h1'.det h0
      have nl := h1'.len
      obtain ⟨b0, b1⟩ := h1'.rng b bx hb
      have eb : updf pl1 b none b = none := by unfold updf; rw [if_pos rfl]
      have LY2 := LY.put hlen b0 b1 eb (ds := ds0) (nb := xnb)
      dsimp only at LY2
      rw [inc_dec (by omega), updf_back hb] at LY2
      refine iteF ?_
      refine ⟨_, rfl, _, rfl, awd, _, rfl, get_lying hw5, _, rfl, aly, _, rfl, DPut.k (k := Sum.inl b) hl5 (by rw [lkV_len, LY.len, sizeLine_eq]; have := RWx.szl; dsimp only at *; omega), ?_⟩
      rw [putK_new _ (by rw [lkV_val, LY.val]; show (updf pl1 b none b).map V.int = _; rw [eb]; rfl), ← lkV_app lk (b, bx)]
      obtain ⟨RW6, o6, f6⟩ := fin _ _ rfl LY2
      refine ⟨_, rfl, _, rfl, lz 1 rfl, fun l2 hl2' => ?_⟩
      have s7 := same_new hl2' (.lst [.int b])
      refine ⟨.list [.int b], .list [.int b], .lst (s7 _ _ f6) (.cons (.int _) .nil), .lst upd_same (.cons (.int _) .nil), by simp [cmpN], fun bb hb => ?_⟩
      obtain rfl : bb = true := hb.mpr rfl
      exact k _ _ (RW6.same s7) (o6.trans (Off.of s7)) rfl rfl
end
end My

set_option Elab.async false
set_option linter.all false
set_option maxRecDepth 100000
set_option maxHeartbeats 4000000
namespace My
open PySem L2 MA
noncomputable def spWhereR0 (C : Addr) : Sp := fun vs H Q _ => ∃ (p l d q : Addr) (n : Nat) (ds : List Deed) (ns : List Int) (pl : Int → Option Int) (sz : Nat) (nb b bx : Int), vs = [.ref p, .int b] ∧ RoomIs C n H p l d q ds ns pl sz nb ∧ pl b = some bx ∧ Q (.int bx) H
theorem whereR0 {C c1 : Addr} : ∀ vs H Q E, spWhereR0 C vs H Q E → spWhereR1 C c1 vs H Q E0 := fun vs H Q E ⟨p, l, d, q, n, ds, ns, pl, sz, nb, b, bx, e, RI, hb, k⟩ =>
  ⟨p, l, d, q, n, ds, ns, pl, sz, nb, .int b, .int b, e, RI, .int b, fun z => (by rw [show plV pl (.int b) = pl b from rfl, hb] at z; cases z), fun y hy => by rw [show plV pl (.int b) = pl b from rfl, hb] at hy; cases hy; exact k⟩
theorem cmp_ints (ns ms : List Int) : cmpN (0 + 1) (.tuple (ns.map .int)) (.tuple (ms.map .int)) := by
  intro p hp
  obtain ⟨h1, h2⟩ := List.of_mem_zip (a := p.1) (b := p.2) hp
  obtain ⟨i, _, e1⟩ := List.mem_map.mp h1
  obtain ⟨j, _, e2⟩ := List.mem_map.mp h2
  rw [← e1, ← e2]; exact True.intro
section
variable {P : Program} {w : World} {K : PySem.W.Frag} {mg : Str → Option Value} {base : Heap}
noncomputable def spShR (C : Addr) : Sp := fun vs H Q _ => ∃ (a : Ad) (n : Nat) (x : Sx), vs = [.ref a.p, .ref a.wd] ∧ RW C n H a x ∧ 1 ≤ n ∧ n ≤ 6 ∧ ∀ H', Same H H' → Q (.bl true) H'
theorem ok_shr {C : Addr} (R : RmT K mg C) (T : Txt2 mg) (C_l_counts : Cal P w K mg base "_law_counts" ["_law_world"] 1 spCounts) (M_where : MCal P w K mg base C "where" ["self", "ball"] 2 (spWhereR0 C)) (M_stand : MCal P w K mg base C "stand" ["self"] 1 (spStand C)) (M_load : MCal P w K mg base C "load" ["self"] 2 (spLoadR C))
    (F : FunAt K mg "_law_shown_right" ["_law_room", "_law_world"] s_l_shown_right) : Cal P w K mg base "_law_shown_right" ["_law_room", "_law_world"] 3 (spShR C) := by
  have S := sc_l_shown_right
  have CA := R.ca
  refine F.cal sc_l_shown_right (fun vs H Q E h => ?_) (fun f cdv A outer s H vs Q E hr h => ?_)
  · obtain ⟨a, n, x, rfl, _⟩ := h; rfl
  obtain ⟨a, n, x, rfl, RWx, n1, n6, k⟩ := h
  have hu := hu_of hr
  have hu1 := hu_of hr
  refine ⟨_, (@pss_cons _ _ _ _ _ (@ps_set _ _ (2) _ _ _ _ (by exact S.nd) (by rfl) (by first | exact Or.inl rfl | exact Or.inr rfl) (@cc _ _ _ _ _ _ _ _ _ _ (by exact C_l_counts) (by exact (hr.mono (by decide))) (@pa_consN _ _ _ _ _ (pv 1) pa_nil (by first|rfl|decide|exact .inl rfl|exact .inr rfl|(intros; rfl))) (by first|rfl|decide|exact .inl rfl|exact .inr rfl|(intros; rfl)) (by first|rfl|decide|exact .inl rfl|exact .inr rfl|(intros; rfl)) (by first|rfl|decide|exact .inl rfl|exact .inr rfl|(intros; rfl)) (by first|rfl|decide|exact .inl rfl|exact .inr rfl|(intros; rfl))) (by first|rfl|decide|exact .inl rfl|exact .inr rfl|(intros; rfl)) (by first|rfl|decide|exact .inl rfl|exact .inr rfl|(intros; rfl))) (@pss_cons _ _ _ _ _ (@ps_if _ _ _ _ _ _ _ _ (@PW.pt _ _ _ (@pw_or _ _ _ _ _ _ _ (@pt_cmpR _ _ _ _ _ _ _ _ (op_neD 0 hu1) (@pm0 _ _ _ _ _ _ _ _ _ _ _ (by exact M_stand) (by exact CA.cl) (by exact (hr.mono (by decide))) (pv 0) (by first|rfl|decide|exact .inl rfl|exact .inr rfl|(intros; rfl))) (@pe_callTy _ _ _ _ _ _ _ _ _ call_tuple_of (by rfl) (by exact T.z_tuple) (by exact bt_tuple) (@pa_consN _ _ _ _ _ (pv 2) pa_nil (by first|rfl|decide|exact .inl rfl|exact .inr rfl|(intros; rfl))) (by first|rfl|decide|exact .inl rfl|exact .inr rfl|(intros; rfl)) (by first|rfl|decide|exact .inl rfl|exact .inr rfl|(intros; rfl)) (by first|rfl|decide|exact .inl rfl|exact .inr rfl|(intros; rfl)) (by first|rfl|decide|exact .inl rfl|exact .inr rfl|(intros; rfl))) (by exact (nomark _))) (@pw_or1 _ _ _ _ (@pt_cmpR _ _ _ _ _ _ _ _ (op_neD 0 hu1) (@pm0 _ _ _ _ _ _ _ _ _ _ _ (by exact M_load) (by exact CA.cl) (by exact (hr.mono (by decide))) (pv 0) (by first|rfl|decide|exact .inl rfl|exact .inr rfl|(intros; rfl))) (@pe_callTy _ _ _ _ _ _ _ _ _ call_tuple_of (by rfl) (by exact T.z_tuple) (by exact bt_tuple) (@pa_consN _ _ _ _ _ (@pe_sortedR _ _ _ _ _ _ _ _ _ (by rfl) (by exact T.z_sorted) (@pa_consN _ _ _ _ _ (pv 2) pa_nil (by first|rfl|decide|exact .inl rfl|exact .inr rfl|(intros; rfl))) (by first|rfl|decide|exact .inl rfl|exact .inr rfl|(intros; rfl)) (by first|rfl|decide|exact .inl rfl|exact .inr rfl|(intros; rfl))) pa_nil (by first|rfl|decide|exact .inl rfl|exact .inr rfl|(intros; rfl))) (by first|rfl|decide|exact .inl rfl|exact .inr rfl|(intros; rfl)) (by first|rfl|decide|exact .inl rfl|exact .inr rfl|(intros; rfl)) (by first|rfl|decide|exact .inl rfl|exact .inr rfl|(intros; rfl)) (by first|rfl|decide|exact .inl rfl|exact .inr rfl|(intros; rfl))) (by exact (nomark _)))))) (@pss_one _ _ _ (@ps_ret _ _ _ _ pe_bl)) pss_nil) (@pss_one _ _ _ (@ps_ret _ _ _ _ (@pe_callB _ _ _ _ _ _ _ _ _ (call_all (by rfl)) (by rfl) (by exact T.z_all) (by exact bt_all) (@pa_consN _ _ _ _ _ (@pe_thawK _ _ _ (@pe_comp _ _ _ _ _ _ _ _ _ _ _ _ _ (by rfl) (by exact (fun _ _ h => h)) (by decide +kernel) (by rfl) (by decide +kernel) (by exact hfr_of rfl) (by exact Sees.frees ["_law_ball_here"] [("_law_room", 0), ("_law_world", 1)] (fr_cons ⟨rfl, rfl⟩ (fr_cons ⟨rfl, rfl⟩ fr_nil))) (@pi_keysK _ _ _ _ (@pe_dget _ _ _ _ _ _ (by exact hu) (pv 1) pe_str (by exact (fun _ _ => rfl)))) (fun _ _ _ _ _ => @pg_name _ _ (0) _ (by exact (show (["_law_ball_here", "_law_room", "_law_world"] : List Str).Nodup by decide +kernel)) (by rfl) (by first | exact Or.inl rfl | exact Or.inr rfl) (by first|rfl|decide|exact .inl rfl|exact .inr rfl|(intros; rfl))) (fun _ _ _ _ _ => pts_nil) (fun _ _ _ _ _ => (@pe_cmpR _ _ _ _ _ _ _ _ op_eq (@pm _ _ _ _ _ _ _ _ _ _ _ _ _ _ (by exact M_where) (by exact CA.cl) (by exact (hr.mono (by decide))) (pv 1) (@pa_consN _ _ _ _ _ (pv 0) pa_nil (by first|rfl|decide|exact .inl rfl|exact .inr rfl|(intros; rfl))) (by first|rfl|decide|exact .inl rfl|exact .inr rfl|(intros; rfl)) (by first|rfl|decide|exact .inl rfl|exact .inr rfl|(intros; rfl)) (by first|rfl|decide|exact .inl rfl|exact .inr rfl|(intros; rfl))) (@pe_dget _ _ _ _ _ _ (by exact hu1) (@pe_dget _ _ _ _ _ _ (by exact hu) (pv 2) pe_str (by exact (fun _ _ => rfl))) (pv 0) (by exact (fun _ _ => rfl))) (by exact (nomark _)))) (by first|rfl|decide|exact .inl rfl|exact .inr rfl|(intros; rfl)))) pa_nil (by first|rfl|decide|exact .inl rfl|exact .inr rfl|(intros; rfl))) (by first|rfl|decide|exact .inl rfl|exact .inr rfl|(intros; rfl)) (by first|rfl|decide|exact .inl rfl|exact .inr rfl|(intros; rfl)) (by first|rfl|decide|exact .inl rfl|exact .inr rfl|(intros; rfl)) (by first|rfl|decide|exact .inl rfl|exact .inr rfl|(intros; rfl))))))), ?_⟩
  obtain ⟨RI, hw, ⟨lk, hl, LY⟩, ⟨pav, hpa, Pa⟩, low, nd⟩ := id RWx
  have szl := RWx.szl
  have hlen := RI.hs.len
  have cl : cntL n lk = x.ns := cntL_eq hlen LY.cnt
  have no : ∀ {m : Str} {kn : Int}, ¬ m = "numbers" → ¬ m = "places" → ¬ m = "next_ball" → ¬ m = "deeds" → (flds a.l a.d kn a.q).lookup m = none := fun a b c e => flds_no _ _ _ _ a b c e
  refine ⟨_, rfl, a.wd, a.ly, a.pa, n, x.nb, lk, rfl, hw, hl, n1, n6, by rw [LY.len]; omega, LY.nd, LY.rng RI.hs, fun q1 H1 hq1 s1 e1 => ?_⟩
  rw [cl] at e1
  have RW1 := RWx.same s1
  obtain ⟨⟨kvs, dv, ⟨⟨dx, h1⟩, _⟩, _⟩, _⟩ := id RW1.r
  refine ⟨_, rfl, a.p, dx, _, rfl, h1, no (by decide +kernel) (by decide +kernel) (by decide +kernel) (by decide +kernel), a.p, a.l, a.d, a.q, n, x.ds, x.ns, x.pl, x.sz, x.nb, rfl, RW1.r, fun r2 H2 s2 e2 => ?_⟩
  refine ⟨_, rfl, q1, _, rfl, .inl ⟨SqL.of (s2 _ _ e1), fun t3 ht3 => ?_⟩⟩
  have s3 := same_new ht3 (.tup (iv x.ns))
  have t3' : (upd H2 t3 (.tup (iv x.ns))) t3 = some (.tup (iv x.ns)) := upd_same
  generalize upd H2 t3 (.tup (iv x.ns)) = H3 at s3 t3'
  refine ⟨.tuple (x.ns.map .int), .tuple (x.ns.map .int), .tup (s3 _ _ e2) (data_ints _ _), .tup t3' (data_ints _ _), ?_, fun b hb => ?_⟩
  · exact cmp_ints _ _
  obtain rfl : b = false := by cases b with
    | false => rfl
    | true => exact absurd rfl (hb.mp rfl)
  refine ⟨false, rfl, iteF ?_⟩
  have s13 := (s1.trans s2).trans s3
  have RW3 := RWx.same s13
  obtain ⟨⟨kvs, dv, ⟨⟨dx, h1⟩, _⟩, _⟩, _⟩ := id RW3.r
  refine ⟨_, rfl, a.p, dx, _, rfl, h1, no (by decide +kernel) (by decide +kernel) (by decide +kernel) (by decide +kernel), a.p, a.l, a.d, a.q, n, x.ds, x.ns, x.pl, x.sz, x.nb, rfl, RW3.r, by omega, fun r4 ms H4 s4 pm od e4 => ?_⟩
  refine ⟨_, rfl, q1, x.ns, rfl, s4 _ _ (s3 _ _ (s2 _ _ e1)), by omega, fun q5 ms2 hq5 pm2 od2 => ?_⟩
  obtain rfl : ms2 = ms := desc_eq (pm2.trans pm.symm) od2 od
  have s5 := same_new hq5 (.lst (iv ms2))
  have f5 : (upd H4 q5 (.lst (iv ms2))) q5 = some (.lst (iv ms2)) := upd_same
  generalize upd H4 q5 (.lst (iv ms2)) = H5 at s5 f5
  refine ⟨q5, _, rfl, .inl ⟨SqL.of f5, fun t6 ht6 => ?_⟩⟩
  have s6 := same_new ht6 (.tup (iv ms2))
  have f6 : (upd H5 t6 (.tup (iv ms2))) t6 = some (.tup (iv ms2)) := upd_same
  generalize upd H5 t6 (.tup (iv ms2)) = H6 at s6 f6
  refine ⟨.tuple (ms2.map .int), .tuple (ms2.map .int), .tup (s6 _ _ (s5 _ _ e4)) (data_ints _ _), .tup f6 (data_ints _ _), cmp_ints _ _, fun b hb => ?_⟩
  obtain rfl : b = false := by cases b with
    | false => rfl
    | true => exact absurd rfl (hb.mp rfl)
  refine ⟨false, rfl, iteF ?_⟩
  have s16 := ((s13.trans s4).trans s5).trans s6
  have RW6 := RWx.same s16
  have hl6 := s16 _ _ hl
  obtain ⟨ap, al, ad, aq, awd, aly, apa⟩ := a
  dsimp only at *
  obtain ⟨⟨_, _, _, g4, g5, g6⟩, ⟨_, _, l4, l5, l6⟩, ⟨_, d4, d5, d6⟩, ⟨q4', q5', q6⟩, ⟨w5, w6⟩, y6⟩ := all_ne nd
  refine ⟨aly, _, hl6, _, rfl, awd, _, rfl, get_lying RW6.wd, aly, _, rfl, .inl ⟨hl6, fun o => ?_⟩⟩
  refine comp_Y (yields_keysK (kws := lk.map iV)) (fun q i ys σ' H' => Same (upd H6 aly (.frz o (.dK (lkV lk)))) H' ∧ (∃ o1, σ' = [o1, some (.ref ap), some (.ref awd)]) ∧ ys = (List.replicate i true).map V.bl) (by simp; have := LY.len; omega) ?_ ?_ ?_ ?_
  · exact fun q hq => ⟨same_new hq _, ⟨_, rfl⟩, rfl⟩
  · rintro q i ys σ' H' hq ⟨s', _⟩
    exact s' _ _ upd_same
  · rintro q i ys σ' H8 v H9 hq hi hl' ⟨s8, ⟨o1, rfl⟩, rfl⟩ hp8 ⟨rfl, kw, rfl, hkw⟩ Q1 Q2 hQ1 hQ2
    rw [List.getElem?_map, Option.map_eq_some_iff] at hkw
    obtain ⟨e, he, rfl⟩ := hkw
    have kz : ∀ b o', H6 b = some o' → b ≠ aly → H9 b = some o' := fun b o' e h => s8 _ _ (by rw [upd_ne h]; exact e)
    have RI8 := RW6.r.keepR (H' := H9) (fun b o' e hb => kz b o' e (by rcases hb with z | z | z | z <;> subst z <;> assumption)) (fun b xs e => kz _ _ e (ne_of e hl6 (by intro z; cases z)))
    obtain ⟨⟨kvs, dv, ⟨⟨dx, h1⟩, _⟩, _⟩, _⟩ := id RI8
    have ep : x.pl e.1 = some e.2 := by rw [← LY.val]; exact lookup_of LY.nd (List.mem_of_getElem? he)
    refine gN_ ⟨_, rfl, ap, dx, _, rfl, h1, no (by decide +kernel) (by decide +kernel) (by decide +kernel) (by decide +kernel), _, rfl, ap, al, ad, aq, n, x.ds, x.ns, x.pl, x.sz, x.nb, e.1, e.2, rfl, RI8, ep, ?_⟩
    refine ⟨_, rfl, awd, _, rfl, get_lying (kz _ _ RW6.wd w5), _, rfl, aly, _, rfl, getF (s8 _ _ upd_same) LY.nd he, rfl, hQ1 _ _ _ hp8 ⟨same_updN hq s8 _, ⟨_, rfl⟩, ?_⟩⟩
    rw [List.replicate_succ', List.map_append, decide_eq_true rfl]; rfl
  rintro q ys σ' H8 hq ⟨s8, _, rfl⟩ e8 _
  refine ⟨o, _, s8 _ _ upd_same, ?_⟩
  refine ⟨q, _, rfl, by rw [upd_ne (fun z => by rw [z, upd_same] at hq; cases hq)]; exact e8, ?_⟩
  rw [show (List.replicate (lk.map iV).length true).all id = true by simp]
  refine k _ fun b u e => ?_
  by_cases z : b = aly
  · subst z
    rw [upd_same]
    rw [hl] at e; exact e
  · rw [upd_ne z]
    exact s8 _ _ (by rw [upd_ne z]; exact s16 _ _ e)
end
end My

set_option Elab.async false
set_option linter.all false
set_option maxRecDepth 100000
set_option maxHeartbeats 4000000
namespace My
open PySem L2 MA
theorem seqJ {t u : TS} {D : Ends} {σ : St} {H : Hp} (C : St → Hp → Prop) (main : ∀ R : St → Hp → Prop, (∀ σ' h, C σ' h → R σ' h) → t { D with nx := R } σ H) (key : ∀ σ' h, C σ' h → u D σ' h) : tSeq t u D σ H := main _ key
theorem dataL_at {H : Hp} : ∀ {xs : List V} {ds : List PyData} {i : Nat}, DataL H xs ds → i < xs.length → ∃ v d, xs[i]? = some v ∧ DataV H v d
  | _, _, 0, .cons h _, _ => ⟨_, _, rfl, h⟩
  | _, _, i + 1, .cons _ t, hi => by
    obtain ⟨v, d, h1, h2⟩ := dataL_at (i := i) t (by simpa using hi)
    exact ⟨v, d, by simpa using h1, h2⟩
section
variable {P : Program} {w : World} {K : PySem.W.Frag} {mg : Str → Option Value} {base : Heap}
noncomputable def spBall : Sp := fun vs H Q _ => ∃ (p wd ly pa : Addr) (n : Nat) (kn : Int) (lk : List (Int × Int)) (m : Nat), vs = [.ref p, .ref wd] ∧ Pen H p m ∧ m < 90000 ∧ wd ≠ p ∧ ly ≠ p ∧ H wd = some (.dK (wL n ly kn pa)) ∧ H ly = some (.dK (lkV lk)) ∧ lk.length ≤ 60 ∧ 0 ≤ kn ∧ kn ≤ 10000 ∧
  ∀ (v : V) (dd : PyData) (H' : Hp), DataV H' v dd → Pen H' p (m + 3) → SameX p H H' → Q v H'
theorem ok_ball (T : Txt2 mg) (C_l_draw : Cal P w K mg base "_law_draw" ["_law_pen_here", "_law_many"] 1 spDraw) (F : FunAt K mg "_law_ball" ["_law_pen_here", "_law_world"] s_l_ball) : Cal P w K mg base "_law_ball" ["_law_pen_here", "_law_world"] 2 spBall := by
  have S := sc_l_ball
  refine F.cal sc_l_ball (fun vs H Q E h => ?_) (fun f cdv A outer s H vs Q E hr h => ?_)
  · obtain ⟨p, wd, ly, pa, n, kn, lk, m, rfl, _⟩ := h; rfl
  obtain ⟨p, wd, ly, pa, n, kn, lk, m, rfl, pen, hm, nw, nl, hw, hl, l60, k0, k1, k⟩ := h
  have hu := hu_of hr
  have hu0 := hr.units0
  refine ⟨_, (@pss_cons _ _ _ _ _ (@ps_set _ _ (2) _ _ _ _ (by exact S.nd) (by rfl) (by first | exact Or.inl rfl | exact Or.inr rfl) (@cc _ _ _ _ _ _ _ _ _ _ (by exact C_l_draw) (by exact (hr.mono (by decide))) (@pa_consN _ _ _ _ _ (pv 0) (@pa_consN _ _ _ _ _ pe_int pa_nil (by first|rfl|decide|exact .inl rfl|exact .inr rfl|(intros; rfl))) (by first|rfl|decide|exact .inl rfl|exact .inr rfl|(intros; rfl))) (by first|rfl|decide|exact .inl rfl|exact .inr rfl|(intros; rfl)) (by first|rfl|decide|exact .inl rfl|exact .inr rfl|(intros; rfl)) (by first|rfl|decide|exact .inl rfl|exact .inr rfl|(intros; rfl)) (by first|rfl|decide|exact .inl rfl|exact .inr rfl|(intros; rfl))) (by first|rfl|decide|exact .inl rfl|exact .inr rfl|(intros; rfl)) (by first|rfl|decide|exact .inl rfl|exact .inr rfl|(intros; rfl))) (@pss_cons _ _ _ _ _ (@ps_set _ _ (3) _ _ _ _ (by exact S.nd) (by rfl) (by first | exact Or.inl rfl | exact Or.inr rfl) (@cc _ _ _ _ _ _ _ _ _ _ (by exact C_l_draw) (by exact (hr.mono (by decide))) (@pa_consN _ _ _ _ _ (pv 0) (@pa_consN _ _ _ _ _ pe_int pa_nil (by first|rfl|decide|exact .inl rfl|exact .inr rfl|(intros; rfl))) (by first|rfl|decide|exact .inl rfl|exact .inr rfl|(intros; rfl))) (by first|rfl|decide|exact .inl rfl|exact .inr rfl|(intros; rfl)) (by first|rfl|decide|exact .inl rfl|exact .inr rfl|(intros; rfl)) (by first|rfl|decide|exact .inl rfl|exact .inr rfl|(intros; rfl)) (by first|rfl|decide|exact .inl rfl|exact .inr rfl|(intros; rfl))) (by first|rfl|decide|exact .inl rfl|exact .inr rfl|(intros; rfl)) (by first|rfl|decide|exact .inl rfl|exact .inr rfl|(intros; rfl))) (@pss_cons _ _ _ _ _ (@ps_set _ _ (4) _ _ _ _ (by exact S.nd) (by rfl) (by first | exact Or.inl rfl | exact Or.inr rfl) (@pe_callB _ _ _ _ _ _ _ _ _ call_sorted0 (by rfl) (by exact T.z_sorted) (by exact bt_sorted) (@pa_consN _ _ _ _ _ (@pe_callTy _ _ _ _ _ _ _ _ _ (call_listI (by rfl)) (by rfl) (by exact T.z_list) (by exact bt_list) (@pa_consN _ _ _ _ _ (@pe_dget _ _ _ _ _ _ (by exact hu) (pv 1) pe_str (by exact (fun _ _ => rfl))) pa_nil (by first|rfl|decide|exact .inl rfl|exact .inr rfl|(intros; rfl))) (by first|rfl|decide|exact .inl rfl|exact .inr rfl|(intros; rfl)) (by first|rfl|decide|exact .inl rfl|exact .inr rfl|(intros; rfl)) (by first|rfl|decide|exact .inl rfl|exact .inr rfl|(intros; rfl)) (by first|rfl|decide|exact .inl rfl|exact .inr rfl|(intros; rfl))) pa_nil (by first|rfl|decide|exact .inl rfl|exact .inr rfl|(intros; rfl))) (by first|rfl|decide|exact .inl rfl|exact .inr rfl|(intros; rfl)) (by first|rfl|decide|exact .inl rfl|exact .inr rfl|(intros; rfl)) (by first|rfl|decide|exact .inl rfl|exact .inr rfl|(intros; rfl)) (by first|rfl|decide|exact .inl rfl|exact .inr rfl|(intros; rfl))) (by first|rfl|decide|exact .inl rfl|exact .inr rfl|(intros; rfl)) (by first|rfl|decide|exact .inl rfl|exact .inr rfl|(intros; rfl))) (@pss_cons _ _ _ _ _ (@ps_if _ _ _ _ _ _ _ _ (@PW.pt _ _ _ (@pw_and _ _ _ _ _ _ _ (@pt_cmpR _ _ _ _ _ _ _ _ op_lt (pv 2) pe_int (by exact (nomark _))) (@pw_and1 _ _ _ _ (@pt_cmpR _ _ _ _ _ _ _ _ (op_neE hu0) (pv 4) (@pe_lst _ _ _ _ pa_nil) (by exact (nomark _)))))) (@pss_one _ _ _ (@ps_ret _ _ _ _ (@pe_ix _ _ _ _ _ _ _ ix_list (pv 4) (@cc _ _ _ _ _ _ _ _ _ _ (by exact C_l_draw) (by exact (hr.mono (by decide))) (@pa_consN _ _ _ _ _ (pv 0) (@pa_consN _ _ _ _ _ (@pe_callB _ _ _ _ _ _ _ _ _ call_len_seq (by rfl) (by exact T.z_len) (by exact bt_len) (@pa_consN _ _ _ _ _ (pv 4) pa_nil (by first|rfl|decide|exact .inl rfl|exact .inr rfl|(intros; rfl))) (by first|rfl|decide|exact .inl rfl|exact .inr rfl|(intros; rfl)) (by first|rfl|decide|exact .inl rfl|exact .inr rfl|(intros; rfl)) (by first|rfl|decide|exact .inl rfl|exact .inr rfl|(intros; rfl)) (by first|rfl|decide|exact .inl rfl|exact .inr rfl|(intros; rfl))) pa_nil (by first|rfl|decide|exact .inl rfl|exact .inr rfl|(intros; rfl))) (by first|rfl|decide|exact .inl rfl|exact .inr rfl|(intros; rfl))) (by first|rfl|decide|exact .inl rfl|exact .inr rfl|(intros; rfl)) (by first|rfl|decide|exact .inl rfl|exact .inr rfl|(intros; rfl)) (by first|rfl|decide|exact .inl rfl|exact .inr rfl|(intros; rfl)) (by first|rfl|decide|exact .inl rfl|exact .inr rfl|(intros; rfl))) (by exact (fun _ _ => rfl))))) pss_nil) (@pss_cons _ _ _ _ _ (@ps_if _ _ _ _ _ _ _ _ (@pt_cmpR _ _ _ _ _ _ _ _ op_eq (pv 2) pe_int (by exact (nomark _))) (@pss_one _ _ _ (@ps_ret _ _ _ _ (@cc _ _ _ _ _ _ _ _ _ _ (by exact C_l_draw) (by exact (hr.mono (by decide))) (@pa_consN _ _ _ _ _ (pv 0) (@pa_consN _ _ _ _ _ (@pe_op _ _ _ _ _ _ _ _ op_add (@pe_dget _ _ _ _ _ _ (by exact hu) (pv 1) pe_str (by exact (fun _ _ => rfl))) pe_int) pa_nil (by first|rfl|decide|exact .inl rfl|exact .inr rfl|(intros; rfl))) (by first|rfl|decide|exact .inl rfl|exact .inr rfl|(intros; rfl))) (by first|rfl|decide|exact .inl rfl|exact .inr rfl|(intros; rfl)) (by first|rfl|decide|exact .inl rfl|exact .inr rfl|(intros; rfl)) (by first|rfl|decide|exact .inl rfl|exact .inr rfl|(intros; rfl)) (by first|rfl|decide|exact .inl rfl|exact .inr rfl|(intros; rfl))))) pss_nil) (@pss_one _ _ _ (@ps_ret _ _ _ _ (@pe_ix _ _ _ _ _ _ _ ix_list (@pe_lst _ _ _ _ (@pa_consN _ _ _ _ _ pe_non (@pa_consN _ _ _ _ _ pe_bl (@pa_consN _ _ _ _ _ pe_bl (@pa_consN _ _ _ _ _ pe_str (@pa_consN _ _ _ _ _ (@pe_lst _ _ _ _ pa_nil) (@pa_consN _ _ _ _ _ (@pe_tup _ _ _ _ _ (@pa_consN _ _ _ _ _ pe_int pa_nil (by first|rfl|decide|exact .inl rfl|exact .inr rfl|(intros; rfl)))) (@pa_consN _ _ _ _ _ pe_dnewK (@pa_consN _ _ _ _ _ (@pe_un _ _ _ _ _ _ un_neg pe_int) (@pa_consN _ _ _ _ _ (@pe_op _ _ _ _ _ _ _ _ op_pow pe_int pe_int) (@pa_consN _ _ _ _ _ (@pe_dget _ _ _ _ _ _ (by exact hu) (pv 1) pe_str (by exact (fun _ _ => rfl))) (@pa_consN _ _ _ _ _ (@pe_lst _ _ _ _ (@pa_consN _ _ _ _ _ pe_int pa_nil (by first|rfl|decide|exact .inl rfl|exact .inr rfl|(intros; rfl)))) (@pa_consN _ _ _ _ _ pe_str pa_nil (by first|rfl|decide|exact .inl rfl|exact .inr rfl|(intros; rfl))) (by first|rfl|decide|exact .inl rfl|exact .inr rfl|(intros; rfl))) (by first|rfl|decide|exact .inl rfl|exact .inr rfl|(intros; rfl))) (by first|rfl|decide|exact .inl rfl|exact .inr rfl|(intros; rfl))) (by first|rfl|decide|exact .inl rfl|exact .inr rfl|(intros; rfl))) (by first|rfl|decide|exact .inl rfl|exact .inr rfl|(intros; rfl))) (by first|rfl|decide|exact .inl rfl|exact .inr rfl|(intros; rfl))) (by first|rfl|decide|exact .inl rfl|exact .inr rfl|(intros; rfl))) (by first|rfl|decide|exact .inl rfl|exact .inr rfl|(intros; rfl))) (by first|rfl|decide|exact .inl rfl|exact .inr rfl|(intros; rfl))) (by first|rfl|decide|exact .inl rfl|exact .inr rfl|(intros; rfl))) (by first|rfl|decide|exact .inl rfl|exact .inr rfl|(intros; rfl)))) (pv 3) (by exact (fun _ _ => rfl)))))))))), ?_⟩
  refine ⟨_, rfl, p, 6, m, rfl, pen, by omega, by decide, by decide, fun r1 H1 r10 r11 p1 x1 => ?_⟩
  refine ⟨_, rfl, p, 12, m + 1, rfl, p1, by omega, by decide, by decide, fun r2 H2 r20 r21 p2 x2 => ?_⟩
  have x12 := x1.trans x2
  have hw2 := x12.all _ _ hw nw
  have hl2 := x12.all _ _ hl nl
  refine ⟨_, rfl, wd, _, rfl, get_lying hw2, ly, lk.map iV, rfl, .inl hl2, fun q3 hq3 => ?_⟩
  have s3 := same_new hq3 (.lst (iv ((lk.map iV).map (·.1))))
  have f3 : (upd H2 q3 (.lst (iv ((lk.map iV).map (·.1))))) q3 = some (.lst (iv ((lk.map iV).map (·.1)))) := upd_same
  generalize upd H2 q3 (.lst (iv ((lk.map iV).map (·.1)))) = H3 at s3 f3
  refine ⟨q3, _, rfl, f3, by simp; omega, fun q4 ms hq4 pm od => ?_⟩
  have s4 := same_new hq4 (.lst (iv ms))
  have f4 : (upd H3 q4 (.lst (iv ms))) q4 = some (.lst (iv ms)) := upd_same
  generalize upd H3 q4 (.lst (iv ms)) = H4 at s4 f4
  have ml : ms.length ≤ 60 := by rw [pm.length_eq]; simpa using l60
  have x4 := x12.trans (s3.trans s4).x
  have p4 := p2.same (s3.trans s4)
  have hw4 := (s3.trans s4) _ _ hw2
  dsimp only
  refine seqJ (fun σ' h => σ' = [some (.ref p), some (.ref wd), some (.int r1), some (.int r2), some (.ref q4)] ∧ Same H4 h) ?_ ?_
  · intro R key
    refine ⟨_, rfl, _, _, rfl, rfl, _, rfl, ?_⟩
    refine ite2 (fun c => ?_) (fun c => ?_)
    · refine ⟨_, rfl, lz 0 rfl, fun q5 hq5 => ?_⟩
      have s5 := same_new hq5 (.lst [])
      refine ⟨q4, q5, _, rfl, rfl, s5 _ _ f4, upd_same, _, rfl, ?_⟩
      refine ite2 (fun c2 => ?_) (fun c2 => key _ _ ⟨rfl, s5⟩)
      have mne : iv ms ≠ [] := of_decide_eq_true c2
      have mp : 0 < ms.length := List.length_pos_iff.mpr (fun z => mne (by rw [z]; rfl))
      refine ⟨_, rfl, _, rfl, _, rfl, q4, _, rfl, .inl (SqL.of (s5 _ _ f4)), p, ((iv ms).length : Nat), m + 2, rfl, p4.same s5, by omega, by simp; omega, by simp; omega, fun r6 H6 r60 r61 p6 x6 => ?_⟩
      have r61' : r6 < (ms.length : Int) := by simpa using r61
      have f6 := (p4.same s5).keep x6 (s5 _ _ f4)
      refine ⟨q4, _, _, _, rfl, rfl, SqL.of f6, atI_at r60 (by omega), k _ _ H6 (.int _) p6 (x4.trans (s5.x.trans x6))⟩
    · exact key _ _ ⟨rfl, Same.refl _⟩
  · rintro σ' H5 ⟨rfl, s5⟩
    have p5 := p4.same s5
    have hw5 := s5 _ _ hw4
    have x5 := x4.trans s5.x
    refine ⟨_, rfl, rfl, _, rfl, ite2 (fun c => ?_) (fun c => ?_)⟩
    · refine ⟨_, rfl, _, rfl, wd, _, rfl, get_known hw5, _, _, rfl, rfl, p, kn + 2, m + 2, rfl, p5, by omega, by omega, by omega, fun r6 H6 r60 r61 p6 x6 => k _ _ H6 (.int _) p6 (x5.trans x6)⟩
    · refine ⟨lz 0 rfl, fun a1 h1 => ⟨lz 1 rfl, fun a2 h2 a3 h3 => ⟨_, rfl, _, _, rfl, rfl, ⟨by decide, by decide, by decide⟩, _, rfl, wd, .int kn, rfl, ?_⟩⟩⟩
      have e1 : (upd H5 a1 (.lst [])) a1 = some (.lst []) := upd_same
      have t1 := same_new h1 (.lst [])
      generalize upd H5 a1 (.lst []) = H6 at e1 t1 h2 h3
      have e2 : (upd H6 a2 (.tup [.int 0])) a2 = some (.tup [.int 0]) := upd_same
      have t2 := same_new h2 (.tup [.int 0])
      generalize upd H6 a2 (.tup [.int 0]) = H7 at e2 t2 h3
      have e3 : (upd H7 a3 (.dK [])) a3 = some (.dK []) := upd_same
      have t3 := same_new h3 (.dK [])
      generalize upd H7 a3 (.dK []) = H8 at e3 t3
      refine ⟨get_known (t3 _ _ (t2 _ _ (t1 _ _ hw5))), lz 1 rfl, fun a4 h4 => ⟨lz 12 rfl, fun a5 h5 => ?_⟩⟩
      have e4 : (upd H8 a4 (.lst [.int 0])) a4 = some (.lst [.int 0]) := upd_same
      have t4 := same_new h4 (.lst [.int 0])
      generalize upd H8 a4 (.lst [.int 0]) = H9 at e4 t4 h5
      have s9 := ((t1.trans t2).trans t3).trans t4
      generalize hxs : [V.non, V.bl true, V.bl false, V.str (Str.ofString "0"), V.ref a1, V.ref a2, V.ref a3, V.int (-1), V.int (10 ^ (11 : Int).toNat), V.int kn, V.ref a4, V.str (Str.ofString "")] = xs
      have t5 := same_new h5 (.lst xs)
      have e5 : (upd H9 a5 (.lst xs)) a5 = some (.lst xs) := upd_same
      generalize upd H9 a5 (.lst xs) = H10 at e5 t5
      have D : ∃ ds, DataL H10 xs ds := by
        rw [← hxs]
        exact ⟨_, .cons .non (.cons (.bl _) (.cons (.bl _) (.cons (.str _) (.cons (.lst (t5 _ _ (t4 _ _ (t3 _ _ (t2 _ _ e1)))) .nil) (.cons (.tup (t5 _ _ (t4 _ _ (t3 _ _ e2))) (.cons (.int _) .nil)) (.cons (.dict (ps := []) (t5 _ _ (t4 _ _ e3)) .nil .nil) (.cons (.int _) (.cons (.int _) (.cons (.int _) (.cons (.lst (t5 _ _ e4) (.cons (.int _) .nil)) (.cons (.str _) .nil)))))))))))⟩
      obtain ⟨ds, D⟩ := D
      have hx12 : xs.length = 12 := by rw [← hxs]; rfl
      obtain ⟨j, rfl⟩ : ∃ j : Nat, r2 = (j : Int) := ⟨r2.toNat, by omega⟩
      obtain ⟨v, dd, hv, hd⟩ := dataL_at (i := j) D (by omega)
      exact ⟨_, rfl, a5, xs, _, v, rfl, rfl, SqL.of e5, atI_nat hv, k v dd H10 hd ((p5.same (s9.trans t5)).mono (by omega)) (x5.trans (s9.trans t5).x)⟩
end
end My

set_option Elab.async false
set_option linter.all false
set_option maxRecDepth 100000
set_option maxHeartbeats 4000000
namespace My
open PySem L2 MA
structure Tabs (D0 D1 D2 D3 : Addr) (H : Hp) : Prop where
  t0 : H D0 = some (.tab (qLam "emptiest_of"))
  t1 : H D1 = some (.tab (qLam "_law_put_right"))
  t2 : H D2 = some (.tab (qLam "_law_leave_right"))
  t3 : H D3 = some (.tab (qLam "_law_back_right"))
theorem Tabs.keep {D0 D1 D2 D3 : Addr} {H H' : Hp} (t : Tabs D0 D1 D2 D3 H) (h : ∀ b z, H b = some (.tab z) → H' b = some (.tab z)) : Tabs D0 D1 D2 D3 H' := ⟨h _ _ t.t0, h _ _ t.t1, h _ _ t.t2, h _ _ t.t3⟩
theorem sx_off {p : Addr} {L : List Addr} {H H' : Hp} (s : SameX p H H') : Off (p :: L) H H' := fun b o e hb => s.all b o e fun z => hb (by rw [z]; exact List.mem_cons_self)
theorem Off.cons {p : Addr} {L : List Addr} {H H' : Hp} (s : Off L H H') : Off (p :: L) H H' := s.mono fun _ hb => List.mem_cons_of_mem _ hb
section
variable {P : Program} {w : World} {K : PySem.W.Frag} {mg : Str → Option Value} {base : Heap}
noncomputable def spDR (C D0 D1 D2 D3 : Addr) : Sp := fun vs H Q _ => ∃ (p : Addr) (L : List Addr) (a : Ad) (n : Nat) (x : Sx) (m : Nat), vs = [.ref p, .ref a.p, .ref a.wd] ∧ RW C n H a x ∧ 1 ≤ n ∧ n ≤ 6 ∧ PenW L H p m ∧ (∀ b ∈ a.all, b ∈ L) ∧ m < 60000 ∧ Tabs D0 D1 D2 D3 H ∧ x.ds.length ≤ 400 ∧ 0 ≤ x.nb ∧ x.nb ≤ 1000 ∧
  ∀ (y : Sx) (H' : Hp), RW C n H' a y → PenW L H' p (m + 8) → Off (p :: a.all) H H' → y.ds.length ≤ x.ds.length + 1 → x.nb ≤ y.nb → y.nb ≤ x.nb + 1 → Q (.bl true) H'
theorem ok_dr {C D0 D1 D2 D3 : Addr} (T : Txt2 mg) (C_l_draw : Cal P w K mg base "_law_draw" ["_law_pen_here", "_law_many"] 1 spDraw) (C_l_ball : Cal P w K mg base "_law_ball" ["_law_pen_here", "_law_world"] 2 spBall)
    (C_l_put_right : Cal P w K mg base "_law_put_right" ["_law_room", "_law_world", "_law_draw_here"] 8 (spPR C D0 D1 (qLam "emptiest_of") (qLam "_law_put_right"))) (C_l_leave_right : Cal P w K mg base "_law_leave_right" ["_law_room", "_law_world", "_law_ball_here"] 8 (spLR C D2 (qLam "_law_leave_right"))) (C_l_back_right : Cal P w K mg base "_law_back_right" ["_law_room", "_law_world"] 8 (spBR C D3 (qLam "_law_back_right")))
    (F : FunAt K mg "_law_deed_right" ["_law_pen_here", "_law_room", "_law_world"] s_l_deed_right) : Cal P w K mg base "_law_deed_right" ["_law_pen_here", "_law_room", "_law_world"] 9 (spDR C D0 D1 D2 D3) := by
  have S := sc_l_deed_right
  refine F.cal sc_l_deed_right (fun vs H Q E h => ?_) (fun f cdv A outer s H vs Q E hr h => ?_)
  · obtain ⟨p, L, a, n, x, m, rfl, _⟩ := h; rfl
  obtain ⟨p, L, a, n, x, m, rfl, RWx, n1, n6, pw, sub, hm, tb, dl, nb0, nb1, k⟩ := h
  have hu := hu_of hr
  refine ⟨_, (@pss_cons _ _ _ _ _ (@ps_set _ _ (3) _ _ _ _ (by exact S.nd) (by rfl) (by first | exact Or.inl rfl | exact Or.inr rfl) (@cc _ _ _ _ _ _ _ _ _ _ (by exact C_l_draw) (by exact (hr.mono (by decide))) (@pa_consN _ _ _ _ _ (pv 0) (@pa_consN _ _ _ _ _ pe_int pa_nil (by first|rfl|decide|exact .inl rfl|exact .inr rfl|(intros; rfl))) (by first|rfl|decide|exact .inl rfl|exact .inr rfl|(intros; rfl))) (by first|rfl|decide|exact .inl rfl|exact .inr rfl|(intros; rfl)) (by first|rfl|decide|exact .inl rfl|exact .inr rfl|(intros; rfl)) (by first|rfl|decide|exact .inl rfl|exact .inr rfl|(intros; rfl)) (by first|rfl|decide|exact .inl rfl|exact .inr rfl|(intros; rfl))) (by first|rfl|decide|exact .inl rfl|exact .inr rfl|(intros; rfl)) (by first|rfl|decide|exact .inl rfl|exact .inr rfl|(intros; rfl))) (@pss_cons _ _ _ _ _ (@ps_set _ _ (4) _ _ _ _ (by exact S.nd) (by rfl) (by first | exact Or.inl rfl | exact Or.inr rfl) (@pe_op _ _ _ _ _ _ _ _ op_add pe_int (@cc _ _ _ _ _ _ _ _ _ _ (by exact C_l_draw) (by exact (hr.mono (by decide))) (@pa_consN _ _ _ _ _ (pv 0) (@pa_consN _ _ _ _ _ pe_int pa_nil (by first|rfl|decide|exact .inl rfl|exact .inr rfl|(intros; rfl))) (by first|rfl|decide|exact .inl rfl|exact .inr rfl|(intros; rfl))) (by first|rfl|decide|exact .inl rfl|exact .inr rfl|(intros; rfl)) (by first|rfl|decide|exact .inl rfl|exact .inr rfl|(intros; rfl)) (by first|rfl|decide|exact .inl rfl|exact .inr rfl|(intros; rfl)) (by first|rfl|decide|exact .inl rfl|exact .inr rfl|(intros; rfl)))) (by first|rfl|decide|exact .inl rfl|exact .inr rfl|(intros; rfl)) (by first|rfl|decide|exact .inl rfl|exact .inr rfl|(intros; rfl))) (@pss_cons _ _ _ _ _ (@ps_if _ _ _ _ _ _ _ _ (@pt_cmpR _ _ _ _ _ _ _ _ op_lt (pv 3) pe_int (by exact (nomark _))) (@pss_one _ _ _ (@ps_ret _ _ _ _ (@cc _ _ _ _ _ _ _ _ _ _ (by exact C_l_put_right) (by exact (hr.mono (by decide))) (@pa_consN _ _ _ _ _ (pv 1) (@pa_consN _ _ _ _ _ (pv 2) (@pa_consN _ _ _ _ _ (@pe_callTy _ _ _ _ _ _ _ _ _ call_tuple_of (by rfl) (by exact T.z_tuple) (by exact bt_tuple) (@pa_consN _ _ _ _ _ (@pe_comp _ _ _ _ _ _ _ _ _ _ _ _ _ (by rfl) (by exact (fun _ _ h => h)) (by decide +kernel) (by rfl) (by decide +kernel) (by exact hfr_of rfl) (by exact Sees.frees ["_law_k"] [("_law_pen_here", 0), ("_law_world", 2)] (fr_cons ⟨rfl, rfl⟩ (fr_cons ⟨rfl, rfl⟩ fr_nil))) (@pi_range1 _ _ _ _ _ _ (by rfl) (by exact T.z_range) (@pa_consN _ _ _ _ _ (pv 4) pa_nil (by first|rfl|decide|exact .inl rfl|exact .inr rfl|(intros; rfl))) (by first|rfl|decide|exact .inl rfl|exact .inr rfl|(intros; rfl))) (fun _ _ _ _ _ => @pg_name _ _ (0) _ (by exact (show (["_law_k", "_law_pen_here", "_law_world"] : List Str).Nodup by decide +kernel)) (by rfl) (by first | exact Or.inl rfl | exact Or.inr rfl) (by first|rfl|decide|exact .inl rfl|exact .inr rfl|(intros; rfl))) (fun _ _ _ _ _ => pts_nil) (fun _ _ _ _ _ => (@cc _ _ _ _ _ _ _ _ _ _ (by exact C_l_draw) (by exact (hr.mono (by decide))) (@pa_consN _ _ _ _ _ (pv 1) (@pa_consN _ _ _ _ _ (@pe_dget _ _ _ _ _ _ (by exact hu) (pv 2) pe_str (by exact (fun _ _ => rfl))) pa_nil (by first|rfl|decide|exact .inl rfl|exact .inr rfl|(intros; rfl))) (by first|rfl|decide|exact .inl rfl|exact .inr rfl|(intros; rfl))) (by first|rfl|decide|exact .inl rfl|exact .inr rfl|(intros; rfl)) (by first|rfl|decide|exact .inl rfl|exact .inr rfl|(intros; rfl)) (by first|rfl|decide|exact .inl rfl|exact .inr rfl|(intros; rfl)) (by first|rfl|decide|exact .inl rfl|exact .inr rfl|(intros; rfl)))) (by first|rfl|decide|exact .inl rfl|exact .inr rfl|(intros; rfl))) pa_nil (by first|rfl|decide|exact .inl rfl|exact .inr rfl|(intros; rfl))) (by first|rfl|decide|exact .inl rfl|exact .inr rfl|(intros; rfl)) (by first|rfl|decide|exact .inl rfl|exact .inr rfl|(intros; rfl)) (by first|rfl|decide|exact .inl rfl|exact .inr rfl|(intros; rfl)) (by first|rfl|decide|exact .inl rfl|exact .inr rfl|(intros; rfl))) pa_nil (by first|rfl|decide|exact .inl rfl|exact .inr rfl|(intros; rfl))) (by first|rfl|decide|exact .inl rfl|exact .inr rfl|(intros; rfl))) (by first|rfl|decide|exact .inl rfl|exact .inr rfl|(intros; rfl))) (by first|rfl|decide|exact .inl rfl|exact .inr rfl|(intros; rfl)) (by first|rfl|decide|exact .inl rfl|exact .inr rfl|(intros; rfl)) (by first|rfl|decide|exact .inl rfl|exact .inr rfl|(intros; rfl)) (by first|rfl|decide|exact .inl rfl|exact .inr rfl|(intros; rfl))))) pss_nil) (@pss_cons _ _ _ _ _ (@ps_if _ _ _ _ _ _ _ _ (@pt_cmpR _ _ _ _ _ _ _ _ op_lt (pv 3) pe_int (by exact (nomark _))) (@pss_one _ _ _ (@ps_ret _ _ _ _ (@cc _ _ _ _ _ _ _ _ _ _ (by exact C_l_leave_right) (by exact (hr.mono (by decide))) (@pa_consN _ _ _ _ _ (pv 1) (@pa_consN _ _ _ _ _ (pv 2) (@pa_consN _ _ _ _ _ (@cc _ _ _ _ _ _ _ _ _ _ (by exact C_l_ball) (by exact (hr.mono (by decide))) (@pa_consN _ _ _ _ _ (pv 0) (@pa_consN _ _ _ _ _ (pv 2) pa_nil (by first|rfl|decide|exact .inl rfl|exact .inr rfl|(intros; rfl))) (by first|rfl|decide|exact .inl rfl|exact .inr rfl|(intros; rfl))) (by first|rfl|decide|exact .inl rfl|exact .inr rfl|(intros; rfl)) (by first|rfl|decide|exact .inl rfl|exact .inr rfl|(intros; rfl)) (by first|rfl|decide|exact .inl rfl|exact .inr rfl|(intros; rfl)) (by first|rfl|decide|exact .inl rfl|exact .inr rfl|(intros; rfl))) pa_nil (by first|rfl|decide|exact .inl rfl|exact .inr rfl|(intros; rfl))) (by first|rfl|decide|exact .inl rfl|exact .inr rfl|(intros; rfl))) (by first|rfl|decide|exact .inl rfl|exact .inr rfl|(intros; rfl))) (by first|rfl|decide|exact .inl rfl|exact .inr rfl|(intros; rfl)) (by first|rfl|decide|exact .inl rfl|exact .inr rfl|(intros; rfl)) (by first|rfl|decide|exact .inl rfl|exact .inr rfl|(intros; rfl)) (by first|rfl|decide|exact .inl rfl|exact .inr rfl|(intros; rfl))))) pss_nil) (@pss_one _ _ _ (@ps_ret _ _ _ _ (@cc _ _ _ _ _ _ _ _ _ _ (by exact C_l_back_right) (by exact (hr.mono (by decide))) (@pa_consN _ _ _ _ _ (pv 1) (@pa_consN _ _ _ _ _ (pv 2) pa_nil (by first|rfl|decide|exact .inl rfl|exact .inr rfl|(intros; rfl))) (by first|rfl|decide|exact .inl rfl|exact .inr rfl|(intros; rfl))) (by first|rfl|decide|exact .inl rfl|exact .inr rfl|(intros; rfl)) (by first|rfl|decide|exact .inl rfl|exact .inr rfl|(intros; rfl)) (by first|rfl|decide|exact .inl rfl|exact .inr rfl|(intros; rfl)) (by first|rfl|decide|exact .inl rfl|exact .inr rfl|(intros; rfl))))))))), ?_⟩
  have pen := pw.pen
  refine ⟨_, rfl, p, 8, m, rfl, pen, by omega, by decide, by decide, fun r1 H1 r10 r11 p1 x1 => ?_⟩
  refine ⟨_, rfl, p, 3, m + 1, rfl, p1, by omega, by decide, by decide, fun r2 H2 r20 r21 p2 x2 => ⟨_, _, rfl, rfl, ?_⟩⟩
  have x12 := x1.trans x2
  have pw2 := pw.draw x12 p2
  have RW2 := RWx.pen pw sub x12
  have tb2 : Tabs D0 D1 D2 D3 H2 := tb.keep fun b z e => pen.keep x12 e
  have o2 : Off (p :: a.all) H H2 := sx_off x12
  clear x1 x2 p1
  refine ⟨_, rfl, _, _, rfl, rfl, _, rfl, ite2 (fun c => ?_) (fun c => ?_)⟩
  · have nwp : a.wd ≠ p := fun z => pw.nl (z ▸ sub _ (by simp [Ad.all]))
    have hw2 := RW2.wd
    refine ⟨_, rfl, _, rfl, _, rfl, 1 + r2, rfl, by omega, by omega, comp_Y (yields_rng (lo := 0) (n := (1 + r2).toNat)) (fun q i ys σ' H' => SameX p H2 H' ∧ Pen H' p (m + 2 + i) ∧ (∃ o1, σ' = [o1, some (.ref p), some (.ref a.wd)]) ∧ ∃ dr : List Int, ys = iv dr ∧ dr.length = i ∧ ∀ b ∈ dr, 0 ≤ b ∧ b < n) (by omega) ?_ ?_ ?_ ?_⟩
    · intro q hq
      exact ⟨(same_new hq _).x, p2.same (same_new hq _), ⟨_, rfl⟩, [], rfl, rfl, fun b hb => by cases hb⟩
    · intros; trivial
    · rintro q i ys σ' H' v H'' hq hi hyl ⟨x', p', ⟨o1, rfl⟩, dr, rfl, dl', hd⟩ hp' ⟨rfl, rfl⟩ Q1 Q2 hQ1 hQ2
      refine gN_ ⟨_, rfl, _, rfl, a.wd, _, rfl, get_boxes (x'.all _ _ hw2 nwp), p, n, m + 2 + i, rfl, p', by omega, by omega, by omega, fun r H5 r0 r1 p5 x5 => ?_⟩
      have e5 : H5 q = some (.lst (iv dr)) := p'.keep x5 hp'
      obtain ⟨u1, u2⟩ := penX_upd hq p2 (x'.trans x5) p5 (.lst (iv dr ++ [.int r]))
      refine hQ1 _ _ _ e5 ⟨u2, u1, ⟨_, rfl⟩, dr ++ [r], by rw [iv_app]; rfl, by simp [dl'], fun b hb => ?_⟩
      rcases List.mem_append.mp hb with z | z
      · exact hd b z
      · rw [List.mem_singleton.mp z]; exact ⟨r0, r1⟩
    rintro q ys σ' H3 hq ⟨x3, p3, _, dr, rfl, dl3, hd⟩ e3 _
    refine ⟨q, _, rfl, .inl ⟨SqL.of e3, fun t ht => ?_⟩⟩
    have s4 := same_new ht (.tup (iv dr))
    have f4 : (upd H3 t (.tup (iv dr))) t = some (.tup (iv dr)) := upd_same
    generalize upd H3 t (.tup (iv dr)) = H4 at s4 f4
    have pw3 := pw2.draw x3 p3
    have RW4 := (RW2.pen pw2 sub x3).same s4
    have tb4 : Tabs D0 D1 D2 D3 H4 := tb2.keep fun b z e => s4 _ _ (p2.keep x3 e)
    refine ⟨a, n, x, t, dr, rfl, RW4, n1, n6, f4, fun z => by rw [z] at dl3; simp at dl3; omega, by omega, hd, by omega, tb4.t0, tb4.t1, fun y H' RW' o' dy ny1 ny2 => ?_⟩
    exact k y H' RW' (((pw3.same s4).off (o'.mono sub)).mono (by omega)) (((o2.trans (sx_off x3)).trans (Off.of s4)).trans o'.cons) dy ny1 ny2
  · refine ⟨_, rfl, _, _, rfl, rfl, _, rfl, ite2 (fun c2 => ?_) (fun c2 => ?_)⟩
    · obtain ⟨RI, hw, ⟨lk, hl, LY⟩, _⟩ := id RW2
      have szl := RW2.szl
      refine ⟨_, rfl, _, rfl, _, rfl, _, rfl, p, a.wd, a.ly, a.pa, n, x.nb, lk, m + 2, rfl, p2, by omega, fun z => pw.nl (z ▸ sub _ (by simp [Ad.all])), fun z => pw.nl (z ▸ sub _ (by simp [Ad.all])), hw, hl, by rw [LY.len]; omega, nb0, by omega, fun v dd H3 hv p3 x3 => ?_⟩
      have pw3 := pw2.draw x3 p3
      have RW3 := RW2.pen pw2 sub x3
      have tb3 : Tabs D0 D1 D2 D3 H3 := tb2.keep fun b z e => p2.keep x3 e
      refine ⟨a, n, x, v, dd, rfl, RW3, hv, by omega, tb3.t2, fun y H' RW' o' dy ny => ?_⟩
      exact k y H' RW' ((pw3.off (o'.mono sub)).mono (by omega)) ((o2.trans (sx_off x3)).trans o'.cons) dy (by rw [ny]; exact Int.le_refl _) (by rw [ny]; omega)
    · refine ⟨_, rfl, _, rfl, a, n, x, rfl, RW2, by omega, tb2.t3, fun y H' RW' o' dy ny => ?_⟩
      exact k y H' RW' ((pw2.off (o'.mono sub)).mono (by omega)) (o2.trans o'.cons) (by rw [dy, List.length_tail]; omega) (by rw [ny]; exact Int.le_refl _) (by rw [ny]; omega)
end
end My

set_option Elab.async false
set_option linter.all false
set_option maxRecDepth 100000
set_option maxHeartbeats 4000000
namespace My
open PySem L2 MA
theorem mk_read {C : Addr} {σ : St} {H : Hp} {Q : VK} {t : TA} {n : Nat} (n1 : 1 ≤ n) (n6 : n ≤ 6) (ht : ∀ Q' : List V → Hp → Prop, Q' [.int (n : Int)] H → t σ H Q')
    (k : ∀ (p l d q : Addr) (H1 : Hp), Same H H1 → H p = none → H l = none → H d = none → H q = none → RoomAt C H1 p l d q (List.replicate n 0) [] 0 [] → Q (.ref p) H1) : tMake C (spInit C) [] E0 t σ H Q := by
  refine ht _ fun p dx np ndx nxd => ?_
  refine ⟨p, dx, n, rfl, upd_same, by omega, by omega, fun l d q H1 nl0 nd0 nq0 RA kp => ⟨rfl, ?_⟩⟩
  have s0 : Same H (upd (upd H dx (.own p)) p (.ins C dx [])) := fun b o e => by
    rw [upd_ne (ne_of_none e np), upd_ne (ne_of_none e ndx)]
    exact e
  exact k p l d q H1 (fun b o e => kp b o (s0 b o e) (ne_of_none e np)) np (s0.free nl0) (s0.free nd0) (s0.free nq0) RA
theorem RW.mk0 {C : Addr} {n : Nat} {H : Hp} {p l d q wd ly pa : Addr} (RA : RoomAt C H p l d q (List.replicate n 0) [] 0 []) (hw : H wd = some (.dK (wL n ly 0 pa))) (hl : H ly = some (.dK [])) (hp : H pa = some (.lst [])) (dw : d ≠ wd) (dy : d ≠ ly) (lp : l ≠ pa) (qp : q ≠ pa) :
    RW C n H ⟨p, l, d, q, wd, ly, pa⟩ ⟨[], List.replicate n 0, fun _ => none, 0, 0⟩ := by
  obtain ⟨⟨dx, e1⟩, e2, e3, e4, lq⟩ := id RA
  refine ⟨⟨⟨[], [], RA, .nil, rfl, List.nodup_nil, fun b => rfl⟩, .nil, fun x hx => by cases hx⟩, hw, ⟨[], hl, rfl, List.nodup_nil, fun b => rfl, fun i hi => ?_⟩, ⟨[], hp, .nil⟩, fun k ns' pl' sz' h => ?_, ?_⟩
  · show (List.replicate n (0 : Int)).getD i 0 = _
    simp [cntF, hi]
  · rw [show ([] : List Deed).drop k = [] by simp] at h
    cases h; omega
  · have wy : wd ≠ ly := ne_of hw hl (by intro z; cases z)
    simp only [Ad.all, List.nodup_cons, List.mem_cons, List.not_mem_nil, or_false, not_or, List.nodup_nil, and_true, not_false_eq_true]
    exact ⟨⟨ne_of e1 e2 (by intro z; cases z), ne_of e1 e3 (by intro z; cases z), ne_of e1 e4 (by intro z; cases z), ne_of e1 hw (by intro z; cases z), ne_of e1 hl (by intro z; cases z), ne_of e1 hp (by intro z; cases z)⟩, ⟨ne_of e2 e3 (by intro z; cases z), lq, ne_of e2 hw (by intro z; cases z), ne_of e2 hl (by intro z; cases z), lp⟩, ⟨ne_of e3 e4 (by intro z; cases z), dw, dy, ne_of e3 hp (by intro z; cases z)⟩, ⟨ne_of e4 hw (by intro z; cases z), ne_of e4 hl (by intro z; cases z), qp⟩, ⟨wy, ne_of hw hp (by intro z; cases z)⟩, ne_of hl hp (by intro z; cases z)⟩
theorem disp_read {σ : St} {H : Hp} {Q : VK} {tb : TE} {n : Nat} (hb : ∀ (H1 : Hp) (Q' : VK), Q' (.int (n : Int)) H1 → tb σ H1 Q')
    (k : ∀ (wd ly pa : Addr) (H' : Hp), Same H H' → H wd = none → H ly = none → H pa = none → H' wd = some (.dK (wL n ly 0 pa)) → H' ly = some (.dK []) → H' pa = some (.lst []) → Q (.ref wd) H') : tDisp [(tC (.str "boxes"), tb), (tC (.str "lying"), tDNewK), (tC (.str "known"), tC (.int 0)), (tC (.str "past"), tLst tNil)] σ H Q := by
  intro wd hwd
  refine hb _ _ fun ly hly => ⟨lz 0 rfl, fun pa hpa => ?_⟩
  have nwl : wd ≠ ly := fun z => by rw [← z, upd_same] at hly; cases hly
  have hly0 : H ly = none := by rw [upd_ne (Ne.symm nwl)] at hly; exact hly
  have nlp : ly ≠ pa := fun z => by rw [← z, upd_same] at hpa; cases hpa
  have nwp : wd ≠ pa := fun z => by rw [← z, upd_ne nwl, upd_same] at hpa; cases hpa
  have hpa0 : H pa = none := by rw [upd_ne (Ne.symm nlp), upd_ne (Ne.symm nwp)] at hpa; exact hpa
  refine ⟨?_, [(.inr "boxes", .int n), (.inr "lying", .ref ly), (.inr "known", .int 0), (.inr "past", .ref pa)], rfl, by show 4 ≤ 15; decide, ?_⟩
  · rw [upd_ne nwp, upd_ne nwl, upd_same]
  · refine k wd ly pa _ (fun b o e => ?_) hwd hly0 hpa0 upd_same ?_ ?_
    · rw [upd_ne (ne_of_none e hwd), upd_ne (ne_of_none e hpa0), upd_ne (ne_of_none e hly0), upd_ne (ne_of_none e hwd)]; exact e
    · rw [upd_ne (Ne.symm nwl), upd_ne nlp, upd_same]
    · rw [upd_ne (Ne.symm nwp), upd_same]
theorem mk_both {C : Addr} {n : Nat} {H H1 H' : Hp} {p l d q wd ly pa : Addr} (s1 : Same H H1) (np : H p = none) (nl : H l = none) (nd : H d = none) (nq : H q = none) (RA : RoomAt C H1 p l d q (List.replicate n 0) [] 0 []) (s2 : Same H1 H') (nw : H1 wd = none) (ny : H1 ly = none) (npa : H1 pa = none) (hw : H' wd = some (.dK (wL n ly 0 pa))) (hl : H' ly = some (.dK [])) (hp : H' pa = some (.lst [])) :
    RW C n H' ⟨p, l, d, q, wd, ly, pa⟩ ⟨[], List.replicate n 0, fun _ => none, 0, 0⟩ ∧ ∀ b o, H b = some o → b ∉ Ad.all ⟨p, l, d, q, wd, ly, pa⟩ := by
  obtain ⟨⟨dx, e1⟩, e2, e3, e4, lq⟩ := id RA
  have RA' : RoomAt C H' p l d q (List.replicate n 0) [] 0 [] := ⟨⟨dx, s2 _ _ e1⟩, s2 _ _ e2, s2 _ _ e3, s2 _ _ e4, lq⟩
  refine ⟨RW.mk0 RA' hw hl hp (ne_of_none e3 nw) (ne_of_none e3 ny) (ne_of_none e2 npa) (ne_of_none e4 npa), fun b o e => ?_⟩
  simp only [Ad.all, List.mem_cons, List.not_mem_nil, or_false, not_or]
  have e' := s1 _ _ e
  exact ⟨ne_of_none e np, ne_of_none e nl, ne_of_none e nd, ne_of_none e nq, ne_of_none e' nw, ne_of_none e' ny, ne_of_none e' npa⟩
/-- room, world, pen and tables -/
structure Al (C : Addr) (n : Nat) (D0 D1 D2 D3 : Addr) (H : Hp) (a : Ad) (p : Addr) (m : Nat) (y : Sx) : Prop where
  rw : RW C n H a y
  pw : PenW a.all H p m
  tb : Tabs D0 D1 D2 D3 H
theorem Al.same {C : Addr} {n : Nat} {D0 D1 D2 D3 : Addr} {H H' : Hp} {a : Ad} {p : Addr} {m : Nat} {y : Sx} (A : Al C n D0 D1 D2 D3 H a p m y) (s : Same H H') : Al C n D0 D1 D2 D3 H' a p m y := ⟨A.rw.same s, A.pw.same s, A.tb.keep fun b z e => s _ _ e⟩
theorem Al.draw {C : Addr} {n : Nat} {D0 D1 D2 D3 : Addr} {H H' : Hp} {a : Ad} {p : Addr} {m m' : Nat} {y : Sx} (A : Al C n D0 D1 D2 D3 H a p m y) (x : SameX p H H') (q : Pen H' p m') : Al C n D0 D1 D2 D3 H' a p m' y := ⟨A.rw.pen A.pw (fun _ h => h) x, A.pw.draw x q, A.tb.keep fun b z e => A.pw.pen.keep x e⟩
theorem Al.off {C : Addr} {n : Nat} {D0 D1 D2 D3 : Addr} {H H' : Hp} {a : Ad} {p : Addr} {m : Nat} {y y' : Sx} (A : Al C n D0 D1 D2 D3 H a p m y) (o : Off a.all H H') (R' : RW C n H' a y') : Al C n D0 D1 D2 D3 H' a p m y' := ⟨R', A.pw.off o, A.tb.keep fun b z e => A.rw.tab o e⟩
theorem Al.mono {C : Addr} {n : Nat} {D0 D1 D2 D3 : Addr} {H : Hp} {a : Ad} {p : Addr} {m m' : Nat} {y : Sx} (A : Al C n D0 D1 D2 D3 H a p m y) (h : m ≤ m') : Al C n D0 D1 D2 D3 H a p m' y := ⟨A.rw, A.pw.mono h, A.tb⟩
theorem Al.put {C : Addr} {n : Nat} {D0 D1 D2 D3 : Addr} {H : Hp} {a : Ad} {p : Addr} {m : Nat} {y : Sx} (A : Al C n D0 D1 D2 D3 H a p m y) (n1 : 1 ≤ n) (n6 : n ≤ 6) {t : Addr} {dr : List Int} (ht : H t = some (.tup (iv dr))) (d0 : dr ≠ []) (d3 : dr.length ≤ 3) (hd : ∀ b ∈ dr, 0 ≤ b ∧ b < n) (dl : y.ds.length ≤ 500) {Q : VK} {E : XK} (k : ∀ y' H', Al C n D0 D1 D2 D3 H' a p m y' → y'.ds.length ≤ y.ds.length + 1 → y.nb ≤ y'.nb → y'.nb ≤ y.nb + 1 → Q (.bl true) H') : spPR C D0 D1 (qLam "emptiest_of") (qLam "_law_put_right") [.ref a.p, .ref a.wd, .ref t] H Q E :=
  ⟨a, n, y, t, dr, rfl, A.rw, n1, n6, ht, d0, d3, hd, dl, A.tb.t0, A.tb.t1, fun y' H' R' o dy b1 b2 => k y' H' (A.off o R') dy b1 b2⟩
theorem Al.leave {C : Addr} {n : Nat} {D0 D1 D2 D3 : Addr} {H : Hp} {a : Ad} {p : Addr} {m : Nat} {y : Sx} (A : Al C n D0 D1 D2 D3 H a p m y) {v : V} {dd : PyData} (hv : DataV H v dd) (dl : y.ds.length ≤ 500) {Q : VK} {E : XK} (k : ∀ y' H', Al C n D0 D1 D2 D3 H' a p m y' → y'.ds.length ≤ y.ds.length + 1 → y'.nb = y.nb → Q (.bl true) H') : spLR C D2 (qLam "_law_leave_right") [.ref a.p, .ref a.wd, v] H Q E :=
  ⟨a, n, y, v, dd, rfl, A.rw, hv, dl, A.tb.t2, fun y' H' R' o dy b1 => k y' H' (A.off o R') dy b1⟩
theorem Al.back {C : Addr} {n : Nat} {D0 D1 D2 D3 : Addr} {H : Hp} {a : Ad} {p : Addr} {m : Nat} {y : Sx} (A : Al C n D0 D1 D2 D3 H a p m y) (dl : y.ds.length ≤ 800) {Q : VK} {E : XK} (k : ∀ y' H', Al C n D0 D1 D2 D3 H' a p m y' → y'.ds = y.ds.tail → y'.nb = y.nb → Q (.bl true) H') : spBR C D3 (qLam "_law_back_right") [.ref a.p, .ref a.wd] H Q E :=
  ⟨a, n, y, rfl, A.rw, dl, A.tb.t3, fun y' H' R' o dy b1 => k y' H' (A.off o R') dy b1⟩
theorem Al.shown {C : Addr} {n : Nat} {D0 D1 D2 D3 : Addr} {H : Hp} {a : Ad} {p : Addr} {m : Nat} {y : Sx} (A : Al C n D0 D1 D2 D3 H a p m y) (n1 : 1 ≤ n) (n6 : n ≤ 6) {Q : VK} {E : XK} (k : ∀ H', Al C n D0 D1 D2 D3 H' a p m y → Q (.bl true) H') : spShR C [.ref a.p, .ref a.wd] H Q E :=
  ⟨a, n, y, rfl, A.rw, n1, n6, fun H' s => k H' (A.same s)⟩
theorem nil_ {σ : St} {H : Hp} {R : List V → Hp → Prop} (h : R [] H) : tNil σ H R := h
theorem asg_ {t : TE} {g : TG} {u : TS} {D : Ends} {σ : St} {H : Hp} (h : t σ H fun v H1 => g v σ H1 fun σ2 H2 => u D σ2 H2) : tSeq (tAsg t g) u D σ H := h
section
variable {P : Program} {w : World} {K : PySem.W.Frag} {mg : Str → Option Value} {base : Heap}
noncomputable def spFR (C D0 D1 D2 D3 : Addr) : Sp := fun vs H Q _ => ∃ (p : Addr) (n m : Nat), vs = [.ref p, .int (n : Int)] ∧ 1 ≤ n ∧ n ≤ 6 ∧ Pen H p m ∧ m < 50000 ∧ Tabs D0 D1 D2 D3 H ∧ ∀ H', Tabs D0 D1 D2 D3 H' → Q (.bl true) H'
theorem ok_fr {C D0 D1 D2 D3 : Addr} (R : RmT K mg C) (T : Txt2 mg) (M___init__ : MCal P w K mg base C "__init__" ["self", "n"] 1 (spInit C)) (C_l_draw : Cal P w K mg base "_law_draw" ["_law_pen_here", "_law_many"] 1 spDraw)
    (C_l_put_right : Cal P w K mg base "_law_put_right" ["_law_room", "_law_world", "_law_draw_here"] 8 (spPR C D0 D1 (qLam "emptiest_of") (qLam "_law_put_right"))) (C_l_leave_right : Cal P w K mg base "_law_leave_right" ["_law_room", "_law_world", "_law_ball_here"] 8 (spLR C D2 (qLam "_law_leave_right"))) (C_l_back_right : Cal P w K mg base "_law_back_right" ["_law_room", "_law_world"] 8 (spBR C D3 (qLam "_law_back_right"))) (C_l_shown_right : Cal P w K mg base "_law_shown_right" ["_law_room", "_law_world"] 3 (spShR C))
    (F : FunAt K mg "_law_full_right" ["_law_pen_here", "_law_n"] s_l_full_right) : Cal P w K mg base "_law_full_right" ["_law_pen_here", "_law_n"] 9 (spFR C D0 D1 D2 D3) := by
  have S := sc_l_full_right
  have CA := R.ca
  refine F.cal sc_l_full_right (fun vs H Q E h => ?_) (fun f cdv A outer s H vs Q E hr h => ?_)
  · obtain ⟨p, n, m, rfl, _⟩ := h; rfl
  obtain ⟨p, n, m, rfl, n1, n6, pen, hm, tb, k⟩ := h
  refine ⟨_, (@pss_cons _ _ _ _ _ (@ps_set _ _ (2) _ _ _ _ (by exact S.nd) (by rfl) (by first | exact Or.inl rfl | exact Or.inr rfl) (@pmk _ _ _ _ _ _ _ _ _ _ _ (by exact M___init__) (by exact CA) (by exact (hr.mono (by decide))) (@pa_consN _ _ _ _ _ (pv 1) pa_nil (by first|rfl|decide|exact .inl rfl|exact .inr rfl|(intros; rfl))) (by first|rfl|decide|exact .inl rfl|exact .inr rfl|(intros; rfl)) (by first|rfl|decide|exact .inl rfl|exact .inr rfl|(intros; rfl)) (by first|rfl|decide|exact .inl rfl|exact .inr rfl|(intros; rfl)) (by first|rfl|decide|exact .inl rfl|exact .inr rfl|(intros; rfl))) (by first|rfl|decide|exact .inl rfl|exact .inr rfl|(intros; rfl)) (by first|rfl|decide|exact .inl rfl|exact .inr rfl|(intros; rfl))) (@pss_cons _ _ _ _ _ (@ps_set _ _ (3) _ _ _ _ (by exact S.nd) (by rfl) (by first | exact Or.inl rfl | exact Or.inr rfl) (@pe_disp _ _ _ _ _ (@pps_cons _ _ _ _ _ _ _ _ _ pe_str (pv 1) (@pps_cons _ _ _ _ _ _ _ _ _ pe_str pe_dnewK (@pps_cons _ _ _ _ _ _ _ _ _ pe_str pe_int (@pps_cons _ _ _ _ _ _ _ _ _ pe_str (@pe_lst _ _ _ _ pa_nil) pps_nil)))) (by rfl) (by rfl) (by simp) (by decide)) (by first|rfl|decide|exact .inl rfl|exact .inr rfl|(intros; rfl)) (by first|rfl|decide|exact .inl rfl|exact .inr rfl|(intros; rfl))) (@pss_cons _ _ _ _ _ (@ps_for _ _ _ _ _ _ _ _ (by exact PassesOwn.never) (by rfl) (@pi_range1 _ _ _ _ _ _ (by rfl) (by exact T.z_range) (@pa_consN _ _ _ _ _ pe_int pa_nil (by first|rfl|decide|exact .inl rfl|exact .inr rfl|(intros; rfl))) (by first|rfl|decide|exact .inl rfl|exact .inr rfl|(intros; rfl))) (@pg_name _ _ (4) _ (by exact S.nd) (by rfl) (by first | exact Or.inl rfl | exact Or.inr rfl) (by first|rfl|decide|exact .inl rfl|exact .inr rfl|(intros; rfl))) (@pss_one _ _ _ (@ps_if _ _ _ _ _ _ _ _ (@pt_not _ _ _ _ (@pt_val _ _ _ (@cc _ _ _ _ _ _ _ _ _ _ (by exact C_l_put_right) (by exact (hr.mono (by decide))) (@pa_consN _ _ _ _ _ (pv 2) (@pa_consN _ _ _ _ _ (pv 3) (@pa_consN _ _ _ _ _ (@pe_tup _ _ _ _ _ (@pa_consN _ _ _ _ _ (@cc _ _ _ _ _ _ _ _ _ _ (by exact C_l_draw) (by exact (hr.mono (by decide))) (@pa_consN _ _ _ _ _ (pv 0) (@pa_consN _ _ _ _ _ (pv 1) pa_nil (by first|rfl|decide|exact .inl rfl|exact .inr rfl|(intros; rfl))) (by first|rfl|decide|exact .inl rfl|exact .inr rfl|(intros; rfl))) (by first|rfl|decide|exact .inl rfl|exact .inr rfl|(intros; rfl)) (by first|rfl|decide|exact .inl rfl|exact .inr rfl|(intros; rfl)) (by first|rfl|decide|exact .inl rfl|exact .inr rfl|(intros; rfl)) (by first|rfl|decide|exact .inl rfl|exact .inr rfl|(intros; rfl))) (@pa_consN _ _ _ _ _ (@cc _ _ _ _ _ _ _ _ _ _ (by exact C_l_draw) (by exact (hr.mono (by decide))) (@pa_consN _ _ _ _ _ (pv 0) (@pa_consN _ _ _ _ _ (pv 1) pa_nil (by first|rfl|decide|exact .inl rfl|exact .inr rfl|(intros; rfl))) (by first|rfl|decide|exact .inl rfl|exact .inr rfl|(intros; rfl))) (by first|rfl|decide|exact .inl rfl|exact .inr rfl|(intros; rfl)) (by first|rfl|decide|exact .inl rfl|exact .inr rfl|(intros; rfl)) (by first|rfl|decide|exact .inl rfl|exact .inr rfl|(intros; rfl)) (by first|rfl|decide|exact .inl rfl|exact .inr rfl|(intros; rfl))) pa_nil (by first|rfl|decide|exact .inl rfl|exact .inr rfl|(intros; rfl))) (by first|rfl|decide|exact .inl rfl|exact .inr rfl|(intros; rfl)))) pa_nil (by first|rfl|decide|exact .inl rfl|exact .inr rfl|(intros; rfl))) (by first|rfl|decide|exact .inl rfl|exact .inr rfl|(intros; rfl))) (by first|rfl|decide|exact .inl rfl|exact .inr rfl|(intros; rfl))) (by first|rfl|decide|exact .inl rfl|exact .inr rfl|(intros; rfl)) (by first|rfl|decide|exact .inl rfl|exact .inr rfl|(intros; rfl)) (by first|rfl|decide|exact .inl rfl|exact .inr rfl|(intros; rfl)) (by first|rfl|decide|exact .inl rfl|exact .inr rfl|(intros; rfl))) (by first|rfl|decide|exact .inl rfl|exact .inr rfl|(intros; rfl)))) (@pss_one _ _ _ (@ps_ret _ _ _ _ pe_bl)) pss_nil)) (by first|rfl|decide|exact .inl rfl|exact .inr rfl|(intros; rfl))) (@pss_cons _ _ _ _ _ (@ps_set _ _ (5) _ _ _ _ (by exact S.nd) (by rfl) (by first | exact Or.inl rfl | exact Or.inr rfl) (@cc _ _ _ _ _ _ _ _ _ _ (by exact C_l_draw) (by exact (hr.mono (by decide))) (@pa_consN _ _ _ _ _ (pv 0) (@pa_consN _ _ _ _ _ pe_int pa_nil (by first|rfl|decide|exact .inl rfl|exact .inr rfl|(intros; rfl))) (by first|rfl|decide|exact .inl rfl|exact .inr rfl|(intros; rfl))) (by first|rfl|decide|exact .inl rfl|exact .inr rfl|(intros; rfl)) (by first|rfl|decide|exact .inl rfl|exact .inr rfl|(intros; rfl)) (by first|rfl|decide|exact .inl rfl|exact .inr rfl|(intros; rfl)) (by first|rfl|decide|exact .inl rfl|exact .inr rfl|(intros; rfl))) (by first|rfl|decide|exact .inl rfl|exact .inr rfl|(intros; rfl)) (by first|rfl|decide|exact .inl rfl|exact .inr rfl|(intros; rfl))) (@pss_cons _ _ _ _ _ (@ps_if _ _ _ _ _ _ _ _ (@PW.pt _ _ _ (@pw_or _ _ _ _ _ _ _ (@pt_not _ _ _ _ (@pt_val _ _ _ (@cc _ _ _ _ _ _ _ _ _ _ (by exact C_l_leave_right) (by exact (hr.mono (by decide))) (@pa_consN _ _ _ _ _ (pv 2) (@pa_consN _ _ _ _ _ (pv 3) (@pa_consN _ _ _ _ _ (pv 5) pa_nil (by first|rfl|decide|exact .inl rfl|exact .inr rfl|(intros; rfl))) (by first|rfl|decide|exact .inl rfl|exact .inr rfl|(intros; rfl))) (by first|rfl|decide|exact .inl rfl|exact .inr rfl|(intros; rfl))) (by first|rfl|decide|exact .inl rfl|exact .inr rfl|(intros; rfl)) (by first|rfl|decide|exact .inl rfl|exact .inr rfl|(intros; rfl)) (by first|rfl|decide|exact .inl rfl|exact .inr rfl|(intros; rfl)) (by first|rfl|decide|exact .inl rfl|exact .inr rfl|(intros; rfl))) (by first|rfl|decide|exact .inl rfl|exact .inr rfl|(intros; rfl)))) (@pw_or1 _ _ _ _ (@pt_not _ _ _ _ (@pt_val _ _ _ (@cc _ _ _ _ _ _ _ _ _ _ (by exact C_l_put_right) (by exact (hr.mono (by decide))) (@pa_consN _ _ _ _ _ (pv 2) (@pa_consN _ _ _ _ _ (pv 3) (@pa_consN _ _ _ _ _ (@pe_tup _ _ _ _ _ (@pa_consN _ _ _ _ _ pe_int pa_nil (by first|rfl|decide|exact .inl rfl|exact .inr rfl|(intros; rfl)))) pa_nil (by first|rfl|decide|exact .inl rfl|exact .inr rfl|(intros; rfl))) (by first|rfl|decide|exact .inl rfl|exact .inr rfl|(intros; rfl))) (by first|rfl|decide|exact .inl rfl|exact .inr rfl|(intros; rfl))) (by first|rfl|decide|exact .inl rfl|exact .inr rfl|(intros; rfl)) (by first|rfl|decide|exact .inl rfl|exact .inr rfl|(intros; rfl)) (by first|rfl|decide|exact .inl rfl|exact .inr rfl|(intros; rfl)) (by first|rfl|decide|exact .inl rfl|exact .inr rfl|(intros; rfl))) (by first|rfl|decide|exact .inl rfl|exact .inr rfl|(intros; rfl))))))) (@pss_one _ _ _ (@ps_ret _ _ _ _ pe_bl)) pss_nil) (@pss_cons _ _ _ _ _ (@ps_if _ _ _ _ _ _ _ _ (@PW.pt _ _ _ (@pw_or _ _ _ _ _ _ _ (@pt_not _ _ _ _ (@pt_val _ _ _ (@cc _ _ _ _ _ _ _ _ _ _ (by exact C_l_put_right) (by exact (hr.mono (by decide))) (@pa_consN _ _ _ _ _ (pv 2) (@pa_consN _ _ _ _ _ (pv 3) (@pa_consN _ _ _ _ _ (@pe_tup _ _ _ _ _ (@pa_consN _ _ _ _ _ pe_int pa_nil (by first|rfl|decide|exact .inl rfl|exact .inr rfl|(intros; rfl)))) pa_nil (by first|rfl|decide|exact .inl rfl|exact .inr rfl|(intros; rfl))) (by first|rfl|decide|exact .inl rfl|exact .inr rfl|(intros; rfl))) (by first|rfl|decide|exact .inl rfl|exact .inr rfl|(intros; rfl))) (by first|rfl|decide|exact .inl rfl|exact .inr rfl|(intros; rfl)) (by first|rfl|decide|exact .inl rfl|exact .inr rfl|(intros; rfl)) (by first|rfl|decide|exact .inl rfl|exact .inr rfl|(intros; rfl)) (by first|rfl|decide|exact .inl rfl|exact .inr rfl|(intros; rfl))) (by first|rfl|decide|exact .inl rfl|exact .inr rfl|(intros; rfl)))) (@pw_or _ _ _ _ _ _ _ (@pt_not _ _ _ _ (@pt_val _ _ _ (@cc _ _ _ _ _ _ _ _ _ _ (by exact C_l_back_right) (by exact (hr.mono (by decide))) (@pa_consN _ _ _ _ _ (pv 2) (@pa_consN _ _ _ _ _ (pv 3) pa_nil (by first|rfl|decide|exact .inl rfl|exact .inr rfl|(intros; rfl))) (by first|rfl|decide|exact .inl rfl|exact .inr rfl|(intros; rfl))) (by first|rfl|decide|exact .inl rfl|exact .inr rfl|(intros; rfl)) (by first|rfl|decide|exact .inl rfl|exact .inr rfl|(intros; rfl)) (by first|rfl|decide|exact .inl rfl|exact .inr rfl|(intros; rfl)) (by first|rfl|decide|exact .inl rfl|exact .inr rfl|(intros; rfl))) (by first|rfl|decide|exact .inl rfl|exact .inr rfl|(intros; rfl)))) (@pw_or1 _ _ _ _ (@pt_not _ _ _ _ (@pt_val _ _ _ (@cc _ _ _ _ _ _ _ _ _ _ (by exact C_l_back_right) (by exact (hr.mono (by decide))) (@pa_consN _ _ _ _ _ (pv 2) (@pa_consN _ _ _ _ _ (pv 3) pa_nil (by first|rfl|decide|exact .inl rfl|exact .inr rfl|(intros; rfl))) (by first|rfl|decide|exact .inl rfl|exact .inr rfl|(intros; rfl))) (by first|rfl|decide|exact .inl rfl|exact .inr rfl|(intros; rfl)) (by first|rfl|decide|exact .inl rfl|exact .inr rfl|(intros; rfl)) (by first|rfl|decide|exact .inl rfl|exact .inr rfl|(intros; rfl)) (by first|rfl|decide|exact .inl rfl|exact .inr rfl|(intros; rfl))) (by first|rfl|decide|exact .inl rfl|exact .inr rfl|(intros; rfl)))))))) (@pss_one _ _ _ (@ps_ret _ _ _ _ pe_bl)) pss_nil) (@pss_one _ _ _ (@ps_ret _ _ _ _ (@pe_and _ _ _ _ _ _ _ (@cc _ _ _ _ _ _ _ _ _ _ (by exact C_l_shown_right) (by exact (hr.mono (by decide))) (@pa_consN _ _ _ _ _ (pv 2) (@pa_consN _ _ _ _ _ (pv 3) pa_nil (by first|rfl|decide|exact .inl rfl|exact .inr rfl|(intros; rfl))) (by first|rfl|decide|exact .inl rfl|exact .inr rfl|(intros; rfl))) (by first|rfl|decide|exact .inl rfl|exact .inr rfl|(intros; rfl)) (by first|rfl|decide|exact .inl rfl|exact .inr rfl|(intros; rfl)) (by first|rfl|decide|exact .inl rfl|exact .inr rfl|(intros; rfl)) (by first|rfl|decide|exact .inl rfl|exact .inr rfl|(intros; rfl))) (@pe_one _ _ _ _ _ (@cc _ _ _ _ _ _ _ _ _ _ (by exact C_l_put_right) (by exact (hr.mono (by decide))) (@pa_consN _ _ _ _ _ (pv 2) (@pa_consN _ _ _ _ _ (pv 3) (@pa_consN _ _ _ _ _ (@pe_tup _ _ _ _ _ (@pa_consN _ _ _ _ _ pe_int pa_nil (by first|rfl|decide|exact .inl rfl|exact .inr rfl|(intros; rfl)))) pa_nil (by first|rfl|decide|exact .inl rfl|exact .inr rfl|(intros; rfl))) (by first|rfl|decide|exact .inl rfl|exact .inr rfl|(intros; rfl))) (by first|rfl|decide|exact .inl rfl|exact .inr rfl|(intros; rfl))) (by first|rfl|decide|exact .inl rfl|exact .inr rfl|(intros; rfl)) (by first|rfl|decide|exact .inl rfl|exact .inr rfl|(intros; rfl)) (by first|rfl|decide|exact .inl rfl|exact .inr rfl|(intros; rfl)) (by first|rfl|decide|exact .inl rfl|exact .inr rfl|(intros; rfl))))))))))))), ?_⟩
  refine asg_ (mk_read n1 n6 (fun Q' h => ⟨_, rfl, h⟩) fun ap al ad aq H1 s1 np nl nd nq RA => ?_)
  refine gN_ (asg_ (disp_read (n := n) (fun H1 Q' h => ⟨_, rfl, h⟩) fun wd ly pa H2 s2 nw ny npa hw hl hp => ?_))
  obtain ⟨RW2, out⟩ := mk_both s1 np nl nd nq RA s2 nw ny npa hw hl hp
  have s12 := s1.trans s2
  have pw2 : PenW (Ad.all ⟨ap, al, ad, aq, wd, ly, pa⟩) H2 p m := by
    obtain ⟨c, ns, a, l, h1, h2, h3, h4⟩ := pen
    exact ⟨c, ns, a, l, s12 _ _ h1, s12 _ _ h2, h3, h4, out _ _ h2, out _ _ h1⟩
  have tb2 : Tabs D0 D1 D2 D3 H2 := tb.keep fun b z e => s12 _ _ e
  generalize hA : (⟨ap, al, ad, aq, wd, ly, pa⟩ : Ad) = aa at *
  obtain ⟨eap, ewd⟩ : ap = aa.p ∧ wd = aa.wd := by subst hA; exact ⟨rfl, rfl⟩
  subst eap ewd
  clear hw hl hp nw ny npa s1 s2 np nl nd nq RA s12 out pen tb hA
  refine gN_ ?_
  have A2 : Al C n D0 D1 D2 D3 H2 aa p m _ := ⟨RW2, pw2, tb2⟩
  have z0 : ∀ b ∈ [(0 : Int)], 0 ≤ b ∧ b < n := fun b hb => by rw [List.mem_singleton.mp hb]; omega
  refine ⟨61, rfl, by decide, by decide, for_Y (yields_rng (lo := 0) (n := 61)) (fun i σ H' => ∃ y : Sx, Al C n D0 D1 D2 D3 H' aa p (m + 2 * i) y ∧ y.ds.length ≤ i ∧ ∃ o4 o5, σ = [some (.ref p), some (.int n), some (.ref aa.p), some (.ref aa.wd), o4, o5]) ?_ ?_ ?_ ?_⟩
  · exact ⟨_, A2, Nat.le_refl _, _, _, rfl⟩
  · intros; trivial
  · rintro i v σ H3 H4 hi ⟨y, A3, dl, o4, o5, rfl⟩ ⟨rfl, rfl⟩
    refine gN_ ⟨_, rfl, _, rfl, _, rfl, _, rfl, p, n, m + 2 * i, rfl, A3.pw.pen, by omega, by omega, by omega, fun r1 H5 r10 r11 p5 x5 => ⟨_, rfl, _, rfl, p, n, m + 2 * i + 1, rfl, p5, by omega, by omega, by omega, fun r2 H6 r20 r21 p6 x6 => ⟨lz 2 rfl, fun t ht => ?_⟩⟩⟩
    have A6 := A3.draw (x5.trans x6) p6
    have A7 := A6.same (same_new ht (.tup [.int r1, .int r2]))
    refine nil_ ?_
    refine A7.put n1 n6 (dr := [r1, r2]) upd_same (by simp) (by simp) (fun b hb => ?_) (by omega) fun y' H' A' dy _ _ => ⟨_, rfl, iteF ⟨y', A'.mono (by omega), by omega, _, _, rfl⟩⟩
    simp only [List.mem_cons, List.not_mem_nil, or_false] at hb
    rcases hb with z | z <;> rw [z]
    · exact ⟨r10, r11⟩
    · exact ⟨r20, r21⟩
  · rintro σ H3 ⟨y, A3, dl, o4, o5, rfl⟩
    refine ⟨_, rfl, p, 60, m + 2 * 61, rfl, A3.pw.pen, by omega, by decide, by decide, fun r H4 r0 r1 p4 x4 => ?_⟩
    have A4 := A3.draw x4 p4
    refine ⟨_, rfl, _, rfl, _, rfl, ?_⟩
    refine nil_ ?_
    refine A4.leave (.int r) (by omega) fun y5 H5 A5 d5 _ => ⟨_, rfl, iteF ?_⟩
    refine ⟨_, rfl, _, rfl, lz 1 rfl, fun t6 h6 => ?_⟩
    refine nil_ ?_
    refine (A5.same (same_new h6 (.tup [.int 0]))).put n1 n6 (dr := [0]) upd_same (by simp) (by simp) z0 (by omega) fun y7 H7 A7 d7 _ _ => ⟨_, rfl, iteF ?_⟩
    refine ⟨_, rfl, _, rfl, lz 1 rfl, fun t8 h8 => ?_⟩
    refine nil_ ?_
    refine (A7.same (same_new h8 (.tup [.int 0]))).put n1 n6 (dr := [0]) upd_same (by simp) (by simp) z0 (by omega) fun y9 H9 A9 d9 _ _ => ⟨_, rfl, iteF ?_⟩
    refine ⟨_, rfl, _, rfl, ?_⟩
    refine nil_ ?_
    refine A9.back (by omega) fun y10 H10 A10 d10 _ => ⟨_, rfl, iteF ?_⟩
    refine ⟨_, rfl, _, rfl, ?_⟩
    refine nil_ ?_
    refine A10.back (by rw [d10, List.length_tail]; omega) fun y11 H11 A11 d11 _ => ⟨_, rfl, iteF ?_⟩
    refine ⟨_, rfl, _, rfl, ?_⟩
    refine nil_ ?_
    refine A11.shown n1 n6 fun H12 A12 => ⟨_, rfl, iteT ?_⟩
    refine ⟨_, rfl, _, rfl, lz 1 rfl, fun t13 h13 => ?_⟩
    refine nil_ ?_
    exact (A12.same (same_new h13 (.tup [.int 0]))).put n1 n6 (dr := [0]) upd_same (by simp) (by simp) z0 (by rw [d11, d10, List.length_tail, List.length_tail]; omega) fun y14 H14 A14 _ _ _ => k H14 A14.tb
end
end My

set_option Elab.async false
set_option linter.all false
set_option maxRecDepth 100000
set_option maxHeartbeats 4000000
namespace My
open PySem L2 MA
section
variable {P : Program} {w : World} {K : PySem.W.Frag} {mg : Str → Option Value} {base : Heap}
theorem ok_lgr {C D0 D1 D2 D3 : Addr} (R : RmT K mg C) (T : Txt2 mg) (M___init__ : MCal P w K mg base C "__init__" ["self", "n"] 1 (spInit C)) (C_l_draw : Cal P w K mg base "_law_draw" ["_law_pen_here", "_law_many"] 1 spDraw)
    (C_l_put_right : Cal P w K mg base "_law_put_right" ["_law_room", "_law_world", "_law_draw_here"] 8 (spPR C D0 D1 (qLam "emptiest_of") (qLam "_law_put_right"))) (C_l_leave_right : Cal P w K mg base "_law_leave_right" ["_law_room", "_law_world", "_law_ball_here"] 8 (spLR C D2 (qLam "_law_leave_right"))) (C_l_back_right : Cal P w K mg base "_law_back_right" ["_law_room", "_law_world"] 8 (spBR C D3 (qLam "_law_back_right"))) (C_l_shown_right : Cal P w K mg base "_law_shown_right" ["_law_room", "_law_world"] 3 (spShR C))
    (F : FunAt K mg "_law_long_right" ["_law_pen_here", "_law_n"] s_l_long_right) : Cal P w K mg base "_law_long_right" ["_law_pen_here", "_law_n"] 9 (spFR C D0 D1 D2 D3) := by
  have S := sc_l_long_right
  have CA := R.ca
  refine F.cal sc_l_long_right (fun vs H Q E h => ?_) (fun f cdv A outer s H vs Q E hr h => ?_)
  · obtain ⟨p, n, m, rfl, _⟩ := h; rfl
  obtain ⟨p, n, m, rfl, n1, n6, pen, hm, tb, k⟩ := h
  have hu := hu_of hr
  have hu0 := hr.units0
  refine ⟨_, (@pss_cons _ _ _ _ _ (@ps_set _ _ (2) _ _ _ _ (by exact S.nd) (by rfl) (by first | exact Or.inl rfl | exact Or.inr rfl) (@pmk _ _ _ _ _ _ _ _ _ _ _ (by exact M___init__) (by exact CA) (by exact (hr.mono (by decide))) (@pa_consN _ _ _ _ _ (pv 1) pa_nil (by first|rfl|decide|exact .inl rfl|exact .inr rfl|(intros; rfl))) (by first|rfl|decide|exact .inl rfl|exact .inr rfl|(intros; rfl)) (by first|rfl|decide|exact .inl rfl|exact .inr rfl|(intros; rfl)) (by first|rfl|decide|exact .inl rfl|exact .inr rfl|(intros; rfl)) (by first|rfl|decide|exact .inl rfl|exact .inr rfl|(intros; rfl))) (by first|rfl|decide|exact .inl rfl|exact .inr rfl|(intros; rfl)) (by first|rfl|decide|exact .inl rfl|exact .inr rfl|(intros; rfl))) (@pss_cons _ _ _ _ _ (@ps_set _ _ (3) _ _ _ _ (by exact S.nd) (by rfl) (by first | exact Or.inl rfl | exact Or.inr rfl) (@pe_disp _ _ _ _ _ (@pps_cons _ _ _ _ _ _ _ _ _ pe_str (pv 1) (@pps_cons _ _ _ _ _ _ _ _ _ pe_str pe_dnewK (@pps_cons _ _ _ _ _ _ _ _ _ pe_str pe_int (@pps_cons _ _ _ _ _ _ _ _ _ pe_str (@pe_lst _ _ _ _ pa_nil) pps_nil)))) (by rfl) (by rfl) (by simp) (by decide)) (by first|rfl|decide|exact .inl rfl|exact .inr rfl|(intros; rfl)) (by first|rfl|decide|exact .inl rfl|exact .inr rfl|(intros; rfl))) (@pss_cons _ _ _ _ _ (@ps_for _ _ _ _ _ _ _ _ (by exact PassesOwn.never) (by rfl) (@pi_range1 _ _ _ _ _ _ (by rfl) (by exact T.z_range) (@pa_consN _ _ _ _ _ pe_int pa_nil (by first|rfl|decide|exact .inl rfl|exact .inr rfl|(intros; rfl))) (by first|rfl|decide|exact .inl rfl|exact .inr rfl|(intros; rfl))) (@pg_name _ _ (4) _ (by exact S.nd) (by rfl) (by first | exact Or.inl rfl | exact Or.inr rfl) (by first|rfl|decide|exact .inl rfl|exact .inr rfl|(intros; rfl))) (@pss_cons _ _ _ _ _ (@ps_if _ _ _ _ _ _ _ _ (@pt_not _ _ _ _ (@pt_val _ _ _ (@cc _ _ _ _ _ _ _ _ _ _ (by exact C_l_put_right) (by exact (hr.mono (by decide))) (@pa_consN _ _ _ _ _ (pv 2) (@pa_consN _ _ _ _ _ (pv 3) (@pa_consN _ _ _ _ _ (@pe_tup _ _ _ _ _ (@pa_consN _ _ _ _ _ (@cc _ _ _ _ _ _ _ _ _ _ (by exact C_l_draw) (by exact (hr.mono (by decide))) (@pa_consN _ _ _ _ _ (pv 0) (@pa_consN _ _ _ _ _ (pv 1) pa_nil (by first|rfl|decide|exact .inl rfl|exact .inr rfl|(intros; rfl))) (by first|rfl|decide|exact .inl rfl|exact .inr rfl|(intros; rfl))) (by first|rfl|decide|exact .inl rfl|exact .inr rfl|(intros; rfl)) (by first|rfl|decide|exact .inl rfl|exact .inr rfl|(intros; rfl)) (by first|rfl|decide|exact .inl rfl|exact .inr rfl|(intros; rfl)) (by first|rfl|decide|exact .inl rfl|exact .inr rfl|(intros; rfl))) (@pa_consN _ _ _ _ _ (@cc _ _ _ _ _ _ _ _ _ _ (by exact C_l_draw) (by exact (hr.mono (by decide))) (@pa_consN _ _ _ _ _ (pv 0) (@pa_consN _ _ _ _ _ (pv 1) pa_nil (by first|rfl|decide|exact .inl rfl|exact .inr rfl|(intros; rfl))) (by first|rfl|decide|exact .inl rfl|exact .inr rfl|(intros; rfl))) (by first|rfl|decide|exact .inl rfl|exact .inr rfl|(intros; rfl)) (by first|rfl|decide|exact .inl rfl|exact .inr rfl|(intros; rfl)) (by first|rfl|decide|exact .inl rfl|exact .inr rfl|(intros; rfl)) (by first|rfl|decide|exact .inl rfl|exact .inr rfl|(intros; rfl))) pa_nil (by first|rfl|decide|exact .inl rfl|exact .inr rfl|(intros; rfl))) (by first|rfl|decide|exact .inl rfl|exact .inr rfl|(intros; rfl)))) pa_nil (by first|rfl|decide|exact .inl rfl|exact .inr rfl|(intros; rfl))) (by first|rfl|decide|exact .inl rfl|exact .inr rfl|(intros; rfl))) (by first|rfl|decide|exact .inl rfl|exact .inr rfl|(intros; rfl))) (by first|rfl|decide|exact .inl rfl|exact .inr rfl|(intros; rfl)) (by first|rfl|decide|exact .inl rfl|exact .inr rfl|(intros; rfl)) (by first|rfl|decide|exact .inl rfl|exact .inr rfl|(intros; rfl)) (by first|rfl|decide|exact .inl rfl|exact .inr rfl|(intros; rfl))) (by first|rfl|decide|exact .inl rfl|exact .inr rfl|(intros; rfl)))) (@pss_one _ _ _ (@ps_ret _ _ _ _ pe_bl)) pss_nil) (@pss_cons _ _ _ _ _ (@ps_set _ _ (5) _ _ _ _ (by exact S.nd) (by rfl) (by first | exact Or.inl rfl | exact Or.inr rfl) (@pe_callB _ _ _ _ _ _ _ _ _ call_sorted0 (by rfl) (by exact T.z_sorted) (by exact bt_sorted) (@pa_consN _ _ _ _ _ (@pe_callTy _ _ _ _ _ _ _ _ _ (call_listI (by rfl)) (by rfl) (by exact T.z_list) (by exact bt_list) (@pa_consN _ _ _ _ _ (@pe_dget _ _ _ _ _ _ (by exact hu) (pv 3) pe_str (by exact (fun _ _ => rfl))) pa_nil (by first|rfl|decide|exact .inl rfl|exact .inr rfl|(intros; rfl))) (by first|rfl|decide|exact .inl rfl|exact .inr rfl|(intros; rfl)) (by first|rfl|decide|exact .inl rfl|exact .inr rfl|(intros; rfl)) (by first|rfl|decide|exact .inl rfl|exact .inr rfl|(intros; rfl)) (by first|rfl|decide|exact .inl rfl|exact .inr rfl|(intros; rfl))) pa_nil (by first|rfl|decide|exact .inl rfl|exact .inr rfl|(intros; rfl))) (by first|rfl|decide|exact .inl rfl|exact .inr rfl|(intros; rfl)) (by first|rfl|decide|exact .inl rfl|exact .inr rfl|(intros; rfl)) (by first|rfl|decide|exact .inl rfl|exact .inr rfl|(intros; rfl)) (by first|rfl|decide|exact .inl rfl|exact .inr rfl|(intros; rfl))) (by first|rfl|decide|exact .inl rfl|exact .inr rfl|(intros; rfl)) (by first|rfl|decide|exact .inl rfl|exact .inr rfl|(intros; rfl))) (@pss_one _ _ _ (@ps_if _ _ _ _ _ _ _ _ (@PW.pt _ _ _ (@pw_and _ _ _ _ _ _ _ (@pt_cmpR _ _ _ _ _ _ _ _ op_gt (@pe_callB _ _ _ _ _ _ _ _ _ call_len_seq (by rfl) (by exact T.z_len) (by exact bt_len) (@pa_consN _ _ _ _ _ (pv 5) pa_nil (by first|rfl|decide|exact .inl rfl|exact .inr rfl|(intros; rfl))) (by first|rfl|decide|exact .inl rfl|exact .inr rfl|(intros; rfl)) (by first|rfl|decide|exact .inl rfl|exact .inr rfl|(intros; rfl)) (by first|rfl|decide|exact .inl rfl|exact .inr rfl|(intros; rfl)) (by first|rfl|decide|exact .inl rfl|exact .inr rfl|(intros; rfl))) pe_int (by exact (nomark _))) (@pw_and1 _ _ _ _ (@pt_not _ _ _ _ (@pt_val _ _ _ (@cc _ _ _ _ _ _ _ _ _ _ (by exact C_l_leave_right) (by exact (hr.mono (by decide))) (@pa_consN _ _ _ _ _ (pv 2) (@pa_consN _ _ _ _ _ (pv 3) (@pa_consN _ _ _ _ _ (@pe_ix _ _ _ _ _ _ _ ix_list (pv 5) (@cc _ _ _ _ _ _ _ _ _ _ (by exact C_l_draw) (by exact (hr.mono (by decide))) (@pa_consN _ _ _ _ _ (pv 0) (@pa_consN _ _ _ _ _ (@pe_callB _ _ _ _ _ _ _ _ _ call_len_seq (by rfl) (by exact T.z_len) (by exact bt_len) (@pa_consN _ _ _ _ _ (pv 5) pa_nil (by first|rfl|decide|exact .inl rfl|exact .inr rfl|(intros; rfl))) (by first|rfl|decide|exact .inl rfl|exact .inr rfl|(intros; rfl)) (by first|rfl|decide|exact .inl rfl|exact .inr rfl|(intros; rfl)) (by first|rfl|decide|exact .inl rfl|exact .inr rfl|(intros; rfl)) (by first|rfl|decide|exact .inl rfl|exact .inr rfl|(intros; rfl))) pa_nil (by first|rfl|decide|exact .inl rfl|exact .inr rfl|(intros; rfl))) (by first|rfl|decide|exact .inl rfl|exact .inr rfl|(intros; rfl))) (by first|rfl|decide|exact .inl rfl|exact .inr rfl|(intros; rfl)) (by first|rfl|decide|exact .inl rfl|exact .inr rfl|(intros; rfl)) (by first|rfl|decide|exact .inl rfl|exact .inr rfl|(intros; rfl)) (by first|rfl|decide|exact .inl rfl|exact .inr rfl|(intros; rfl))) (by exact (fun _ _ => rfl))) pa_nil (by first|rfl|decide|exact .inl rfl|exact .inr rfl|(intros; rfl))) (by first|rfl|decide|exact .inl rfl|exact .inr rfl|(intros; rfl))) (by first|rfl|decide|exact .inl rfl|exact .inr rfl|(intros; rfl))) (by first|rfl|decide|exact .inl rfl|exact .inr rfl|(intros; rfl)) (by first|rfl|decide|exact .inl rfl|exact .inr rfl|(intros; rfl)) (by first|rfl|decide|exact .inl rfl|exact .inr rfl|(intros; rfl)) (by first|rfl|decide|exact .inl rfl|exact .inr rfl|(intros; rfl))) (by first|rfl|decide|exact .inl rfl|exact .inr rfl|(intros; rfl))))))) (@pss_one _ _ _ (@ps_ret _ _ _ _ pe_bl)) pss_nil)))) (by first|rfl|decide|exact .inl rfl|exact .inr rfl|(intros; rfl))) (@pss_cons _ _ _ _ _ (@ps_while _ _ _ _ _ _ (by exact PassesOwn.never) (@pt_cmpR _ _ _ _ _ _ _ _ (op_neE hu0) (@pe_dget _ _ _ _ _ _ (by exact hu) (pv 3) pe_str (by exact (fun _ _ => rfl))) (@pe_lst _ _ _ _ pa_nil) (by exact (nomark _))) (@pss_one _ _ _ (@ps_if _ _ _ _ _ _ _ _ (@pt_not _ _ _ _ (@pt_val _ _ _ (@cc _ _ _ _ _ _ _ _ _ _ (by exact C_l_back_right) (by exact (hr.mono (by decide))) (@pa_consN _ _ _ _ _ (pv 2) (@pa_consN _ _ _ _ _ (pv 3) pa_nil (by first|rfl|decide|exact .inl rfl|exact .inr rfl|(intros; rfl))) (by first|rfl|decide|exact .inl rfl|exact .inr rfl|(intros; rfl))) (by first|rfl|decide|exact .inl rfl|exact .inr rfl|(intros; rfl)) (by first|rfl|decide|exact .inl rfl|exact .inr rfl|(intros; rfl)) (by first|rfl|decide|exact .inl rfl|exact .inr rfl|(intros; rfl)) (by first|rfl|decide|exact .inl rfl|exact .inr rfl|(intros; rfl))) (by first|rfl|decide|exact .inl rfl|exact .inr rfl|(intros; rfl)))) (@pss_one _ _ _ (@ps_ret _ _ _ _ pe_bl)) pss_nil))) (@pss_cons _ _ _ _ _ (@ps_if _ _ _ _ _ _ _ _ (@PW.pt _ _ _ (@pw_or _ _ _ _ _ _ _ (@pt_not _ _ _ _ (@pt_val _ _ _ (@cc _ _ _ _ _ _ _ _ _ _ (by exact C_l_shown_right) (by exact (hr.mono (by decide))) (@pa_consN _ _ _ _ _ (pv 2) (@pa_consN _ _ _ _ _ (pv 3) pa_nil (by first|rfl|decide|exact .inl rfl|exact .inr rfl|(intros; rfl))) (by first|rfl|decide|exact .inl rfl|exact .inr rfl|(intros; rfl))) (by first|rfl|decide|exact .inl rfl|exact .inr rfl|(intros; rfl)) (by first|rfl|decide|exact .inl rfl|exact .inr rfl|(intros; rfl)) (by first|rfl|decide|exact .inl rfl|exact .inr rfl|(intros; rfl)) (by first|rfl|decide|exact .inl rfl|exact .inr rfl|(intros; rfl))) (by first|rfl|decide|exact .inl rfl|exact .inr rfl|(intros; rfl)))) (@pw_or1 _ _ _ _ (@pt_not _ _ _ _ (@pt_val _ _ _ (@cc _ _ _ _ _ _ _ _ _ _ (by exact C_l_back_right) (by exact (hr.mono (by decide))) (@pa_consN _ _ _ _ _ (pv 2) (@pa_consN _ _ _ _ _ (pv 3) pa_nil (by first|rfl|decide|exact .inl rfl|exact .inr rfl|(intros; rfl))) (by first|rfl|decide|exact .inl rfl|exact .inr rfl|(intros; rfl))) (by first|rfl|decide|exact .inl rfl|exact .inr rfl|(intros; rfl)) (by first|rfl|decide|exact .inl rfl|exact .inr rfl|(intros; rfl)) (by first|rfl|decide|exact .inl rfl|exact .inr rfl|(intros; rfl)) (by first|rfl|decide|exact .inl rfl|exact .inr rfl|(intros; rfl))) (by first|rfl|decide|exact .inl rfl|exact .inr rfl|(intros; rfl))))))) (@pss_one _ _ _ (@ps_ret _ _ _ _ pe_bl)) pss_nil) (@pss_one _ _ _ (@ps_ret _ _ _ _ (@cc _ _ _ _ _ _ _ _ _ _ (by exact C_l_put_right) (by exact (hr.mono (by decide))) (@pa_consN _ _ _ _ _ (pv 2) (@pa_consN _ _ _ _ _ (pv 3) (@pa_consN _ _ _ _ _ (@pe_tup _ _ _ _ _ (@pa_consN _ _ _ _ _ pe_int pa_nil (by first|rfl|decide|exact .inl rfl|exact .inr rfl|(intros; rfl)))) pa_nil (by first|rfl|decide|exact .inl rfl|exact .inr rfl|(intros; rfl))) (by first|rfl|decide|exact .inl rfl|exact .inr rfl|(intros; rfl))) (by first|rfl|decide|exact .inl rfl|exact .inr rfl|(intros; rfl))) (by first|rfl|decide|exact .inl rfl|exact .inr rfl|(intros; rfl)) (by first|rfl|decide|exact .inl rfl|exact .inr rfl|(intros; rfl)) (by first|rfl|decide|exact .inl rfl|exact .inr rfl|(intros; rfl)) (by first|rfl|decide|exact .inl rfl|exact .inr rfl|(intros; rfl)))))))))), ?_⟩
  refine asg_ (mk_read n1 n6 (fun Q' h => ⟨_, rfl, h⟩) fun ap al ad aq H1 s1 np nl nd nq RA => ?_)
  refine gN_ (asg_ (disp_read (n := n) (fun H1 Q' h => ⟨_, rfl, h⟩) fun wd ly pa H2 s2 nw ny npa hw hl hp => ?_))
  obtain ⟨RW2, out⟩ := mk_both s1 np nl nd nq RA s2 nw ny npa hw hl hp
  have s12 := s1.trans s2
  have pw2 : PenW (Ad.all ⟨ap, al, ad, aq, wd, ly, pa⟩) H2 p m := by
    obtain ⟨c, ns, a, l, h1, h2, h3, h4⟩ := pen
    exact ⟨c, ns, a, l, s12 _ _ h1, s12 _ _ h2, h3, h4, out _ _ h2, out _ _ h1⟩
  have tb2 : Tabs D0 D1 D2 D3 H2 := tb.keep fun b z e => s12 _ _ e
  generalize hA : (⟨ap, al, ad, aq, wd, ly, pa⟩ : Ad) = aa at *
  obtain ⟨eap, ewd⟩ : ap = aa.p ∧ wd = aa.wd := by subst hA; exact ⟨rfl, rfl⟩
  subst eap ewd
  clear hw hl hp nw ny npa s1 s2 np nl nd nq RA s12 out pen tb hA
  refine gN_ ?_
  have A2 : Al C n D0 D1 D2 D3 H2 aa p m _ := ⟨RW2, pw2, tb2⟩
  have z0 : ∀ b ∈ [(0 : Int)], 0 ≤ b ∧ b < n := fun b hb => by rw [List.mem_singleton.mp hb]; omega
  refine ⟨100, rfl, by decide, by decide, for_Y (yields_rng (lo := 0) (n := 100)) (fun i σ H' => ∃ y : Sx, Al C n D0 D1 D2 D3 H' aa p (m + 3 * i) y ∧ y.ds.length ≤ 2 * i ∧ ∃ o4 o5, σ = [some (.ref p), some (.int n), some (.ref aa.p), some (.ref aa.wd), o4, o5]) ?_ ?_ ?_ ?_⟩
  · exact ⟨_, A2, Nat.le_refl _, _, _, rfl⟩
  · intros; trivial
  · rintro i v σ H3 H4 hi ⟨y, A3, dl, o4, o5, rfl⟩ ⟨rfl, rfl⟩
    refine gN_ ⟨_, rfl, _, rfl, _, rfl, _, rfl, p, n, m + 3 * i, rfl, A3.pw.pen, by omega, by omega, by omega, fun r1 H5 r10 r11 p5 x5 => ⟨_, rfl, _, rfl, p, n, m + 3 * i + 1, rfl, p5, by omega, by omega, by omega, fun r2 H6 r20 r21 p6 x6 => ⟨lz 2 rfl, fun t ht => ?_⟩⟩⟩
    have A6 := A3.draw (x5.trans x6) p6
    have A7 := A6.same (same_new ht (.tup [.int r1, .int r2]))
    refine nil_ ?_
    refine A7.put n1 n6 (dr := [r1, r2]) upd_same (by simp) (by simp) (fun b hb => ?_) (by omega) fun y8 H8 A8 d8 _ _ => ⟨_, rfl, iteF ?_⟩
    · simp only [List.mem_cons, List.not_mem_nil, or_false] at hb
      rcases hb with z | z <;> rw [z]
      · exact ⟨r10, r11⟩
      · exact ⟨r20, r21⟩
    obtain ⟨lk, hl8, LY⟩ := A8.rw.ly
    have szl := A8.rw.szl
    refine ⟨_, rfl, aa.wd, _, rfl, get_lying A8.rw.wd, aa.ly, lk.map iV, rfl, .inl hl8, fun q3 hq3 => ?_⟩
    have s3 := same_new hq3 (.lst (iv ((lk.map iV).map (·.1))))
    have f3 : (upd H8 q3 (.lst (iv ((lk.map iV).map (·.1))))) q3 = some (.lst (iv ((lk.map iV).map (·.1)))) := upd_same
    generalize upd H8 q3 (.lst (iv ((lk.map iV).map (·.1)))) = H9 at s3 f3
    refine ⟨q3, _, rfl, f3, by simp; have := LY.len; omega, fun q4 ms hq4 pm od => ?_⟩
    have s4 := same_new hq4 (.lst (iv ms))
    have f4 : (upd H9 q4 (.lst (iv ms))) q4 = some (.lst (iv ms)) := upd_same
    generalize upd H9 q4 (.lst (iv ms)) = H10 at s4 f4
    have A10 := A8.same (s3.trans s4)
    have ml : ms.length ≤ 60 := by rw [pm.length_eq]; have := LY.len; simp; omega
    refine ⟨_, rfl, q4, _, rfl, .inl (SqL.of f4), _, _, rfl, rfl, _, rfl, ite2 (fun c => ?_) (fun c => ⟨y8, A10.mono (by omega), by omega, _, _, rfl⟩)⟩
    have mp : 9 < ms.length := by have := of_decide_eq_true c; simp at this; omega
    refine ⟨_, rfl, _, rfl, _, rfl, _, rfl, _, rfl, q4, _, rfl, .inl (SqL.of f4), p, ((iv ms).length : Nat), m + 3 * i + 2, rfl, A10.pw.pen, by omega, by simp; omega, by simp; omega, fun r6 H11 r60 r61 p11 x11 => ?_⟩
    have r61' : r6 < (ms.length : Int) := by simpa using r61
    have f11 := A10.pw.pen.keep x11 f4
    have A11 := A10.draw x11 p11
    refine ⟨q4, _, _, _, rfl, rfl, SqL.of f11, atI_at r60 (by omega), ?_⟩
    refine nil_ ?_
    refine A11.leave (.int _) (by omega) fun y12 H12 A12 d12 _ => ⟨_, rfl, iteF ⟨y12, A12.mono (by omega), by omega, _, _, rfl⟩⟩
  · rintro σ H3 ⟨y, A3, dl, o4, o5, rfl⟩
    dsimp only
    refine ⟨fun mm σ H' => ∃ y : Sx, mm = y.ds.length ∧ Al C n D0 D1 D2 D3 H' aa p (m + 300) y ∧ y.ds.length ≤ 200 ∧ ∃ o4 o5, σ = [some (.ref p), some (.int n), some (.ref aa.p), some (.ref aa.wd), o4, o5], ⟨_, y, rfl, A3, by omega, _, _, rfl⟩, ?_⟩
    rintro mm σ H4 ⟨y4, rfl, A4, dl4, o4, o5, rfl⟩
    obtain ⟨pav, hpa, Pa⟩ := A4.rw.pa
    have pvl := Pa.len
    refine ⟨_, rfl, aa.wd, _, rfl, get_past A4.rw.wd, lz 0 rfl, fun q hq => ?_⟩
    have s5 := same_new hq (.lst [])
    have A5 := A4.same s5
    refine ⟨aa.pa, q, pav, rfl, rfl, s5 _ _ hpa, upd_same, _, rfl, ite2 (fun c => ?_) (fun c => ?_)⟩
    · have pne : pav ≠ [] := of_decide_eq_true c
      have hpos : 0 < y4.ds.length := by rw [← pvl]; exact List.length_pos_iff.mpr pne
      refine ⟨fun σ H' => ∃ y : Sx, y.ds.length < y4.ds.length ∧ Al C n D0 D1 D2 D3 H' aa p (m + 300) y ∧ ∃ o4 o5, σ = [some (.ref p), some (.int n), some (.ref aa.p), some (.ref aa.wd), o4, o5], ?_, ?_⟩
      · rintro σ' H' ⟨y, h1, h2, o4, o5, h3⟩
        exact ⟨y.ds.length, h1, y, rfl, h2, by omega, o4, o5, h3⟩
      · refine ⟨_, rfl, _, rfl, ?_⟩
        refine nil_ ?_
        refine A5.back (by omega) fun y6 H6 A6 d6 _ => ⟨_, rfl, iteF ⟨y6, by rw [d6, List.length_tail]; omega, A6, _, _, rfl⟩⟩
    · refine ⟨_, rfl, _, rfl, ?_⟩
      refine nil_ ?_
      refine A5.shown n1 n6 fun H6 A6 => ⟨_, rfl, iteF ?_⟩
      refine ⟨_, rfl, _, rfl, ?_⟩
      refine nil_ ?_
      refine A6.back (by omega) fun y7 H7 A7 d7 _ => ⟨_, rfl, iteF ?_⟩
      refine ⟨_, rfl, _, rfl, lz 1 rfl, fun t8 h8 => ?_⟩
      refine nil_ ?_
      exact (A7.same (same_new h8 (.tup [.int 0]))).put n1 n6 (dr := [0]) upd_same (by simp) (by simp) z0 (by rw [d7, List.length_tail]; omega) fun y14 H14 A14 _ _ _ => k H14 A14.tb
end
end My

set_option Elab.async false
set_option linter.all false
set_option maxRecDepth 100000
set_option maxHeartbeats 4000000
namespace My
open PySem L2 MA
theorem cons_ {ta : TE} {tb : TA} {σ : St} {H : Hp} {R : List V → Hp → Prop} (h : ta σ H fun x H1 => tb σ H1 fun xs H2 => R (x :: xs) H2) : tCons ta tb σ H R := h
theorem tup_ {t : TA} {σ : St} {H : Hp} {Q : VK} (h : t σ H fun xs H1 => xs.length ≤ sizeLine ∧ ∀ p, H1 p = none → Q (.ref p) (upd H1 p (.tup xs))) : tTup t σ H Q := h
noncomputable def y0 (n : Nat) : Sx := ⟨[], List.replicate n 0, fun _ => none, 0, 0⟩
/-- one room, made beside what is there -/
structure Rm1 (C : Addr) (H : Hp) (a : Ad) (n : Nat) (t : Addr) (y : Sx) : Prop where
  rw : RW C n H a y
  n1 : 1 ≤ n
  n6 : n ≤ 6
  tp : H t = some (.tup [.ref a.p, .ref a.wd])
theorem Rm1.keep {C : Addr} {H H' : Hp} {a : Ad} {n : Nat} {t : Addr} {y : Sx} (O : Rm1 C H a n t y) (h1 : ∀ b o, H b = some o → b ∈ a.all → H' b = some o) (h2 : ∀ b xs, H b = some (.tup xs) → H' b = some (.tup xs)) : Rm1 C H' a n t y := ⟨O.rw.keep h1 h2, O.n1, O.n6, h2 _ _ O.tp⟩
/-- both rooms -/
structure Rm2 (C D0 D1 D2 D3 : Addr) (H : Hp) (p rl : Addr) (m : Nat) (a b : Ad) (n k : Nat) (t u : Addr) (y z : Sx) : Prop where
  oa : Rm1 C H a n t y
  ob : Rm1 C H b k u z
  ds : ∀ c ∈ a.all, c ∉ b.all
  pw : PenW (rl :: (a.all ++ b.all)) H p m
  tb : Tabs D0 D1 D2 D3 H
  hrl : H rl = some (.lst [.ref t, .ref u])
  ra : rl ∉ a.all
  rb : rl ∉ b.all
theorem Rm2.swap {C D0 D1 D2 D3 : Addr} {H : Hp} {p rl : Addr} {m : Nat} {a b : Ad} {n k : Nat} {t u : Addr} {y z : Sx} (T : Rm2 C D0 D1 D2 D3 H p rl m a b n k t u y z) {y' : Sx} {H' : Hp} {m' : Nat} (R' : RW C n H' a y') (pw : PenW (rl :: (a.all ++ b.all)) H' p m') (o : Off (p :: a.all) H H') : Rm2 C D0 D1 D2 D3 H' p rl m' a b n k t u y' z := by
  have pn := T.pw.nl
  have tt : ∀ c xs, H c = some (.tup xs) → H' c = some (.tup xs) := fun c xs e => o _ _ e (by
    rw [List.mem_cons, not_or]
    exact ⟨T.pw.pen.nep e, T.oa.rw.out e (fun _ _ _ z => nomatch z) (fun _ z => nomatch z) (fun _ z => nomatch z)⟩)
  refine ⟨⟨R', T.oa.n1, T.oa.n6, tt _ _ T.oa.tp⟩, T.ob.keep (fun c o' e hc => o _ _ e ?_) tt, T.ds, pw, T.tb.keep fun c x e => o _ _ e ?_, o _ _ T.hrl ?_, T.ra, T.rb⟩
  · rw [List.mem_cons, not_or]
    exact ⟨fun z => pn (by rw [← z]; simp [hc]), fun z => T.ds c z hc⟩
  · rw [List.mem_cons, not_or]
    exact ⟨T.pw.pen.nep e, T.oa.rw.out e (fun _ _ _ z => nomatch z) (fun _ z => nomatch z) (fun _ z => nomatch z)⟩
  · rw [List.mem_cons, not_or]
    exact ⟨fun z => pn (by rw [← z]; simp), T.ra⟩
theorem Rm2.swap2 {C D0 D1 D2 D3 : Addr} {H : Hp} {p rl : Addr} {m : Nat} {a b : Ad} {n k : Nat} {t u : Addr} {y z : Sx} (T : Rm2 C D0 D1 D2 D3 H p rl m a b n k t u y z) {z' : Sx} {H' : Hp} {m' : Nat} (R' : RW C k H' b z') (pw : PenW (rl :: (a.all ++ b.all)) H' p m') (o : Off (p :: b.all) H H') : Rm2 C D0 D1 D2 D3 H' p rl m' a b n k t u y z' := by
  have pn := T.pw.nl
  have tt : ∀ c xs, H c = some (.tup xs) → H' c = some (.tup xs) := fun c xs e => o _ _ e (by
    rw [List.mem_cons, not_or]
    exact ⟨T.pw.pen.nep e, T.ob.rw.out e (fun _ _ _ z => nomatch z) (fun _ z => nomatch z) (fun _ z => nomatch z)⟩)
  refine ⟨T.oa.keep (fun c o' e hc => o _ _ e ?_) tt, ⟨R', T.ob.n1, T.ob.n6, tt _ _ T.ob.tp⟩, T.ds, pw, T.tb.keep fun c x e => o _ _ e ?_, o _ _ T.hrl ?_, T.ra, T.rb⟩
  · rw [List.mem_cons, not_or]
    exact ⟨fun z => pn (by rw [← z]; simp [hc]), T.ds c hc⟩
  · rw [List.mem_cons, not_or]
    exact ⟨T.pw.pen.nep e, T.ob.rw.out e (fun _ _ _ z => nomatch z) (fun _ z => nomatch z) (fun _ z => nomatch z)⟩
  · rw [List.mem_cons, not_or]
    exact ⟨fun z => pn (by rw [← z]; simp), T.rb⟩
theorem Rm2.same {C D0 D1 D2 D3 : Addr} {H : Hp} {p rl : Addr} {m : Nat} {a b : Ad} {n k : Nat} {t u : Addr} {y z : Sx} (T : Rm2 C D0 D1 D2 D3 H p rl m a b n k t u y z) {H' : Hp} (s : Same H H') : Rm2 C D0 D1 D2 D3 H' p rl m a b n k t u y z := T.swap (T.oa.rw.same s) (T.pw.same s) (Off.of s)
theorem Rm2.draw {C D0 D1 D2 D3 : Addr} {H : Hp} {p rl : Addr} {m : Nat} {a b : Ad} {n k : Nat} {t u : Addr} {y z : Sx} (T : Rm2 C D0 D1 D2 D3 H p rl m a b n k t u y z) {H' : Hp} {m' : Nat} (x : SameX p H H') (q : Pen H' p m') : Rm2 C D0 D1 D2 D3 H' p rl m' a b n k t u y z := T.swap (T.oa.rw.pen T.pw (fun c hc => by simp [hc]) x) (T.pw.draw x q) (sx_off x)
theorem seqJ3 {t u v : TS} {D : Ends} {σ : St} {H : Hp} (C : St → Hp → Prop) (main : ∀ R : St → Hp → Prop, (∀ σ' h, C σ' h → R σ' h) → t { D with nx := u { D with nx := R } } σ H) (key : ∀ σ' h, C σ' h → v D σ' h) : tSeq t (tSeq u v) D σ H := main _ key
theorem RW.mem_some {C : Addr} {n : Nat} {H : Hp} {a : Ad} {x : Sx} (R : RW C n H a x) : ∀ c ∈ a.all, ∃ o, H c = some o := by
  obtain ⟨⟨⟨kvs, dv, ⟨⟨dx, e1⟩, e2, e3, e4, e5⟩, De, r⟩, hs, lo⟩, w1, ⟨lk, w2, w3⟩, ⟨pv, w4, w5⟩, low, nd⟩ := R
  intro c hc
  simp only [Ad.all, List.mem_cons, List.not_mem_nil, or_false] at hc
  rcases hc with z | z | z | z | z | z | z <;> subst z <;> exact ⟨_, by assumption⟩
section
variable {P : Program} {w : World} {K : PySem.W.Frag} {mg : Str → Option Value} {base : Heap}
noncomputable def spLaw4 (K : PySem.W.Frag) (D0 D1 D2 D3 : Addr) : Sp := fun vs H Q _ => ∃ (a : Addr) (ns : List Int), vs = [.ref a] ∧ SqL K H a (ns.map V.int) ∧ ns.length ≤ 63 ∧ Tabs D0 D1 D2 D3 H ∧ ∀ H', Tabs D0 D1 D2 D3 H' → Q (.bl true) H'
theorem ok_law {C D0 D1 D2 D3 f : Addr} {fd : FuncData} (R : RmT K mg C) (T : Txt2 mg) (M___init__ : MCal P w K mg base C "__init__" ["self", "n"] 1 (spInit C)) (C_l_pen : Cal P w K mg base "_law_pen" ["_law_script"] 1 (spPen K)) (C_l_draw : Cal P w K mg base "_law_draw" ["_law_pen_here", "_law_many"] 1 spDraw)
    (C_l_put_right : Cal P w K mg base "_law_put_right" ["_law_room", "_law_world", "_law_draw_here"] 8 (spPR C D0 D1 (qLam "emptiest_of") (qLam "_law_put_right"))) (C_l_back_right : Cal P w K mg base "_law_back_right" ["_law_room", "_law_world"] 8 (spBR C D3 (qLam "_law_back_right"))) (C_l_shown_right : Cal P w K mg base "_law_shown_right" ["_law_room", "_law_world"] 3 (spShR C)) (C_l_deed_right : Cal P w K mg base "_law_deed_right" ["_law_pen_here", "_law_room", "_law_world"] 9 (spDR C D0 D1 D2 D3)) (C_l_full_right : Cal P w K mg base "_law_full_right" ["_law_pen_here", "_law_n"] 9 (spFR C D0 D1 D2 D3)) (C_l_long_right : Cal P w K mg base "_law_long_right" ["_law_pen_here", "_law_n"] 9 (spFR C D0 D1 D2 D3))
    (F : Fun K "law" "law" s_law f fd) : FnOk P w K mg base CX0 10 f fd ["_law_script"] (spLaw4 K D0 D1 D2 D3) := by
  have S := sc_law
  have CA := R.ca
  refine F.ok sc_law (fun vs H Q E h => ?_) (fun cdv A outer s H vs Q E hr h => ?_)
  · obtain ⟨a, ns, rfl, _⟩ := h; rfl
  obtain ⟨a0, ns, rfl, hS, n63, tb, k⟩ := h
  have hu := hu_of hr
  refine ⟨_, (@pss_cons _ _ _ _ _ (@ps_set _ _ (1) _ _ _ _ (by exact S.nd) (by rfl) (by first | exact Or.inl rfl | exact Or.inr rfl) (@cc _ _ _ _ _ _ _ _ _ _ (by exact C_l_pen) (by exact (hr.mono (by decide))) (@pa_consN _ _ _ _ _ (pv 0) pa_nil (by first|rfl|decide|exact .inl rfl|exact .inr rfl|(intros; rfl))) (by first|rfl|decide|exact .inl rfl|exact .inr rfl|(intros; rfl)) (by first|rfl|decide|exact .inl rfl|exact .inr rfl|(intros; rfl)) (by first|rfl|decide|exact .inl rfl|exact .inr rfl|(intros; rfl)) (by first|rfl|decide|exact .inl rfl|exact .inr rfl|(intros; rfl))) (by first|rfl|decide|exact .inl rfl|exact .inr rfl|(intros; rfl)) (by first|rfl|decide|exact .inl rfl|exact .inr rfl|(intros; rfl))) (@pss_cons _ _ _ _ _ (@ps_set _ _ (2) _ _ _ _ (by exact S.nd) (by rfl) (by first | exact Or.inl rfl | exact Or.inr rfl) (@cc _ _ _ _ _ _ _ _ _ _ (by exact C_l_draw) (by exact (hr.mono (by decide))) (@pa_consN _ _ _ _ _ (pv 1) (@pa_consN _ _ _ _ _ pe_int pa_nil (by first|rfl|decide|exact .inl rfl|exact .inr rfl|(intros; rfl))) (by first|rfl|decide|exact .inl rfl|exact .inr rfl|(intros; rfl))) (by first|rfl|decide|exact .inl rfl|exact .inr rfl|(intros; rfl)) (by first|rfl|decide|exact .inl rfl|exact .inr rfl|(intros; rfl)) (by first|rfl|decide|exact .inl rfl|exact .inr rfl|(intros; rfl)) (by first|rfl|decide|exact .inl rfl|exact .inr rfl|(intros; rfl))) (by first|rfl|decide|exact .inl rfl|exact .inr rfl|(intros; rfl)) (by first|rfl|decide|exact .inl rfl|exact .inr rfl|(intros; rfl))) (@pss_cons _ _ _ _ _ (@ps_set _ _ (3) _ _ _ _ (by exact S.nd) (by rfl) (by first | exact Or.inl rfl | exact Or.inr rfl) (@pe_lst _ _ _ _ pa_nil) (by first|rfl|decide|exact .inl rfl|exact .inr rfl|(intros; rfl)) (by first|rfl|decide|exact .inl rfl|exact .inr rfl|(intros; rfl))) (@pss_cons _ _ _ _ _ (@ps_for _ _ _ _ _ _ _ _ (by exact PassesOwn.never) (by rfl) (@pi_range1 _ _ _ _ _ _ (by rfl) (by exact T.z_range) (@pa_consN _ _ _ _ _ pe_int pa_nil (by first|rfl|decide|exact .inl rfl|exact .inr rfl|(intros; rfl))) (by first|rfl|decide|exact .inl rfl|exact .inr rfl|(intros; rfl))) (@pg_name _ _ (4) _ (by exact S.nd) (by rfl) (by first | exact Or.inl rfl | exact Or.inr rfl) (by first|rfl|decide|exact .inl rfl|exact .inr rfl|(intros; rfl))) (@pss_cons _ _ _ _ _ (@ps_set _ _ (5) _ _ _ _ (by exact S.nd) (by rfl) (by first | exact Or.inl rfl | exact Or.inr rfl) (@pe_op _ _ _ _ _ _ _ _ op_add pe_int (@cc _ _ _ _ _ _ _ _ _ _ (by exact C_l_draw) (by exact (hr.mono (by decide))) (@pa_consN _ _ _ _ _ (pv 1) (@pa_consN _ _ _ _ _ pe_int pa_nil (by first|rfl|decide|exact .inl rfl|exact .inr rfl|(intros; rfl))) (by first|rfl|decide|exact .inl rfl|exact .inr rfl|(intros; rfl))) (by first|rfl|decide|exact .inl rfl|exact .inr rfl|(intros; rfl)) (by first|rfl|decide|exact .inl rfl|exact .inr rfl|(intros; rfl)) (by first|rfl|decide|exact .inl rfl|exact .inr rfl|(intros; rfl)) (by first|rfl|decide|exact .inl rfl|exact .inr rfl|(intros; rfl)))) (by first|rfl|decide|exact .inl rfl|exact .inr rfl|(intros; rfl)) (by first|rfl|decide|exact .inl rfl|exact .inr rfl|(intros; rfl))) (@pss_one _ _ _ (@ps_expr _ _ _ _ (@pe_bm _ _ _ _ _ _ _ _ _ _ _ _ (by exact PySem.F.plainAttrs_list) (by exact PySem.F.slot_list_append) (by exact PySem.F.type_list_append) mt_append (pv 3) (@pa_consN _ _ _ _ _ (@pe_tup _ _ _ _ _ (@pa_consN _ _ _ _ _ (@pmk _ _ _ _ _ _ _ _ _ _ _ (by exact M___init__) (by exact CA) (by exact (hr.mono (by decide))) (@pa_consN _ _ _ _ _ (pv 5) pa_nil (by first|rfl|decide|exact .inl rfl|exact .inr rfl|(intros; rfl))) (by first|rfl|decide|exact .inl rfl|exact .inr rfl|(intros; rfl)) (by first|rfl|decide|exact .inl rfl|exact .inr rfl|(intros; rfl)) (by first|rfl|decide|exact .inl rfl|exact .inr rfl|(intros; rfl)) (by first|rfl|decide|exact .inl rfl|exact .inr rfl|(intros; rfl))) (@pa_consN _ _ _ _ _ (@pe_disp _ _ _ _ _ (@pps_cons _ _ _ _ _ _ _ _ _ pe_str (pv 5) (@pps_cons _ _ _ _ _ _ _ _ _ pe_str pe_dnewK (@pps_cons _ _ _ _ _ _ _ _ _ pe_str pe_int (@pps_cons _ _ _ _ _ _ _ _ _ pe_str (@pe_lst _ _ _ _ pa_nil) pps_nil)))) (by rfl) (by rfl) (by simp) (by decide)) pa_nil (by first|rfl|decide|exact .inl rfl|exact .inr rfl|(intros; rfl))) (by first|rfl|decide|exact .inl rfl|exact .inr rfl|(intros; rfl)))) pa_nil (by first|rfl|decide|exact .inl rfl|exact .inr rfl|(intros; rfl))) (by first|rfl|decide|exact .inl rfl|exact .inr rfl|(intros; rfl)) (by first|rfl|decide|exact .inl rfl|exact .inr rfl|(intros; rfl)) (by first|rfl|decide|exact .inl rfl|exact .inr rfl|(intros; rfl)) (by first|rfl|decide|exact .inl rfl|exact .inr rfl|(intros; rfl)) (by first|rfl|decide|exact .inl rfl|exact .inr rfl|(intros; rfl))) (by first|rfl|decide|exact .inl rfl|exact .inr rfl|(intros; rfl))))) (by first|rfl|decide|exact .inl rfl|exact .inr rfl|(intros; rfl))) (@pss_cons _ _ _ _ _ (@ps_for _ _ _ _ _ _ _ _ (by exact PassesOwn.never) (by rfl) (@pi_range1 _ _ _ _ _ _ (by rfl) (by exact T.z_range) (@pa_consN _ _ _ _ _ pe_int pa_nil (by first|rfl|decide|exact .inl rfl|exact .inr rfl|(intros; rfl))) (by first|rfl|decide|exact .inl rfl|exact .inr rfl|(intros; rfl))) (@pg_name _ _ (4) _ (by exact S.nd) (by rfl) (by first | exact Or.inl rfl | exact Or.inr rfl) (by first|rfl|decide|exact .inl rfl|exact .inr rfl|(intros; rfl))) (@pss_cons _ _ _ _ _ (@ps_asg _ _ _ _ _ _ (@pe_ix _ _ _ _ _ _ _ ix_list (pv 3) (@pe_callTy _ _ _ _ _ _ _ _ _ call_int1 (by rfl) (by exact T.z_int) (by exact bt_int) (@pa_consN _ _ _ _ _ (@pe_cmpR _ _ _ _ _ _ _ _ op_eq (@cc _ _ _ _ _ _ _ _ _ _ (by exact C_l_draw) (by exact (hr.mono (by decide))) (@pa_consN _ _ _ _ _ (pv 1) (@pa_consN _ _ _ _ _ pe_int pa_nil (by first|rfl|decide|exact .inl rfl|exact .inr rfl|(intros; rfl))) (by first|rfl|decide|exact .inl rfl|exact .inr rfl|(intros; rfl))) (by first|rfl|decide|exact .inl rfl|exact .inr rfl|(intros; rfl)) (by first|rfl|decide|exact .inl rfl|exact .inr rfl|(intros; rfl)) (by first|rfl|decide|exact .inl rfl|exact .inr rfl|(intros; rfl)) (by first|rfl|decide|exact .inl rfl|exact .inr rfl|(intros; rfl))) pe_int (by exact (nomark _))) pa_nil (by first|rfl|decide|exact .inl rfl|exact .inr rfl|(intros; rfl))) (by first|rfl|decide|exact .inl rfl|exact .inr rfl|(intros; rfl)) (by first|rfl|decide|exact .inl rfl|exact .inr rfl|(intros; rfl)) (by first|rfl|decide|exact .inl rfl|exact .inr rfl|(intros; rfl)) (by first|rfl|decide|exact .inl rfl|exact .inr rfl|(intros; rfl))) (by exact (fun _ _ => rfl))) (@pg_tup _ _ _ _ _ _ (by rfl) (@pgs_cons _ _ _ _ _ (@pg_name _ _ (6) _ (by exact S.nd) (by rfl) (by first | exact Or.inl rfl | exact Or.inr rfl) (by first|rfl|decide|exact .inl rfl|exact .inr rfl|(intros; rfl))) (@pgs_cons _ _ _ _ _ (@pg_name _ _ (7) _ (by exact S.nd) (by rfl) (by first | exact Or.inl rfl | exact Or.inr rfl) (by first|rfl|decide|exact .inl rfl|exact .inr rfl|(intros; rfl))) pgs_nil (by first|rfl|decide|exact .inl rfl|exact .inr rfl|(intros; rfl))) (by first|rfl|decide|exact .inl rfl|exact .inr rfl|(intros; rfl))) (by first|rfl|decide|exact .inl rfl|exact .inr rfl|(intros; rfl)) (by first|rfl|decide|exact .inl rfl|exact .inr rfl|(intros; rfl))) (by first|rfl|decide|exact .inl rfl|exact .inr rfl|(intros; rfl)) (by first|rfl|decide|exact .inl rfl|exact .inr rfl|(intros; rfl)) (by first|rfl|decide|exact .inl rfl|exact .inr rfl|(intros; rfl))) (@pss_cons _ _ _ _ _ (@ps_if _ _ _ _ _ _ _ _ (@pt_not _ _ _ _ (@pt_val _ _ _ (@cc _ _ _ _ _ _ _ _ _ _ (by exact C_l_deed_right) (by exact (hr.mono (by decide))) (@pa_consN _ _ _ _ _ (pv 1) (@pa_consN _ _ _ _ _ (pv 6) (@pa_consN _ _ _ _ _ (pv 7) pa_nil (by first|rfl|decide|exact .inl rfl|exact .inr rfl|(intros; rfl))) (by first|rfl|decide|exact .inl rfl|exact .inr rfl|(intros; rfl))) (by first|rfl|decide|exact .inl rfl|exact .inr rfl|(intros; rfl))) (by first|rfl|decide|exact .inl rfl|exact .inr rfl|(intros; rfl)) (by first|rfl|decide|exact .inl rfl|exact .inr rfl|(intros; rfl)) (by first|rfl|decide|exact .inl rfl|exact .inr rfl|(intros; rfl)) (by first|rfl|decide|exact .inl rfl|exact .inr rfl|(intros; rfl))) (by first|rfl|decide|exact .inl rfl|exact .inr rfl|(intros; rfl)))) (@pss_one _ _ _ (@ps_ret _ _ _ _ pe_bl)) pss_nil) (@pss_one _ _ _ (@ps_if _ _ _ _ _ _ _ _ (@pt_not _ _ _ _ (@pt_val _ _ _ (@pe_callB _ _ _ _ _ _ _ _ _ (call_all (by rfl)) (by rfl) (by exact T.z_all) (by exact bt_all) (@pa_consN _ _ _ _ _ (@pe_comp _ _ _ _ _ _ _ _ _ _ _ _ _ (by rfl) (by exact (fun _ _ h => h)) (by decide +kernel) (by rfl) (by decide +kernel) (by exact hfr_of rfl) (by exact Sees.frees ["_law_one", "_law_other"] [] fr_nil) (@pi_list _ _ _ _ (pv 3)) (fun _ _ _ _ _ => @pg_tup0 _ _ _ _ _ (2) (by rfl) (@pgs_cons _ _ _ _ _ (@pg_name _ _ (0) _ (by exact (show (["_law_one", "_law_other"] : List Str).Nodup by decide +kernel)) (by rfl) (by first | exact Or.inl rfl | exact Or.inr rfl) (by first|rfl|decide|exact .inl rfl|exact .inr rfl|(intros; rfl))) (@pgs_cons _ _ _ _ _ (@pg_name _ _ (1) _ (by exact (show (["_law_one", "_law_other"] : List Str).Nodup by decide +kernel)) (by rfl) (by first | exact Or.inl rfl | exact Or.inr rfl) (by first|rfl|decide|exact .inl rfl|exact .inr rfl|(intros; rfl))) pgs_nil (by first|rfl|decide|exact .inl rfl|exact .inr rfl|(intros; rfl))) (by first|rfl|decide|exact .inl rfl|exact .inr rfl|(intros; rfl))) (by first|rfl|decide|exact .inl rfl|exact .inr rfl|(intros; rfl)) (by first|rfl|decide|exact .inl rfl|exact .inr rfl|(intros; rfl))) (fun _ _ _ _ _ => pts_nil) (fun _ _ _ _ _ => (@cc _ _ _ _ _ _ _ _ _ _ (by exact C_l_shown_right) (by exact (hr.mono (by decide))) (@pa_consN _ _ _ _ _ (pv 0) (@pa_consN _ _ _ _ _ (pv 1) pa_nil (by first|rfl|decide|exact .inl rfl|exact .inr rfl|(intros; rfl))) (by first|rfl|decide|exact .inl rfl|exact .inr rfl|(intros; rfl))) (by first|rfl|decide|exact .inl rfl|exact .inr rfl|(intros; rfl)) (by first|rfl|decide|exact .inl rfl|exact .inr rfl|(intros; rfl)) (by first|rfl|decide|exact .inl rfl|exact .inr rfl|(intros; rfl)) (by first|rfl|decide|exact .inl rfl|exact .inr rfl|(intros; rfl)))) (by first|rfl|decide|exact .inl rfl|exact .inr rfl|(intros; rfl))) pa_nil (by first|rfl|decide|exact .inl rfl|exact .inr rfl|(intros; rfl))) (by first|rfl|decide|exact .inl rfl|exact .inr rfl|(intros; rfl)) (by first|rfl|decide|exact .inl rfl|exact .inr rfl|(intros; rfl)) (by first|rfl|decide|exact .inl rfl|exact .inr rfl|(intros; rfl)) (by first|rfl|decide|exact .inl rfl|exact .inr rfl|(intros; rfl))) (by first|rfl|decide|exact .inl rfl|exact .inr rfl|(intros; rfl)))) (@pss_one _ _ _ (@ps_ret _ _ _ _ pe_bl)) pss_nil)))) (by first|rfl|decide|exact .inl rfl|exact .inr rfl|(intros; rfl))) (@pss_cons _ _ _ _ _ (@ps_for _ _ _ _ _ _ _ _ (by exact PassesOwn.never) (by rfl) (@pi_range1 _ _ _ _ _ _ (by rfl) (by exact T.z_range) (@pa_consN _ _ _ _ _ (@pe_op _ _ _ _ _ _ _ _ op_add (@pe_callB _ _ _ _ _ _ _ _ _ call_len_seq (by rfl) (by exact T.z_len) (by exact bt_len) (@pa_consN _ _ _ _ _ (@pe_dget _ _ _ _ _ _ (by exact hu) (@pe_ix _ _ _ _ _ _ _ ix_tup (@pe_ix _ _ _ _ _ _ _ ix_list (pv 3) pe_int (by exact (fun _ _ => rfl))) pe_int (by exact (fun _ _ => rfl))) pe_str (by exact (fun _ _ => rfl))) pa_nil (by first|rfl|decide|exact .inl rfl|exact .inr rfl|(intros; rfl))) (by first|rfl|decide|exact .inl rfl|exact .inr rfl|(intros; rfl)) (by first|rfl|decide|exact .inl rfl|exact .inr rfl|(intros; rfl)) (by first|rfl|decide|exact .inl rfl|exact .inr rfl|(intros; rfl)) (by first|rfl|decide|exact .inl rfl|exact .inr rfl|(intros; rfl))) pe_int) pa_nil (by first|rfl|decide|exact .inl rfl|exact .inr rfl|(intros; rfl))) (by first|rfl|decide|exact .inl rfl|exact .inr rfl|(intros; rfl))) (@pg_name _ _ (4) _ (by exact S.nd) (by rfl) (by first | exact Or.inl rfl | exact Or.inr rfl) (by first|rfl|decide|exact .inl rfl|exact .inr rfl|(intros; rfl))) (@pss_one _ _ _ (@ps_if _ _ _ _ _ _ _ _ (@pt_not _ _ _ _ (@pt_val _ _ _ (@cc _ _ _ _ _ _ _ _ _ _ (by exact C_l_back_right) (by exact (hr.mono (by decide))) (@pa_consN _ _ _ _ _ (@pe_ix _ _ _ _ _ _ _ ix_tup (@pe_ix _ _ _ _ _ _ _ ix_list (pv 3) pe_int (by exact (fun _ _ => rfl))) pe_int (by exact (fun _ _ => rfl))) (@pa_consN _ _ _ _ _ (@pe_ix _ _ _ _ _ _ _ ix_tup (@pe_ix _ _ _ _ _ _ _ ix_list (pv 3) pe_int (by exact (fun _ _ => rfl))) pe_int (by exact (fun _ _ => rfl))) pa_nil (by first|rfl|decide|exact .inl rfl|exact .inr rfl|(intros; rfl))) (by first|rfl|decide|exact .inl rfl|exact .inr rfl|(intros; rfl))) (by first|rfl|decide|exact .inl rfl|exact .inr rfl|(intros; rfl)) (by first|rfl|decide|exact .inl rfl|exact .inr rfl|(intros; rfl)) (by first|rfl|decide|exact .inl rfl|exact .inr rfl|(intros; rfl)) (by first|rfl|decide|exact .inl rfl|exact .inr rfl|(intros; rfl))) (by first|rfl|decide|exact .inl rfl|exact .inr rfl|(intros; rfl)))) (@pss_one _ _ _ (@ps_ret _ _ _ _ pe_bl)) pss_nil)) (by first|rfl|decide|exact .inl rfl|exact .inr rfl|(intros; rfl))) (@pss_cons _ _ _ _ _ (@ps_if _ _ _ _ _ _ _ _ (@pt_not _ _ _ _ (@pt_val _ _ _ (@cc _ _ _ _ _ _ _ _ _ _ (by exact C_l_put_right) (by exact (hr.mono (by decide))) (@pa_consN _ _ _ _ _ (@pe_ix _ _ _ _ _ _ _ ix_tup (@pe_ix _ _ _ _ _ _ _ ix_list (pv 3) pe_int (by exact (fun _ _ => rfl))) pe_int (by exact (fun _ _ => rfl))) (@pa_consN _ _ _ _ _ (@pe_ix _ _ _ _ _ _ _ ix_tup (@pe_ix _ _ _ _ _ _ _ ix_list (pv 3) pe_int (by exact (fun _ _ => rfl))) pe_int (by exact (fun _ _ => rfl))) (@pa_consN _ _ _ _ _ (@pe_tup _ _ _ _ _ (@pa_consN _ _ _ _ _ pe_int pa_nil (by first|rfl|decide|exact .inl rfl|exact .inr rfl|(intros; rfl)))) pa_nil (by first|rfl|decide|exact .inl rfl|exact .inr rfl|(intros; rfl))) (by first|rfl|decide|exact .inl rfl|exact .inr rfl|(intros; rfl))) (by first|rfl|decide|exact .inl rfl|exact .inr rfl|(intros; rfl))) (by first|rfl|decide|exact .inl rfl|exact .inr rfl|(intros; rfl)) (by first|rfl|decide|exact .inl rfl|exact .inr rfl|(intros; rfl)) (by first|rfl|decide|exact .inl rfl|exact .inr rfl|(intros; rfl)) (by first|rfl|decide|exact .inl rfl|exact .inr rfl|(intros; rfl))) (by first|rfl|decide|exact .inl rfl|exact .inr rfl|(intros; rfl)))) (@pss_one _ _ _ (@ps_ret _ _ _ _ pe_bl)) pss_nil) (@pss_cons _ _ _ _ _ (@ps_if _ _ _ _ _ _ _ _ (@pt_cmpR _ _ _ _ _ _ _ _ op_eq (pv 2) pe_int (by exact (nomark _))) (@pss_one _ _ _ (@ps_ret _ _ _ _ (@cc _ _ _ _ _ _ _ _ _ _ (by exact C_l_long_right) (by exact (hr.mono (by decide))) (@pa_consN _ _ _ _ _ (pv 1) (@pa_consN _ _ _ _ _ (@pe_op _ _ _ _ _ _ _ _ op_add pe_int (@cc _ _ _ _ _ _ _ _ _ _ (by exact C_l_draw) (by exact (hr.mono (by decide))) (@pa_consN _ _ _ _ _ (pv 1) (@pa_consN _ _ _ _ _ pe_int pa_nil (by first|rfl|decide|exact .inl rfl|exact .inr rfl|(intros; rfl))) (by first|rfl|decide|exact .inl rfl|exact .inr rfl|(intros; rfl))) (by first|rfl|decide|exact .inl rfl|exact .inr rfl|(intros; rfl)) (by first|rfl|decide|exact .inl rfl|exact .inr rfl|(intros; rfl)) (by first|rfl|decide|exact .inl rfl|exact .inr rfl|(intros; rfl)) (by first|rfl|decide|exact .inl rfl|exact .inr rfl|(intros; rfl)))) pa_nil (by first|rfl|decide|exact .inl rfl|exact .inr rfl|(intros; rfl))) (by first|rfl|decide|exact .inl rfl|exact .inr rfl|(intros; rfl))) (by first|rfl|decide|exact .inl rfl|exact .inr rfl|(intros; rfl)) (by first|rfl|decide|exact .inl rfl|exact .inr rfl|(intros; rfl)) (by first|rfl|decide|exact .inl rfl|exact .inr rfl|(intros; rfl)) (by first|rfl|decide|exact .inl rfl|exact .inr rfl|(intros; rfl))))) pss_nil) (@pss_one _ _ _ (@ps_ret _ _ _ _ (@pe_or _ _ _ _ _ _ _ (@pe_cmpR _ _ _ _ _ _ _ _ op_gt (pv 2) pe_int (by exact (nomark _))) (@pe_one _ _ _ _ _ (@cc _ _ _ _ _ _ _ _ _ _ (by exact C_l_full_right) (by exact (hr.mono (by decide))) (@pa_consN _ _ _ _ _ (pv 1) (@pa_consN _ _ _ _ _ (@pe_op _ _ _ _ _ _ _ _ op_add pe_int (@cc _ _ _ _ _ _ _ _ _ _ (by exact C_l_draw) (by exact (hr.mono (by decide))) (@pa_consN _ _ _ _ _ (pv 1) (@pa_consN _ _ _ _ _ pe_int pa_nil (by first|rfl|decide|exact .inl rfl|exact .inr rfl|(intros; rfl))) (by first|rfl|decide|exact .inl rfl|exact .inr rfl|(intros; rfl))) (by first|rfl|decide|exact .inl rfl|exact .inr rfl|(intros; rfl)) (by first|rfl|decide|exact .inl rfl|exact .inr rfl|(intros; rfl)) (by first|rfl|decide|exact .inl rfl|exact .inr rfl|(intros; rfl)) (by first|rfl|decide|exact .inl rfl|exact .inr rfl|(intros; rfl)))) pa_nil (by first|rfl|decide|exact .inl rfl|exact .inr rfl|(intros; rfl))) (by first|rfl|decide|exact .inl rfl|exact .inr rfl|(intros; rfl))) (by first|rfl|decide|exact .inl rfl|exact .inr rfl|(intros; rfl)) (by first|rfl|decide|exact .inl rfl|exact .inr rfl|(intros; rfl)) (by first|rfl|decide|exact .inl rfl|exact .inr rfl|(intros; rfl)) (by first|rfl|decide|exact .inl rfl|exact .inr rfl|(intros; rfl))))))))))))))), ?_⟩
  refine ⟨_, rfl, a0, ns, rfl, hS, fun p H1 s1 pen1 => ?_⟩
  refine ⟨_, rfl, p, 12, 0, rfl, pen1, by decide, by decide, by decide, fun full H2 fl0 fl1 p2 x2 => ?_⟩
  have tb2 : Tabs D0 D1 D2 D3 H2 := tb.keep fun b z e => pen1.keep x2 (s1 _ _ e)
  refine ⟨lz 0 rfl, fun rl hrl => ?_⟩
  have s3 := same_new hrl (.lst [])
  have f3 : (upd H2 rl (.lst [])) rl = some (.lst []) := upd_same
  have pw3 : PenW [rl] (upd H2 rl (.lst [])) p 1 := by
    obtain ⟨c, ns, a, l, h1, h2, h3, h4⟩ := p2
    exact ⟨c, ns, a, l, s3 _ _ h1, s3 _ _ h2, h3, h4, by simpa using ne_of_none h2 hrl, by simpa using ne_of_none h1 hrl⟩
  have tb3 : Tabs D0 D1 D2 D3 (upd H2 rl (.lst [])) := tb2.keep fun b z e => s3 _ _ e
  generalize upd H2 rl (.lst []) = H3 at f3 pw3 tb3
  clear s3 hrl tb2 p2 x2 tb pen1 s1
  refine ⟨2, rfl, by decide, by decide, for_Y (yields_rng (lo := 0) (n := 2)) (fun i σ H' => (∃ o4 o5 o6 o7, σ = [some (.ref a0), some (.ref p), some (.int full), some (.ref rl), o4, o5, o6, o7]) ∧ Tabs D0 D1 D2 D3 H' ∧ ((i = 0 ∧ H' rl = some (.lst []) ∧ PenW [rl] H' p 1) ∨ (i = 1 ∧ ∃ a n t, Rm1 C H' a n t (y0 n) ∧ H' rl = some (.lst [.ref t]) ∧ PenW (rl :: a.all) H' p 2 ∧ rl ∉ a.all) ∨ (i = 2 ∧ ∃ a b n k t u, Rm2 C D0 D1 D2 D3 H' p rl 3 a b n k t u (y0 n) (y0 k)))) ?_ ?_ ?_ ?_⟩
  · exact ⟨⟨_, _, _, _, rfl⟩, tb3, .inl ⟨rfl, f3, pw3⟩⟩
  · intros; trivial
  · rintro i v σ H5' H5 hi ⟨⟨o4, o5, o6, o7, rfl⟩, tb5, cs⟩ ⟨rfl, rfl⟩
    obtain ⟨xs, m, hrl5, xl, pw5, m2⟩ : ∃ (xs : List V) (m : Nat), H5 rl = some (.lst xs) ∧ xs.length ≤ 1 ∧ PenW [rl] H5 p m ∧ m ≤ i + 1 := by
      rcases cs with ⟨_, h1, h2⟩ | ⟨_, a, n, t, h1, h2, h3, h4⟩ | ⟨e, _⟩
      · exact ⟨_, _, h1, by simp, h2, by omega⟩
      · refine ⟨_, 2, h2, by simp, ?_, by omega⟩
        obtain ⟨c, ns, x, l, g1, g2, g3, g4, g5, g6⟩ := h3
        exact ⟨c, ns, x, l, g1, g2, g3, g4, fun z => g5 (by simp at z; simp [z]), fun z => g6 (by simp at z; simp [z])⟩
      · omega
    refine gN_ ⟨_, rfl, p, 6, m, rfl, pw5.pen, by omega, by decide, by decide, fun r H6 r0 r1 p6 x6 => ⟨_, _, rfl, rfl, ?_⟩⟩
    obtain ⟨n, hn⟩ : ∃ n : Nat, 1 + r = (n : Int) := ⟨(1 + r).toNat, by omega⟩
    have hrl6 : H6 rl = some (.lst xs) := pw5.pen.keep x6 hrl5
    have pw6 := pw5.draw x6 p6
    have tb6 : Tabs D0 D1 D2 D3 H6 := tb5.keep fun b z e => pw5.pen.keep x6 e
    refine ⟨_, rfl, .inl ⟨rfl, _, SqL.of hrl6⟩, ?_⟩
    refine cons_ (tup_ (cons_ (mk_read (n := n) (by omega) (by omega) (fun Q' h => ⟨_, rfl, by show Q' [V.int (1 + r)] _; rw [hn]; exact h⟩) fun ap al ad aq H7 s7 np nl nd nq RA => ?_)))
    refine cons_ (disp_read (n := n) (fun H1 Q' h => ⟨_, rfl, by show Q' (V.int (1 + r)) _; rw [hn]; exact h⟩) fun wd ly pa H8 s8 nw ny npa hw hl hp => ?_)
    refine nil_ ⟨lz 2 rfl, fun t ht => nil_ ?_⟩
    obtain ⟨RW8, out⟩ := mk_both s7 np nl nd nq RA s8 nw ny npa hw hl hp
    have s68 := s7.trans s8
    have s9 := same_new ht (.tup [.ref ap, .ref wd])
    have t9 : (upd H8 t (.tup [.ref ap, .ref wd])) t = some (.tup [.ref ap, .ref wd]) := upd_same
    have s69 := s68.trans s9
    have RW9 := RW8.same s9
    generalize upd H8 t (.tup [.ref ap, .ref wd]) = H9 at s9 t9 s69 RW9
    refine ⟨rl, xs, .ref t, rfl, rfl, s69 _ _ hrl6, (by rw [sizeLine_eq]; omega), ?_⟩
    generalize hA : (⟨ap, al, ad, aq, wd, ly, pa⟩ : Ad) = aa at *
    obtain ⟨eap, ewd⟩ : ap = aa.p ∧ wd = aa.wd := by subst hA; exact ⟨rfl, rfl⟩
    subst eap ewd
    have k10 : ∀ b o, H9 b = some o → b ≠ rl → (upd H9 rl (.lst (xs ++ [.ref t]))) b = some o := fun b o e h => by rw [upd_ne h]; exact e
    have f10 : (upd H9 rl (.lst (xs ++ [.ref t]))) rl = some (.lst (xs ++ [.ref t])) := upd_same
    have rlA : rl ∉ aa.all := out _ _ hrl6
    have hrl9 := s69 _ _ hrl6
    have tp10 : ∀ b ys, H9 b = some (.tup ys) → (upd H9 rl (.lst (xs ++ [.ref t]))) b = some (.tup ys) := fun b ys e => k10 _ _ e (ne_of e hrl9 (by intro z; cases z))
    have O10 : Rm1 C (upd H9 rl (.lst (xs ++ [.ref t]))) aa n t (y0 n) := ⟨RW9.keep (fun b o e hb => k10 _ _ e fun z => rlA (z ▸ hb)) tp10, by omega, by omega, tp10 _ _ t9⟩
    have tb10 : Tabs D0 D1 D2 D3 (upd H9 rl (.lst (xs ++ [.ref t]))) := tb6.keep fun b z e => k10 _ _ (s69 _ _ e) (ne_of e hrl6 (by intro z; cases z))
    generalize upd H9 rl (.lst (xs ++ [.ref t])) = H10 at k10 f10 tp10 O10 tb10
    have pwA : ∀ (L : List Addr), PenW L H6 p (m + 1) → rl ∈ L → PenW (L ++ aa.all) H10 p (m + 1) := fun L g hL => by
      obtain ⟨c, ns, x, l, g1, g2, g3, g4, g5, g6⟩ := g
      refine ⟨c, ns, x, l, k10 _ _ (s69 _ _ g1) (fun z => g6 (z ▸ hL)), k10 _ _ (s69 _ _ g2) (fun z => g5 (z ▸ hL)), g3, g4, fun z => ?_, fun z => ?_⟩
      · rcases List.mem_append.mp z with z | z
        · exact g5 z
        · exact out _ _ g2 z
      · rcases List.mem_append.mp z with z | z
        · exact g6 z
        · exact out _ _ g1 z
    refine ⟨⟨_, _, _, _, rfl⟩, tb10, ?_⟩
    rcases cs with ⟨rfl, h1, h2⟩ | ⟨rfl, a, n', t', h1, h2, h3, h4⟩ | ⟨e, _⟩
    · rw [hrl5] at h1
      cases h1
      refine .inr (.inl ⟨rfl, aa, n, t, O10, f10, ?_, rlA⟩)
      exact (pwA [rl] pw6 (by simp)).mono (by omega)
    · rw [hrl5] at h2
      cases h2
      refine .inr (.inr ⟨rfl, a, aa, n', n, t', t, ?_⟩)
      have pw6' := h3.draw x6 p6
      have R6 := h1.rw.pen h3 (fun c hc => by simp [hc]) x6
      have O6 : Rm1 C H6 a n' t' (y0 n') := ⟨R6, h1.n1, h1.n6, h3.pen.keep x6 h1.tp⟩
      refine ⟨O6.keep (fun c o e hc => k10 _ _ (s69 _ _ e) fun z => h4 (z ▸ hc)) (fun c ys e => tp10 _ _ (s69 _ _ e)), O10, fun c hc => ?_, ?_, tb10, f10, h4, rlA⟩
      · obtain ⟨o, e⟩ := R6.mem_some c hc
        exact out _ _ e
      · exact (pwA _ pw6' (by simp)).mono (by omega)
    · omega
  · rintro σ H4 ⟨⟨o4, o5, o6, o7, rfl⟩, _, cs⟩
    rcases cs with ⟨e, _⟩ | ⟨e, _⟩ | ⟨_, a, b, n, kk, t, u, T4⟩
    · cases e
    · cases e
    clear f3 pw3 tb3
    refine ⟨30, rfl, by decide, by decide, for_Y (yields_rng (lo := 0) (n := 30)) (fun i σ H' => (∃ o4 o5 o6 o7, σ = [some (.ref a0), some (.ref p), some (.int full), some (.ref rl), o4, o5, o6, o7]) ∧ ∃ y z : Sx, Rm2 C D0 D1 D2 D3 H' p rl (3 + 9 * i) a b n kk t u y z ∧ y.ds.length ≤ i ∧ z.ds.length ≤ i ∧ 0 ≤ y.nb ∧ y.nb ≤ i ∧ 0 ≤ z.nb ∧ z.nb ≤ i) ?_ ?_ ?_ ?_⟩
    · exact ⟨⟨_, _, _, _, rfl⟩, y0 n, y0 kk, T4, Nat.le_refl _, Nat.le_refl _, Int.le_refl _, Int.le_refl _, Int.le_refl _, Int.le_refl _⟩
    · intros; trivial
    · rintro i v σ H5' H5 hi ⟨⟨o4, o5, o6, o7, rfl⟩, y, z, T5, dy, dz, b1, b2, b3, b4⟩ ⟨rfl, rfl⟩
      refine gN_ (seqJ3 (fun σ H' => (∃ o4 o5 o6 o7, σ = [some (.ref a0), some (.ref p), some (.int full), some (.ref rl), o4, o5, o6, o7]) ∧ ∃ y z : Sx, Rm2 C D0 D1 D2 D3 H' p rl (3 + 9 * (i + 1)) a b n kk t u y z ∧ y.ds.length ≤ i + 1 ∧ z.ds.length ≤ i + 1 ∧ 0 ≤ y.nb ∧ y.nb ≤ ((i + 1 : Nat) : Int) ∧ 0 ≤ z.nb ∧ z.nb ≤ ((i + 1 : Nat) : Int)) ?_ ?_)
      · intro Rr key
        refine ⟨_, rfl, _, rfl, p, 3, 3 + 9 * i, rfl, T5.pw.pen, by omega, by decide, by decide, fun r H6 r0 r1 p6 x6 => ⟨rfl, .inr ⟨_, rfl, ?_⟩⟩⟩
        have T6 := T5.draw x6 p6
        by_cases hr0 : r = 0
        · rw [decide_eq_true (show V.int r = V.int 0 by rw [hr0]), if_pos rfl]
          refine ⟨rl, _, _, _, rfl, rfl, SqL.of T6.hrl, rfl, u, _, rfl, SqT.of T6.ob.tp, rfl, _, _, rfl, _, _, rfl, rfl, ?_⟩
          refine ⟨_, rfl, _, rfl, _, rfl, nil_ ?_⟩
          refine ⟨p, _, b, kk, z, 3 + 9 * i + 1, rfl, T6.ob.rw, T6.ob.n1, T6.ob.n6, T6.pw, fun c hc => by simp [hc], by omega, T6.tb, by omega, b3, by omega, fun z' H7 R7 pw7 o7 d7 c1 c2 => ⟨_, rfl, iteF (key _ _ ⟨⟨_, _, _, _, rfl⟩, y, z', T6.swap2 R7 (pw7.mono (by omega)) o7, by omega, by omega, b1, by omega, by omega, by omega⟩)⟩⟩
        · rw [decide_eq_false (show ¬ V.int r = V.int 0 from fun h => hr0 (V.int.inj h)), if_neg (by decide)]
          refine ⟨rl, _, _, _, rfl, rfl, SqL.of T6.hrl, rfl, t, _, rfl, SqT.of T6.oa.tp, rfl, _, _, rfl, _, _, rfl, rfl, ?_⟩
          refine ⟨_, rfl, _, rfl, _, rfl, nil_ ?_⟩
          refine ⟨p, _, a, n, y, 3 + 9 * i + 1, rfl, T6.oa.rw, T6.oa.n1, T6.oa.n6, T6.pw, fun c hc => by simp [hc], by omega, T6.tb, by omega, b1, by omega, fun y' H7 R7 pw7 o7 d7 c1 c2 => ⟨_, rfl, iteF (key _ _ ⟨⟨_, _, _, _, rfl⟩, y', z, T6.swap R7 (pw7.mono (by omega)) o7, by omega, by omega, by omega, by omega, b3, by omega⟩)⟩⟩
      · rintro σ7 H7 ⟨⟨o4, o5, o6, o7, rfl⟩, y7, z7, T7, d71, d72, e1, e2, e3, e4⟩
        refine ⟨_, rfl, rl, rfl, ⟨_, SqL.of T7.hrl⟩, comp_Y (yields_lst (xs := [.ref t, .ref u])) (fun q i ys σ' H' => Same H7 H' ∧ (∃ o1 o2, σ' = [o1, o2]) ∧ ys = (List.replicate i true).map V.bl) (by simp) ?_ ?_ ?_ ?_⟩
        · exact fun q hq => ⟨same_new hq _, ⟨_, _, rfl⟩, rfl⟩
        · rintro q j ys σ' H' hq ⟨s', _⟩
          exact s' _ _ T7.hrl
        · rintro q j ys σ' H' v H'' hq hj hyl ⟨s', ⟨o1, o2, rfl⟩, rfl⟩ hp' ⟨rfl, hv⟩ Q1 Q2 hQ1 hQ2
          have T8 := T7.same s'
          rcases j with _ | _ | j
          · obtain rfl : V.ref t = v := by simpa using hv
            refine ⟨t, _, rfl, T8.oa.tp, rfl, _, _, rfl, _, _, rfl, rfl, ?_⟩
            refine ⟨_, rfl, _, rfl, nil_ ⟨a, n, _, rfl, T8.oa.rw, T8.oa.n1, T8.oa.n6, fun H9 s9 => hQ1 _ _ _ (s9 _ _ hp') ⟨same_updN hq (s'.trans s9) _, ⟨_, _, rfl⟩, ?_⟩⟩⟩
            rw [List.replicate_succ', List.map_append]; rfl
          · obtain rfl : V.ref u = v := by simpa using hv
            refine ⟨u, _, rfl, T8.ob.tp, rfl, _, _, rfl, _, _, rfl, rfl, ?_⟩
            refine ⟨_, rfl, _, rfl, nil_ ⟨b, kk, _, rfl, T8.ob.rw, T8.ob.n1, T8.ob.n6, fun H9 s9 => hQ1 _ _ _ (s9 _ _ hp') ⟨same_updN hq (s'.trans s9) _, ⟨_, _, rfl⟩, ?_⟩⟩⟩
            rw [List.replicate_succ', List.map_append]; rfl
          · exact absurd hj (by simp)
        rintro q ys σ' H8 hq ⟨s8, _, rfl⟩ e8 _
        refine nil_ ⟨q, _, rfl, e8, _, rfl, ?_⟩
        rw [show (List.replicate ([V.ref t, V.ref u] : List V).length true).all id = true by simp]
        refine iteF ⟨⟨_, _, _, _, rfl⟩, y7, z7, T7.same s8, d71, d72, e1, e2, e3, e4⟩
    · rintro σ H5 ⟨⟨o4, o5, o6, o7, rfl⟩, y, z, T5, dy, _, b1, b2, _⟩
      have sub : ∀ c ∈ a.all, c ∈ rl :: (a.all ++ b.all) := fun c hc => by simp [hc]
      have A5 : Al C n D0 D1 D2 D3 H5 a p (3 + 9 * 30) y := by
        obtain ⟨c, ns, x, l, g1, g2, g3, g4, g5, g6⟩ := T5.pw
        exact ⟨T5.oa.rw, ⟨c, ns, x, l, g1, g2, g3, g4, fun h => g5 (sub _ h), fun h => g6 (sub _ h)⟩, T5.tb⟩
      have hrl5 := T5.hrl
      have ht5 := T5.oa.tp
      have n1 := T5.oa.n1
      have n6 := T5.oa.n6
      have ra := T5.ra
      have z0 : ∀ b ∈ [(0 : Int)], 0 ≤ b ∧ b < n := fun b hb => by rw [List.mem_singleton.mp hb]; omega
      obtain ⟨pav, hpa, Pa⟩ := A5.rw.pa
      have pvl := Pa.len
      clear T4 T5
      refine ⟨_, rfl, rl, _, _, _, rfl, rfl, SqL.of hrl5, rfl, t, _, _, _, rfl, rfl, SqT.of ht5, rfl, a.wd, _, rfl, get_past A5.rw.wd, a.pa, _, rfl, .inl (SqL.of hpa), _, _, rfl, rfl, _, rfl, by omega, by omega, for_Y (yields_rng (lo := 0) (n := (((pav.length : Nat) : Int) + 1).toNat)) (fun i σ H' => (∃ o4 o5 o6 o7, σ = [some (.ref a0), some (.ref p), some (.int full), some (.ref rl), o4, o5, o6, o7]) ∧ ∃ y : Sx, Al C n D0 D1 D2 D3 H' a p (3 + 9 * 30) y ∧ y.ds.length ≤ 30 ∧ H' rl = some (.lst [.ref t, .ref u]) ∧ H' t = some (.tup [.ref a.p, .ref a.wd])) ?_ ?_ ?_ ?_⟩
      · exact ⟨⟨_, _, _, _, rfl⟩, y, A5, dy, hrl5, ht5⟩
      · intros; trivial
      · rintro i v σ H6' H6 hi ⟨⟨o4, o5, o6, o7, rfl⟩, y6, A6, d6, hrl6, ht6⟩ ⟨rfl, rfl⟩
        refine gN_ ⟨_, rfl, rl, _, _, _, rfl, rfl, SqL.of hrl6, rfl, t, _, _, _, rfl, rfl, SqT.of ht6, rfl, _, rfl, rl, _, _, _, rfl, rfl, SqL.of hrl6, rfl, t, _, _, _, rfl, rfl, SqT.of ht6, rfl, nil_ ?_⟩
        refine ⟨a, n, y6, rfl, A6.rw, by omega, A6.tb.t3, fun y7 H7 R7 o7 d7 _ => ⟨_, rfl, iteF ⟨⟨_, _, _, _, rfl⟩, y7, A6.off o7 R7, by rw [d7, List.length_tail]; omega, o7 _ _ hrl6 ra, A6.rw.tup o7 ht6⟩⟩⟩
      · rintro σ H6 ⟨⟨o4, o5, o6, o7, rfl⟩, y6, A6, d6, hrl6, ht6⟩
        refine ⟨_, rfl, rl, _, _, _, rfl, rfl, SqL.of hrl6, rfl, t, _, _, _, rfl, rfl, SqT.of ht6, rfl, _, rfl, rl, _, _, _, rfl, rfl, SqL.of hrl6, rfl, t, _, _, _, rfl, rfl, SqT.of ht6, rfl, lz 1 rfl, fun t7 h7 => nil_ ?_⟩
        refine (A6.same (same_new h7 (.tup [.int 0]))).put n1 n6 (dr := [0]) upd_same (by simp) (by simp) z0 (by omega) fun y8 H8 A8 _ _ _ => ⟨_, rfl, iteF ?_⟩
        refine ⟨_, rfl, rfl, _, rfl, ite2 (fun c => ?_) (fun c => ?_)⟩
        · refine ⟨_, rfl, _, rfl, p, 6, _, rfl, A8.pw.pen, by decide, by decide, by decide, fun r H9 r0 r1 p9 x9 => ⟨_, _, rfl, rfl, nil_ ?_⟩⟩
          have A9 := A8.draw x9 p9
          exact ⟨p, (1 + r).toNat, _, by rw [Int.toNat_of_nonneg (by omega)]; rfl, by omega, by omega, p9, by decide, A9.tb, k⟩
        · refine ⟨_, rfl, _, _, rfl, rfl, _, rfl, ite2 (fun c2 => ?_) (fun c2 => ?_)⟩
          · exact k _ A8.tb
          · refine ⟨_, rfl, _, rfl, p, 6, _, rfl, A8.pw.pen, by decide, by decide, by decide, fun r H9 r0 r1 p9 x9 => ⟨_, _, rfl, rfl, nil_ ?_⟩⟩
            have A9 := A8.draw x9 p9
            exact ⟨p, (1 + r).toNat, _, by rw [Int.toNat_of_nonneg (by omega)]; rfl, by omega, by omega, p9, by decide, A9.tb, k⟩
end
end My

set_option Elab.async false
set_option linter.all false
set_option maxRecDepth 100000
set_option maxHeartbeats 4000000
namespace My
open PySem L2 MA
/-- the class as the top has made it -/
noncomputable def RoomFuns (K : PySem.W.Frag) (mg : Str → Option Value) : Prop := ∃ C : Addr, RmT K mg C ∧ MFun K C "__init__" "Room.__init__" ["self", "n"] s_Room____init__ ∧ MFun K C "put" "Room.put" ["self", "draw"] s_Room__put ∧ MFun K C "leave" "Room.leave" ["self", "ball"] s_Room__leave ∧ MFun K C "back" "Room.back" ["self"] s_Room__back ∧ MFun K C "lay" "Room.lay" ["self", "ball", "box"] s_Room__lay ∧ MFun K C "lift" "Room.lift" ["self", "ball", "box"] s_Room__lift ∧ MFun K C "where" "Room.where" ["self", "ball"] s_Room__where ∧ MFun K C "stand" "Room.stand" ["self"] s_Room__stand ∧ MFun K C "load" "Room.load" ["self"] s_Room__load
theorem room_mk {K : PySem.W.Frag} {h : Heap} {mg : Str → Option Value} {C f0 f1 f2 f3 f4 f5 f6 f7 f8 : Addr} {od0 an0 od1 an1 od2 an2 od3 an3 od4 an4 od5 an5 od6 an6 od7 an7 od8 an8 : Option Addr} {sl0 sl1 sl2 sl3 sl4 sl5 sl6 sl7 sl8 : Array (Option Value)} {oc0 kV0 dc0 pm0 cd0 ct0 oc1 kV1 dc1 pm1 cd1 ct1 oc2 kV2 dc2 pm2 cd2 ct2 oc3 kV3 dc3 pm3 cd3 ct3 oc4 kV4 dc4 pm4 cd4 ct4 oc5 kV5 dc5 pm5 cd5 ct5 oc6 kV6 dc6 pm6 cd6 ct6 oc7 kV7 dc7 pm7 cd7 ct7 oc8 kV8 dc8 pm8 cd8 ct8 : Value} (X : K.In h) (G : h.Ns mainGlobals mg)
    (aC : PySem.W.nsIn K mainGlobals "Room" = some (some (.ref C))) (pg : PySem.W.plainGet K C Str.empty = true) (hd : PySem.W.hasDictIn K C = true) (po : PySem.W.plainOver K C = true) (sa : PySem.W.findIn K (.ref C) "__setattr__" = some (some (.builtin "object.__setattr__"))) (mk : PySem.W.makesIn K C = true) (kc : PySem.W.keepIn K (.ref C) = true)
    (n1 : PySem.W.findIn K (.ref C) "numbers" = some none) (n2 : PySem.W.findIn K (.ref C) "places" = some none) (n3 : PySem.W.findIn K (.ref C) "next_ball" = some none) (n4 : PySem.W.findIn K (.ref C) "deeds" = some none)
    (a0 : PySem.W.findIn K (.ref C) "__init__" = some (some (.ref f0))) (i0 : PySem.W.isFn K (.ref f0) = true) (l0 : K.lookup f0 = some ⟨oc0, od0, .func (PySem.W.fnOf "__init__" "Room.__init__" (defArgs s_Room____init__) (defBody s_Room____init__) (defScope s_Room____init__) .none kV0 dc0 pm0 an0 cd0 ct0), sl0⟩) (c0 : PySem.W.codeIn K cd0 "Room.__init__" = true) (k0 : PySem.W.keepIn K (.ref f0) = true)
    (a1 : PySem.W.findIn K (.ref C) "put" = some (some (.ref f1))) (i1 : PySem.W.isFn K (.ref f1) = true) (l1 : K.lookup f1 = some ⟨oc1, od1, .func (PySem.W.fnOf "put" "Room.put" (defArgs s_Room__put) (defBody s_Room__put) (defScope s_Room__put) .none kV1 dc1 pm1 an1 cd1 ct1), sl1⟩) (c1 : PySem.W.codeIn K cd1 "Room.put" = true) (k1 : PySem.W.keepIn K (.ref f1) = true)
    (a2 : PySem.W.findIn K (.ref C) "leave" = some (some (.ref f2))) (i2 : PySem.W.isFn K (.ref f2) = true) (l2 : K.lookup f2 = some ⟨oc2, od2, .func (PySem.W.fnOf "leave" "Room.leave" (defArgs s_Room__leave) (defBody s_Room__leave) (defScope s_Room__leave) .none kV2 dc2 pm2 an2 cd2 ct2), sl2⟩) (c2 : PySem.W.codeIn K cd2 "Room.leave" = true) (k2 : PySem.W.keepIn K (.ref f2) = true)
    (a3 : PySem.W.findIn K (.ref C) "back" = some (some (.ref f3))) (i3 : PySem.W.isFn K (.ref f3) = true) (l3 : K.lookup f3 = some ⟨oc3, od3, .func (PySem.W.fnOf "back" "Room.back" (defArgs s_Room__back) (defBody s_Room__back) (defScope s_Room__back) .none kV3 dc3 pm3 an3 cd3 ct3), sl3⟩) (c3 : PySem.W.codeIn K cd3 "Room.back" = true) (k3 : PySem.W.keepIn K (.ref f3) = true)
    (a4 : PySem.W.findIn K (.ref C) "lay" = some (some (.ref f4))) (i4 : PySem.W.isFn K (.ref f4) = true) (l4 : K.lookup f4 = some ⟨oc4, od4, .func (PySem.W.fnOf "lay" "Room.lay" (defArgs s_Room__lay) (defBody s_Room__lay) (defScope s_Room__lay) .none kV4 dc4 pm4 an4 cd4 ct4), sl4⟩) (c4 : PySem.W.codeIn K cd4 "Room.lay" = true) (k4 : PySem.W.keepIn K (.ref f4) = true)
    (a5 : PySem.W.findIn K (.ref C) "lift" = some (some (.ref f5))) (i5 : PySem.W.isFn K (.ref f5) = true) (l5 : K.lookup f5 = some ⟨oc5, od5, .func (PySem.W.fnOf "lift" "Room.lift" (defArgs s_Room__lift) (defBody s_Room__lift) (defScope s_Room__lift) .none kV5 dc5 pm5 an5 cd5 ct5), sl5⟩) (c5 : PySem.W.codeIn K cd5 "Room.lift" = true) (k5 : PySem.W.keepIn K (.ref f5) = true)
    (a6 : PySem.W.findIn K (.ref C) "where" = some (some (.ref f6))) (i6 : PySem.W.isFn K (.ref f6) = true) (l6 : K.lookup f6 = some ⟨oc6, od6, .func (PySem.W.fnOf "where" "Room.where" (defArgs s_Room__where) (defBody s_Room__where) (defScope s_Room__where) .none kV6 dc6 pm6 an6 cd6 ct6), sl6⟩) (c6 : PySem.W.codeIn K cd6 "Room.where" = true) (k6 : PySem.W.keepIn K (.ref f6) = true)
    (a7 : PySem.W.findIn K (.ref C) "stand" = some (some (.ref f7))) (i7 : PySem.W.isFn K (.ref f7) = true) (l7 : K.lookup f7 = some ⟨oc7, od7, .func (PySem.W.fnOf "stand" "Room.stand" (defArgs s_Room__stand) (defBody s_Room__stand) (defScope s_Room__stand) .none kV7 dc7 pm7 an7 cd7 ct7), sl7⟩) (c7 : PySem.W.codeIn K cd7 "Room.stand" = true) (k7 : PySem.W.keepIn K (.ref f7) = true)
    (a8 : PySem.W.findIn K (.ref C) "load" = some (some (.ref f8))) (i8 : PySem.W.isFn K (.ref f8) = true) (l8 : K.lookup f8 = some ⟨oc8, od8, .func (PySem.W.fnOf "load" "Room.load" (defArgs s_Room__load) (defBody s_Room__load) (defScope s_Room__load) .none kV8 dc8 pm8 an8 cd8 ct8), sl8⟩) (c8 : PySem.W.codeIn K cd8 "Room.load" = true) (k8 : PySem.W.keepIn K (.ref f8) = true)
    : RoomFuns K mg :=
  ⟨C, ⟨⟨⟨pg, hd, po, sa⟩, PySem.W.mg_of X G aC, mk, kc⟩, n1, n2, n3, n4⟩, mfun_mk (fun _ _ _ _ _ _ us hl => match us, hl with | [_, _], _ => rfl) a0 i0 l0 c0 k0, mfun_mk (fun _ _ _ _ _ _ us hl => match us, hl with | [_, _], _ => rfl) a1 i1 l1 c1 k1, mfun_mk (fun _ _ _ _ _ _ us hl => match us, hl with | [_, _], _ => rfl) a2 i2 l2 c2 k2, mfun_mk (fun _ _ _ _ _ _ us hl => match us, hl with | [_], _ => rfl) a3 i3 l3 c3 k3, mfun_mk (fun _ _ _ _ _ _ us hl => match us, hl with | [_, _, _], _ => rfl) a4 i4 l4 c4 k4, mfun_mk (fun _ _ _ _ _ _ us hl => match us, hl with | [_, _, _], _ => rfl) a5 i5 l5 c5 k5, mfun_mk (fun _ _ _ _ _ _ us hl => match us, hl with | [_, _], _ => rfl) a6 i6 l6 c6 k6, mfun_mk (fun _ _ _ _ _ _ us hl => match us, hl with | [_], _ => rfl) a7 i7 l7 c7 k7, mfun_mk (fun _ _ _ _ _ _ us hl => match us, hl with | [_], _ => rfl) a8 i8 l8 c8 k8⟩
theorem mr_MOST {K : PySem.W.Frag} {h : Heap} {mg : Str → Option Value} {tk : Tok} (X : K.In h) (G : h.Ns mainGlobals mg) (a : PySem.W.nsIn K mainGlobals "MOST_IN_ROOM" = some (some (.int 60 tk))) : ∃ tk : Tok, mg "MOST_IN_ROOM" = some (.int 60 tk) := ⟨tk, PySem.W.mg_of X G a⟩
end My

set_option Elab.async false
set_option linter.all false
set_option maxRecDepth 100000
set_option maxHeartbeats 4000000
namespace My
open PySem L2 MA
theorem ar1 {C : List Value → Prop} (h : ∀ a0, C [a0]) : ∀ us : List Value, us.length = 1 → C us
  | [a0], _ => h a0
theorem ar2 {C : List Value → Prop} (h : ∀ a0 a1, C [a0, a1]) : ∀ us : List Value, us.length = 2 → C us
  | [a0, a1], _ => h a0 a1
theorem ar3 {C : List Value → Prop} (h : ∀ a0 a1 a2, C [a0, a1, a2]) : ∀ us : List Value, us.length = 3 → C us
  | [a0, a1, a2], _ => h a0 a1 a2
structure Funs (K : PySem.W.Frag) (mg : Str → Option Value) : Prop where
  f_emptiest_of : FunAt K mg "emptiest_of" ["numbers", "draw"] s_emptiest_of
  f_is_whole : FunAt K mg "is_whole" ["thing"] s_is_whole
  f_falling : FunAt K mg "falling" ["numbers"] s_falling
  f_l_pen : FunAt K mg "_law_pen" ["_law_script"] s_l_pen
  f_l_draw : FunAt K mg "_law_draw" ["_law_pen_here", "_law_many"] s_l_draw
  f_l_is_whole : FunAt K mg "_law_is_whole" ["_law_thing"] s_l_is_whole
  f_l_heard : FunAt K mg "_law_heard" ["_law_asked"] s_l_heard
  f_l_counts : FunAt K mg "_law_counts" ["_law_world"] s_l_counts
  f_l_put_right : FunAt K mg "_law_put_right" ["_law_room", "_law_world", "_law_draw_here"] s_l_put_right
  f_l_leave_right : FunAt K mg "_law_leave_right" ["_law_room", "_law_world", "_law_ball_here"] s_l_leave_right
  f_l_back_right : FunAt K mg "_law_back_right" ["_law_room", "_law_world"] s_l_back_right
  f_l_shown_right : FunAt K mg "_law_shown_right" ["_law_room", "_law_world"] s_l_shown_right
  f_l_ball : FunAt K mg "_law_ball" ["_law_pen_here", "_law_world"] s_l_ball
  f_l_deed_right : FunAt K mg "_law_deed_right" ["_law_pen_here", "_law_room", "_law_world"] s_l_deed_right
  f_l_full_right : FunAt K mg "_law_full_right" ["_law_pen_here", "_law_n"] s_l_full_right
  f_l_long_right : FunAt K mg "_law_long_right" ["_law_pen_here", "_law_n"] s_l_long_right
theorem all_mk {l : PySem.W.OpenLaw} {w : World} {K : PySem.W.Frag} {h : Heap} {mg : Str → Option Value} {fa f3 : Addr} (X : K.In h) (G : h.Ns mainGlobals mg) (hfa : mg "law" = some (.ref fa))
    {od3 an3 : Option Addr} {sl3 : Array (Option Value)} {oc3 kV3 dc3 pm3 cd3 ct3 : Value} {er : Errs} (T : Txt2 mg) (N : ErrN mg er) (q1 : errOk K er er.c1 1 = true) (q4 : errOk K er er.c4 4 = true) (q5 : errOk K er er.c5 5 = true) (FA : Funs K mg) {tk_M : Tok} (h_M : mg "MOST_IN_ROOM" = some (.int 60 tk_M)) (RM : RoomFuns K mg)
    (a3 : PySem.W.nsIn K mainGlobals "law" = some (some (.ref f3))) (l3 : K.lookup f3 = some ⟨oc3, od3, .func (PySem.W.fnOf "law" "law" (defArgs s_law) (defBody s_law) (defScope s_law) .none kV3 dc3 pm3 an3 cd3 ct3), sl3⟩) (c3 : PySem.W.codeIn K cd3 "law" = true) (k3 : PySem.W.keepIn K (.ref f3) = true) :
    ∃ fd : FuncData, (∀ (s : Shared) (v : Value), BindsTo s fd ⟨[v], []⟩ [("_law_script", v)]) ∧ ∀ (cp : Str → Addr × Addr) (base : Heap), K.In base → base.Ns mainGlobals mg → (∀ y ∈ (["emptiest_of", "_law_put_right", "_law_leave_right", "_law_back_right"] : List Str), LamFor mg base y (cp y).1 (cp y).2) → FnOk l.prog w K mg base CX0 10 fa fd ["_law_script"] (spLaw4 K (cp "emptiest_of").2 (cp "_law_put_right").2 (cp "_law_leave_right").2 (cp "_law_back_right").2) := by
  have e := hfa.symm.trans (PySem.W.mg_of X G a3)
  cases e
  have F3 := fun_mk (st := s_law) l3 c3 k3
  refine ⟨PySem.W.fnOf "law" "law" (defArgs s_law) (defBody s_law) (defScope s_law) .none kV3 dc3 pm3 an3 cd3 ct3, fun s v => .of_eq rfl, fun cp base kb nb LF => ?_⟩
  obtain ⟨e1, z1⟩ := errOk_of q1
  obtain ⟨e4, z4⟩ := errOk_of q4
  obtain ⟨e5, z5⟩ := errOk_of q5
  have L0 := LF "emptiest_of" (by simp)
  have L1 := LF "_law_put_right" (by simp)
  have L2 := LF "_law_leave_right" (by simp)
  have L3 := LF "_law_back_right" (by simp)
  have c_em := ok_em (P := l.prog) (w := w) (base := base) T kb L0 FA.f_emptiest_of
  obtain ⟨C, R, m___init__, m_put, m_leave, m_back, m_lay, m_lift, m_where, m_stand, m_load⟩ := RM
  have c_whole := ok_wholeV (P := l.prog) (w := w) (base := base) T FA.f_is_whole
  have c_lwhole := ok_lwholeV (P := l.prog) (w := w) (base := base) T FA.f_l_is_whole
  have c_falling := ok_falling (P := l.prog) (w := w) (base := base) T FA.f_falling
  have c_heard := ok_heard (P := l.prog) (w := w) (base := base) T N FA.f_l_heard
  have M_init := ok_init (P := l.prog) (w := w) (base := base) R m___init__
  have M_lay := ok_lay (P := l.prog) (w := w) (base := base) R m_lay
  have M_lift := ok_lift (P := l.prog) (w := w) (base := base) R m_lift
  have M_where1 := ok_where1 R N z1 c_whole m_where
  have M_whereR := M_where1.imp whereR1
  have M_where0 := M_whereR.cal0.imp whereR0
  have M_put := ok_put1 R N z4 T h_M ⟨tk_M, rfl⟩ c_em M_lay m_put
  have M_leave := ok_leave1 R M_where1 M_lift m_leave
  have M_back := ok_back1 R N z5 M_lay M_lift m_back
  have M_stand := ok_stand (P := l.prog) (w := w) (base := base) R T m_stand
  have M_load := ok_loadR R T c_falling m_load
  have c_pen := ok_pen (P := l.prog) (w := w) (base := base) FA.f_l_pen
  have c_draw := ok_draw (P := l.prog) (w := w) (base := base) T.toTxt FA.f_l_draw
  have c_counts := ok_counts (P := l.prog) (w := w) (base := base) T FA.f_l_counts
  have c_pr := ok_pr R T kb L1 e4 c_counts c_lwhole c_heard M_put FA.f_l_put_right
  have c_lr := ok_lr R T kb L2 e1 c_lwhole c_heard M_leave M_whereR FA.f_l_leave_right
  have c_br := ok_br R T kb L3 e5 c_heard M_back FA.f_l_back_right
  have c_shr := ok_shr R T c_counts M_where0 M_stand M_load FA.f_l_shown_right
  have c_ball := ok_ball T c_draw FA.f_l_ball
  have c_dr := ok_dr T c_draw c_ball c_pr c_lr c_br FA.f_l_deed_right
  have c_fr := ok_fr R T M_init c_draw c_pr c_lr c_br c_shr FA.f_l_full_right
  have c_lgr := ok_lgr R T M_init c_draw c_pr c_lr c_br c_shr FA.f_l_long_right
  exact ok_law R T M_init c_pen c_draw c_pr c_br c_shr c_dr c_fr c_lgr F3
theorem walk {l : PySem.W.OpenLaw} {q : Program} {loose : List Str} {XP : (Str → Option Value) → Heap → Prop} {YP : World → Heap → Prop} {d : PySem.DefRec} {K : Params → PySem.W.Frag} (hn : l.most = some 63) (hdf : d.params.defaults = [])
    (hY : ∀ (w : World) (h : Heap), YP w h → (K w.params).In h) (noT : ∀ p, PySem.W.noTabs (K p) = true) (hTab : ∀ p, L2.tabsOk (K p) ["emptiest_of", "_law_put_right", "_law_leave_right", "_law_back_right"] = true) (hlam : ∀ y ∈ (["emptiest_of", "_law_put_right", "_law_leave_right", "_law_back_right"] : List Str), ∃ e ∈ PyProof.Rows.recsOf q, e.name = y)
    (F : ∀ (w : World) (mg : Str → Option Value) (fa : Addr) (h : Heap), (K w.params).In h → h.Ns mainGlobals mg → mg d.name = some (.ref fa) →
      ∃ fd : FuncData, (∀ (s : Shared) (u : Value), BindsTo s fd ⟨[u], []⟩ [("_law_script", u)]) ∧ ∀ (cp : Str → Addr × Addr) (base : Heap), (K w.params).In base → base.Ns mainGlobals mg → (∀ y ∈ (["emptiest_of", "_law_put_right", "_law_leave_right", "_law_back_right"] : List Str), LamFor mg base y (cp y).1 (cp y).2) → FnOk l.prog w (K w.params) mg base CX0 10 fa fd ["_law_script"] (spLaw4 (K w.params) (cp "emptiest_of").2 (cp "_law_put_right").2 (cp "_law_leave_right").2 (cp "_law_back_right").2)) :
    PySem.W.WalkO q loose XP YP l.row.toRowW d [] (fun f vs => PySem.call f vs) :=
  L2.walk_ofT (n := 63) (k := 10) (x := "_law_script") (lams := ["emptiest_of", "_law_put_right", "_law_leave_right", "_law_back_right"]) (sp := fun w cp => spLaw4 (K w.params) (cp "emptiest_of").2 (cp "_law_put_right").2 (cp "_law_leave_right").2 (cp "_law_back_right").2) hn (by decide) hdf ⟨rfl, by decide, by decide, rfl⟩ noT hlam hY
    (L2.inj_of hTab) F (fun _ cp H a ns hl hS hT => ⟨a, ns, rfl, hS, hl, ⟨hT "emptiest_of" (by simp), hT "_law_put_right" (by simp), hT "_law_leave_right" (by simp), hT "_law_back_right" (by simp)⟩, fun H' h' => ⟨rfl, fun y hy => by
      simp only [List.mem_cons, List.not_mem_nil, or_false] at hy
      rcases hy with rfl | rfl | rfl | rfl
      · exact h'.t0
      · exact h'.t1
      · exact h'.t2
      · exact h'.t3⟩⟩)
theorem txt_mk {K : PySem.W.Frag} {h : Heap} {mg : Str → Option Value} (X : K.In h) (G : h.Ns mainGlobals mg)
    (z_abs : PySem.W.nsIn K mainGlobals "abs" = some none)
    (z_len : PySem.W.nsIn K mainGlobals "len" = some none)
    (z_isinstance : PySem.W.nsIn K mainGlobals "isinstance" = some none)
    (z_range : PySem.W.nsIn K mainGlobals "range" = some none)
    (z_int : PySem.W.nsIn K mainGlobals "int" = some none)
    (z_bool : PySem.W.nsIn K mainGlobals "bool" = some none)
    (z_tuple : PySem.W.nsIn K mainGlobals "tuple" = some none)
    (z_list : PySem.W.nsIn K mainGlobals "list" = some none)
    (z_all : PySem.W.nsIn K mainGlobals "all" = some none)
    (z_str : PySem.W.nsIn K mainGlobals "str" = some none)
    (z_repr : PySem.W.nsIn K mainGlobals "repr" = some none)
    (z_dict : PySem.W.nsIn K mainGlobals "dict" = some none)
    (z_sum : PySem.W.nsIn K mainGlobals "sum" = some none)
    (z_sorted : PySem.W.nsIn K mainGlobals "sorted" = some none)
    (z_max : PySem.W.nsIn K mainGlobals "max" = some none)
    (z_min : PySem.W.nsIn K mainGlobals "min" = some none)
    (z_any : PySem.W.nsIn K mainGlobals "any" = some none)
    (z_enumerate : PySem.W.nsIn K mainGlobals "enumerate" = some none)
    (z_zip : PySem.W.nsIn K mainGlobals "zip" = some none)
    (z_set : PySem.W.nsIn K mainGlobals "set" = some none)
    (z_reversed : PySem.W.nsIn K mainGlobals "reversed" = some none)
    (z_ValueError : PySem.W.nsIn K mainGlobals "ValueError" = some none)
    : Txt2 mg := ⟨⟨PySem.W.mg_none_of X G z_abs, PySem.W.mg_none_of X G z_len, PySem.W.mg_none_of X G z_isinstance, PySem.W.mg_none_of X G z_range, PySem.W.mg_none_of X G z_int, PySem.W.mg_none_of X G z_bool, PySem.W.mg_none_of X G z_tuple, PySem.W.mg_none_of X G z_list, PySem.W.mg_none_of X G z_all⟩, PySem.W.mg_none_of X G z_str, PySem.W.mg_none_of X G z_repr, PySem.W.mg_none_of X G z_dict, PySem.W.mg_none_of X G z_sum, PySem.W.mg_none_of X G z_sorted, PySem.W.mg_none_of X G z_max, PySem.W.mg_none_of X G z_min, PySem.W.mg_none_of X G z_any, PySem.W.mg_none_of X G z_enumerate, PySem.W.mg_none_of X G z_zip, PySem.W.mg_none_of X G z_set, PySem.W.mg_none_of X G z_reversed, PySem.W.mg_none_of X G z_ValueError⟩
end My
open PySem PySem.W PyProof.Rows
set_option maxRecDepth 100000 in
set_option maxHeartbeats 0 in
theorem PySem.Challenge.cw_emptierbox_k57_a_room_holds : PySem.Challenge.rw_emptierbox_k57_a_room.Holds := by
  refine My.hd ?_
  k_fill
  refine My.walk (l := PySem.Challenge.rw_emptierbox_k57_a_room) rfl rfl (fun w h Y => PySem.W.km_in_of Y) ?noT ?tab ?lam ?F
  case noT => intro p; kernel_rfl
  case tab => intro p; kernel_rfl
  case lam =>
    intro y hy
    simp only [List.mem_cons, List.not_mem_nil, or_false] at hy
    rcases hy with rfl | rfl | rfl | rfl <;> exact My.lam_rec rfl
  case F =>
    intro w mg fa h KX G hmg
    have T : My.Txt2 mg := by
      refine' My.txt_mk KX G ?z0 ?z1 ?z2 ?z3 ?z4 ?z5 ?z6 ?z7 ?z8 ?z9 ?z10 ?z11 ?z12 ?z13 ?z14 ?z15 ?z16 ?z17 ?z18 ?z19 ?z20 ?z21
      case z0 | z1 | z2 | z3 | z4 | z5 | z6 | z7 | z8 | z9 | z10 | z11 | z12 | z13 | z14 | z15 | z16 | z17 | z18 | z19 | z20 | z21 => k_is
    have f_emptiest_of : L2.FunAt (L2.KOf KX) mg "emptiest_of" ["numbers", "draw"] My.s_emptiest_of := by
      dsimp only [L2.KOf]
      refine' L2.funAt_mk KX G (fun _ _ _ _ _ _ => My.ar2 fun _ _ => rfl) ?a ?l ?c ?k
      case a | l | c | k => k_is
    have f_is_whole : L2.FunAt (L2.KOf KX) mg "is_whole" ["thing"] My.s_is_whole := by
      dsimp only [L2.KOf]
      refine' L2.funAt_mk KX G (fun _ _ _ _ _ _ => My.ar1 fun _ => rfl) ?a ?l ?c ?k
      case a | l | c | k => k_is
    have f_falling : L2.FunAt (L2.KOf KX) mg "falling" ["numbers"] My.s_falling := by
      dsimp only [L2.KOf]
      refine' L2.funAt_mk KX G (fun _ _ _ _ _ _ => My.ar1 fun _ => rfl) ?a ?l ?c ?k
      case a | l | c | k => k_is
    have f_l_pen : L2.FunAt (L2.KOf KX) mg "_law_pen" ["_law_script"] My.s_l_pen := by
      dsimp only [L2.KOf]
      refine' L2.funAt_mk KX G (fun _ _ _ _ _ _ => My.ar1 fun _ => rfl) ?a ?l ?c ?k
      case a | l | c | k => k_is
    have f_l_draw : L2.FunAt (L2.KOf KX) mg "_law_draw" ["_law_pen_here", "_law_many"] My.s_l_draw := by
      dsimp only [L2.KOf]
      refine' L2.funAt_mk KX G (fun _ _ _ _ _ _ => My.ar2 fun _ _ => rfl) ?a ?l ?c ?k
      case a | l | c | k => k_is
    have f_l_is_whole : L2.FunAt (L2.KOf KX) mg "_law_is_whole" ["_law_thing"] My.s_l_is_whole := by
      dsimp only [L2.KOf]
      refine' L2.funAt_mk KX G (fun _ _ _ _ _ _ => My.ar1 fun _ => rfl) ?a ?l ?c ?k
      case a | l | c | k => k_is
    have f_l_heard : L2.FunAt (L2.KOf KX) mg "_law_heard" ["_law_asked"] My.s_l_heard := by
      dsimp only [L2.KOf]
      refine' L2.funAt_mk KX G (fun _ _ _ _ _ _ => My.ar1 fun _ => rfl) ?a ?l ?c ?k
      case a | l | c | k => k_is
    have f_l_counts : L2.FunAt (L2.KOf KX) mg "_law_counts" ["_law_world"] My.s_l_counts := by
      dsimp only [L2.KOf]
      refine' L2.funAt_mk KX G (fun _ _ _ _ _ _ => My.ar1 fun _ => rfl) ?a ?l ?c ?k
      case a | l | c | k => k_is
    have f_l_put_right : L2.FunAt (L2.KOf KX) mg "_law_put_right" ["_law_room", "_law_world", "_law_draw_here"] My.s_l_put_right := by
      dsimp only [L2.KOf]
      refine' L2.funAt_mk KX G (fun _ _ _ _ _ _ => My.ar3 fun _ _ _ => rfl) ?a ?l ?c ?k
      case a | l | c | k => k_is
    have f_l_leave_right : L2.FunAt (L2.KOf KX) mg "_law_leave_right" ["_law_room", "_law_world", "_law_ball_here"] My.s_l_leave_right := by
      dsimp only [L2.KOf]
      refine' L2.funAt_mk KX G (fun _ _ _ _ _ _ => My.ar3 fun _ _ _ => rfl) ?a ?l ?c ?k
      case a | l | c | k => k_is
    have f_l_back_right : L2.FunAt (L2.KOf KX) mg "_law_back_right" ["_law_room", "_law_world"] My.s_l_back_right := by
      dsimp only [L2.KOf]
      refine' L2.funAt_mk KX G (fun _ _ _ _ _ _ => My.ar2 fun _ _ => rfl) ?a ?l ?c ?k
      case a | l | c | k => k_is
    have f_l_shown_right : L2.FunAt (L2.KOf KX) mg "_law_shown_right" ["_law_room", "_law_world"] My.s_l_shown_right := by
      dsimp only [L2.KOf]
      refine' L2.funAt_mk KX G (fun _ _ _ _ _ _ => My.ar2 fun _ _ => rfl) ?a ?l ?c ?k
      case a | l | c | k => k_is
    have f_l_ball : L2.FunAt (L2.KOf KX) mg "_law_ball" ["_law_pen_here", "_law_world"] My.s_l_ball := by
      dsimp only [L2.KOf]
      refine' L2.funAt_mk KX G (fun _ _ _ _ _ _ => My.ar2 fun _ _ => rfl) ?a ?l ?c ?k
      case a | l | c | k => k_is
    have f_l_deed_right : L2.FunAt (L2.KOf KX) mg "_law_deed_right" ["_law_pen_here", "_law_room", "_law_world"] My.s_l_deed_right := by
      dsimp only [L2.KOf]
      refine' L2.funAt_mk KX G (fun _ _ _ _ _ _ => My.ar3 fun _ _ _ => rfl) ?a ?l ?c ?k
      case a | l | c | k => k_is
    have f_l_full_right : L2.FunAt (L2.KOf KX) mg "_law_full_right" ["_law_pen_here", "_law_n"] My.s_l_full_right := by
      dsimp only [L2.KOf]
      refine' L2.funAt_mk KX G (fun _ _ _ _ _ _ => My.ar2 fun _ _ => rfl) ?a ?l ?c ?k
      case a | l | c | k => k_is
    have f_l_long_right : L2.FunAt (L2.KOf KX) mg "_law_long_right" ["_law_pen_here", "_law_n"] My.s_l_long_right := by
      dsimp only [L2.KOf]
      refine' L2.funAt_mk KX G (fun _ _ _ _ _ _ => My.ar2 fun _ _ => rfl) ?a ?l ?c ?k
      case a | l | c | k => k_is
    have h_M : ∃ tk : Tok, mg "MOST_IN_ROOM" = some (.int 60 tk) := by
      refine' My.mr_MOST KX G ?a
      (case a => first | k_is | exact rfl)
    obtain ⟨tk_M, h_M⟩ := h_M
    have RM : My.RoomFuns (L2.KOf KX) mg := by
      dsimp only [L2.KOf]
      refine' My.room_mk KX G ?aC ?pg ?hd ?po ?sa ?mk ?kc ?n1 ?n2 ?n3 ?n4 ?a0 ?i0 ?l0 ?c0 ?k0 ?a1 ?i1 ?l1 ?c1 ?k1 ?a2 ?i2 ?l2 ?c2 ?k2 ?a3 ?i3 ?l3 ?c3 ?k3 ?a4 ?i4 ?l4 ?c4 ?k4 ?a5 ?i5 ?l5 ?c5 ?k5 ?a6 ?i6 ?l6 ?c6 ?k6 ?a7 ?i7 ?l7 ?c7 ?k7 ?a8 ?i8 ?l8 ?c8 ?k8
      (case aC => k_is)
      (case pg => k_is)
      (case hd => k_is)
      (case po => k_is)
      (case sa => k_is)
      (case mk => k_is)
      (case kc => k_is)
      (case n1 => k_is)
      (case n2 => k_is)
      (case n3 => k_is)
      (case n4 => k_is)
      (case a0 => k_is)
      (case i0 => k_is)
      (case l0 => k_is)
      (case c0 => k_is)
      (case k0 => k_is)
      (case a1 => k_is)
      (case i1 => k_is)
      (case l1 => k_is)
      (case c1 => k_is)
      (case k1 => k_is)
      (case a2 => k_is)
      (case i2 => k_is)
      (case l2 => k_is)
      (case c2 => k_is)
      (case k2 => k_is)
      (case a3 => k_is)
      (case i3 => k_is)
      (case l3 => k_is)
      (case c3 => k_is)
      (case k3 => k_is)
      (case a4 => k_is)
      (case i4 => k_is)
      (case l4 => k_is)
      (case c4 => k_is)
      (case k4 => k_is)
      (case a5 => k_is)
      (case i5 => k_is)
      (case l5 => k_is)
      (case c5 => k_is)
      (case k5 => k_is)
      (case a6 => k_is)
      (case i6 => k_is)
      (case l6 => k_is)
      (case c6 => k_is)
      (case k6 => k_is)
      (case a7 => k_is)
      (case i7 => k_is)
      (case l7 => k_is)
      (case c7 => k_is)
      (case k7 => k_is)
      (case a8 => k_is)
      (case i8 => k_is)
      (case l8 => k_is)
      (case c8 => k_is)
      (case k8 => k_is)
    refine' My.all_mk KX G hmg T (My.errN_mk KX G ?n ?n0 ?n1 ?n2 ?n3 ?n4 ?n5 ?n6 ?n7 ?n8) ?q1 ?q4 ?q5 ⟨f_emptiest_of, f_is_whole, f_falling, f_l_pen, f_l_draw, f_l_is_whole, f_l_heard, f_l_counts, f_l_put_right, f_l_leave_right, f_l_back_right, f_l_shown_right, f_l_ball, f_l_deed_right, f_l_full_right, f_l_long_right⟩ h_M RM ?a3 ?l3 ?c3 ?k3
    (case n => k_is); (case n0 => k_is); (case n1 => k_is); (case n2 => k_is); (case n3 => k_is); (case n4 => k_is); (case n5 => k_is); (case n6 => k_is); (case n7 => k_is); (case n8 => k_is)
    (case q1 => kernel_rfl)
    (case q4 => kernel_rfl)
    (case q5 => kernel_rfl)
    (case a3 => k_is); (case l3 => k_is); (case c3 => k_is); (case k3 => k_is)

